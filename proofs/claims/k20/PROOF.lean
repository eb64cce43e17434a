import PyProof.Rows.All
import Wide.All
import OpenK.AllK
import Wide.FinOn
import HandS.ForMost
import HandS.ForExc
import HandS.EndBits
import HandS.Wide
import HandS.IsInst
import HandS.ExcInit
import HandS.Nested
import KE.KExcSuper
import HandS.ExcIs
import HandS.ExcField
import HandS.Gcd
import HandS.Rev
import HandS.Walk
import HandS.Style
import HandS.FStr
import HandS.TryOnly
import KE.GoesEnumKw
import HandS.Text
import HandS.SortInts
import HandS.More
import KE.DataMinMax
import HandS.ClsMeth
import HandS.WordsExc
import HandS.Deep
import HandS.StrMore
import HandS.TryMany
import KE.SortData
import KE.SortKeyHeap
import HandS.RevRange
import HandS.Lambda
import HandS.EndTab
import PyProof.Rows.TupSub
import HandS.SortKw
import KE.KSortKey
import PySem.Challenge.RW_samphire_k20_merging_weighted_samples
set_option Elab.async false
set_option linter.all false
set_option maxRecDepth 100000

/-! ### an own exception whose __init__ begins with super().__init__(..) -/
namespace Sup
open PySem PySem.Spec PyProof.Rows L2 NdefX
/-- what the written part says of such a class (at C), of its __init__ (at f; its code at c, its cell of the class at cc) -/
structure SupC (P : Program) (K : PySem.W.Frag) (mg : Str → Option Value) (C f c cc : Addr) : Prop where
  T : OexC K C
  cd : ∃ cd, PySem.W.clsIn K C = some cd
  code : ∃ occ cdd vs sl file tf, K.lookup c = some ⟨occ, cdd, .fields vs, sl⟩ ∧ vs[2]? = some (.str file tf) ∧ ((P.main.file : Str) == file) = true
  cell : ∃ cl cld sl, K.lookup cc = some ⟨cl, cld, .cell (some (.ref C)), sl⟩
  sub : PySem.W.mroIn K C (.ref C) = some true
  subV : PySem.W.subIn K (.ref C) (.type "ValueError") = some true
  zs : mg "super" = none
  any : PySem.W.nsIn K PySem.cStatics "thirdparty.any" = some none
  sup : PySem.W.ks_superIn K C C "__init__" = some (some (.builtin "ValueError.__init__"))
  top : (P.main.scope.names.lookup ("super" : Str)).isSome = false
section
variable {CX : CXT} {P : Program} {w : World} {K : PySem.W.Frag} {mg : Str → Option Value} {base : Heap} {N ps : List Str} {F : NF} {f C cc : Addr} {k : Nat} {sp : Sp}
/-- the body's first statement -/
abbrev supSt (arg : Expr) (p0 p1 p2 p3 p4 : Pos) : Stmt := .Expr (.Call (.Attribute (.Call (.Name "super" p0) [] [] p1) "__init__" p2) [arg] [] p3) p4
theorem callW {M : Model} {A : Around} {E : Value → Shared → Prop} {s : Shared} {i : String} {u x : Addr} {pos : Pos} {env : Env} {e : Expr} {Q : Value → Shared → Prop} (he : starEach [e] env = (false, eval e env) :: starEach [] env)
    (h : wpAny M A (spliced (backTo pos (starEach [e] env))) (fun vs s₁ => PySem.W.KxsAt i u x s₁.heap ∧ wpAny M A (call (.ref u) vs) Q E s₁) E s) : wpAny M A (callWith pos (.ref u) [] (backTo pos (starEach [e] env)) []) Q E s := by
  rw [he] at h ⊢
  refine PySem.W.kxs_callWith (i := i) (x := x) rfl ?_
  exact PySem.Calls.evalArgs_plain h
theorem fn_super {oc : Value} {od : Option Addr} {osl : Array (Option Value)} {doc pm ctv : Value} {arg : Expr} {rest : List Stmt} {p0 p1 p2 p3 p4 : Pos} {p : Str} {ps' : List Str}
    (T : SupC P K mg C f F.c cc) (lk : K.lookup f = some ⟨oc, od, .func (F.fd doc pm ctv), osl⟩) (hcl : F.cl = [(("__class__" : Str), cc)]) (hcd : PySem.W.codeIn K (.ref F.c) F.qual = true) (S : NScope N ps ["__class__"] F.scope) (hps : ps = p :: ps')
    (hpar : ∃ ar, (F.params.posonlyargs ++ F.params.args).head? = some ar ∧ ar.arg = p) (hsu : F.scope.names.lookup ("super" : Str) = some .globalImplicit) (hbd : F.body = supSt arg p0 p1 p2 p3 p4 :: rest)
    (hsw : ∀ L : Addr, swapsWith (.Call (.Attribute (.Call (.Name "super" p0) [] [] p1) "__init__" p2) [arg] [] p3) none p4.line (envF F f L) = pure false)
    (hev : ∀ L : Addr, ∃ pl, eval (.Call (.Attribute (.Call (.Name "super" p0) [] [] p1) "__init__" p2) [arg] [] p3) (envF F f L) = (do
        let ov ← attributeBase (.Call (.Name "super" p0) [] [] p1) "__init__" (envF F f L) (eval (.Call (.Name "super" p0) [] [] p1) (envF F f L))
        standAt p2.atName
        let (f', first) ← holding [ov] (getMethod ov "__init__" pl)
        callWith p3 f' first (backTo p3 (starEach [arg] (envF F f L))) []))
    (hst : ∀ L : Addr, starEach [arg] (envF F f L) = (false, eval arg (envF F f L)) :: starEach [] (envF F f L))
    (len : ∀ vs H Q E, sp vs H Q E → vs.length = ps.length)
    (hbody : ∀ (A : Around) (outer : List Env) (s : Shared) (H : Hp) (vs : List V) (Q : VK) (E : XK), Room k (A.deeper (envF F f s.heap.objs.size)) → sp vs H Q E →
      ∃ a vs' ta t, vs = .ref a :: vs' ∧ H a = some (exo a C none) ∧ PA (ncx CX P w K mg base N F f A outer s H E) [arg] ta ∧ PSs (ncx CX P w K mg base N F f A outer s H E) rest t ∧
        ta (startF N vs [none]) H (fun ws H1 => ws.length ≤ 1000 ∧ H1 a = some (exo a C none) ∧ t { nx := fun _ H' => Q .non H', rt := Q } (startF N vs [none]) H1)) :
    FnOk P w K mg base CX (k + 1) f (F.fd doc pm ctv) ps sp := by
  refine ⟨len, fun A outer s H args us vs Q E hr e0 hb r hsp => ?_⟩
  have KX : K.In s.heap := e0.mod.kin.keeps fun b o e => (e0.bs b o e).1
  have hl := len _ _ _ _ hsp
  have lim : s.heap.NoLimit := e0.mod.nolimit.keeps fun b o e => (e0.bs b o e).1
  refine codeAny_call_function hr.depth (KX _ _ lk) rfl S.co S.gen rfl (PySem.W.codeRec_of KX hcd) (hb _ _ _ _ ?_)
  refine wpAny_newFunctionEnv S.nocell (fun ⟨n, _⟩ hy => S.par n (List.of_mem_zip hy).1) (fun h₁ hns hsb => ⟨lim.fresh _ hsb, ?_⟩) S.kind
  show codeAny _ _ (.func F.body (envF F f s.heap.objs.size)) _ _
  refine PySem.ks_codeAny_funcAt ?_
  have kp : ∀ b o, s.heap.get? b = some o → h₁.get? b = some o := fun b o e => hsb.extBut b o (Nat.ne_of_lt (Heap.lt_size e)) (Heap.get?_push_of_some _ e)
  obtain ⟨a, vs', ta, t, hvs, ha, hta, ht, hq⟩ := hbody A outer s H vs Q E (hr.deeper _) hsp
  obtain ⟨cl, cld, csl, hcell⟩ := T.cell
  have hbc : base.get? cc = some ⟨cl, cld, .cell (some (.ref C)), csl⟩ := e0.mod.kin _ _ hcell
  have hlook : ∀ {y : Str} {c : Addr}, F.cl.lookup y = some c → y = "__class__" ∧ c = cc := fun {y c} e => by
    rw [hcl] at e
    by_cases hy : y = "__class__"
    · subst hy
      rw [show List.lookup ("__class__" : Str) [(("__class__" : Str), cc)] = some cc by simp [List.lookup]] at e
      exact ⟨rfl, (Option.some.inj e).symm⟩
    · have hb : (y == ("__class__" : Str)) = false := by simpa using hy
      rw [show List.lookup y [(("__class__" : Str), cc)] = none by simp [List.lookup, hb]] at e
      cases e
  have hlk : F.cl.lookup ("__class__" : Str) = some cc := by rw [hcl]; simp [List.lookup]
  have CA : CellsAt F.cl ["__class__"] [none] s.heap H := {
    len := rfl
    all := fun y c e => by
      obtain ⟨_, rfl⟩ := hlook e
      exact ⟨(e0.bs _ _ hbc).2, _, ⟨_, (e0.bs _ _ hbc).1, rfl⟩⟩
    inj := fun x y c e1 e2 => (hlook e1).1.trans (hlook e2).1.symm
    has := fun i y e => by
      match i, e with
      | 0, e =>
        have ey : ("__class__" : Str) = y := Option.some.inj e
        subst ey
        exact ⟨cc, hlk, fun v hv => by simp at hv⟩ }
  have I : Inv (ncx CX P w K mg base N F f A outer s H E) [] (startF N vs [none]) H { s with heap := h₁, toks := s.toks + (ps.zip us).length } := inv_startN S hr.hd e0 hl r CA hns kp
  have kI : K.In h₁ := KX.keeps kp
  have hN0 : N[0]? = some p := by
    have q := S.pre
    rw [hps] at q
    have z : (N.take ((p :: ps').length + 1))[0]? = some p := by
      have z := congrArg (fun l : List Str => l[0]?) q
      exact z
    rw [List.getElem?_take_of_lt (by simp)] at z
    exact z
  have hs0 : (startF N vs [none])[0]? = some (some (.ref a)) := by rw [hvs]; rfl
  have hploc : F.scope.names.lookup p = some .local := S.par p (by rw [hps]; exact List.mem_cons_self)
  obtain ⟨m, hnm, hlm⟩ := id I.loc
  obtain ⟨u0, ru0, hu0⟩ := hlm 0 p (.ref a) hN0 hs0 (.inl hploc)
  have eu0 : u0 = Value.ref a := ru0
  subst eu0
  have hself : m p = some (.ref a) := by
    rcases hu0 with ⟨_, z⟩ | ⟨z, _⟩
    · exact z
    · have z' : F.scope.names.lookup p = some .cell ∨ F.scope.names.lookup p = some .free := z
      rw [hploc] at z'
      rcases z' with z' | z' <;> cases z'
  obtain ⟨occ, cdd, cvs, csl2, file, tf, hcode, hvs2, hfile⟩ := T.code
  obtain ⟨cdD, hcdD⟩ := T.cd
  have hD : ∃ oD, h₁.get? C = some oD ∧ oD.data = .cls cdD := by
    have hD := hcdD
    unfold PySem.W.clsIn at hD
    split at hD
    · rename_i c d cd' sl ho
      cases hD
      exact ⟨_, kI _ _ ho, rfl⟩
    · cases hD
  obtain ⟨oD, hD1, hD2⟩ := hD
  obtain ⟨nm, q, N', bs, bm, sn, sub, ab, col, dd, k0, k1, k2, k3, k5, hC, hbm⟩ := T.T.cls
  obtain ⟨ar, har1, har2⟩ := hpar
  have hkc : F.scope.names.lookup ("__class__" : Str) = some .free := S.frk _ (by simp)
  obtain ⟨mb, hb1, hb2⟩ := I.mod.blt
  rw [hbd]
  obtain ⟨pl, he⟩ := hev s.heap.objs.size
  refine PySem.ks_wpAt_execs_cons (PySem.ks_wpAt_Expr_any (PySem.ks_wpAt_MethodCall (pl := pl) (PySem.ks_wpAt_super_base (fd := F.fd doc pm ctv) hsu hkc (by decide) rfl (kI _ _ lk) rfl har1 rfl (kI _ _ hcode) rfl hvs2 hfile T.top ?_) he) I.quiet (hsw _))
  -- the names
  refine PySem.W.ks_loadName_global S.kind hsu (Calls.loadGlobal_builtin (by exact I.mod.glob.keeps I.bk) T.zs (by exact hb1.keeps I.bk) ((hb2 _ (by decide)).trans (by decide +kernel)) ⟨rfl, ?_⟩)
  refine wpAny_loadName_free S.kind hkc hlk ⟨_, kI _ _ hcell, rfl⟩ ?_
  refine wpAny_loadName_local S.kind (by rw [har2]; exact hploc) hnm (by rw [har2]; exact hself) ?_
  refine PySem.ks_wpAny_isType_cls hD1 hD2 ⟨rfl, ?_⟩
  obtain ⟨t1, hox⟩ := exo_at I.hok ha
  refine PySem.ks_wpAny_call_super hD1 hD2 hox rfl (fun c e => by cases e) (PySem.W.looks_mroIn kI T.sub) (fun h' hso k' => ?_)
  have I2 : Inv (ncx CX P w K mg base N F f A outer s H E) [] (startF N vs [none]) H { s with heap := h', toks := s.toks + (ps.zip us).length } := I.kept (t' := s.toks + (ps.zip us).length) k'
  have kI2 : K.In h' := kI.keeps k'
  have hox2 : h'.get? a = some ({ cls := .ref C, dict := none, data := .fields #[.ref t1, .none, .none, .none, .bool false, .none] } : Obj) := k' _ _ hox
  have IA : PySem.W.InstAt h' a ({ cls := .ref C, dict := none, data := .fields #[.ref t1, .none, .none, .none, .bool false, .none] } : Obj) C none := ⟨hox2, rfl, rfl, trivial⟩
  have hal : PySem.W.alongIn K "__init__" ((cdD.mro.dropWhile (· != .ref C)).drop 1) = some (some (.builtin "ValueError.__init__")) := by
    have z := T.sup
    unfold PySem.W.ks_superIn at z
    rw [hcdD] at z
    exact z
  refine PySem.W.kxs_getMethod PySem.W.kxs_ValueError hso (PySem.W.looks_opaque kI2 T.any) (l₀ := cdD.mro) (fun A Q E s k q => wpAny_bind ((PySem.W.looks_clsIn kI2 hcdD) A _ E s k (wpAny_pure q))) rfl kI2 hal (IA.type.andThen (PySem.W.looks_subIn kI2 T.subV)) (PySem.W.ks_ne kI2 IA hcdD) (by decide) ?_
  -- the bound __init__ at u
  have ku : ∀ b o, h'.get? b = some o → (h'.push (PySem.W.kxs_mw "ValueError.__init__" a)).get? b = some o := fun b o e => Heap.get?_push_of_some _ e
  have I3 : Inv (ncx CX P w K mg base N F f A outer s H E) [] (startF N vs [none]) H { s with heap := h'.push (PySem.W.kxs_mw "ValueError.__init__" a), toks := s.toks + (ps.zip us).length + 1 } := I2.kept (t' := s.toks + (ps.zip us).length + 1) ku
  have hu : (h'.push (PySem.W.kxs_mw "ValueError.__init__" a)).get? h'.objs.size = some (PySem.W.kxs_mw "ValueError.__init__" a) := Heap.get?_push_at rfl rfl
  have I4 : Inv (ncx CX P w K mg base N F f A outer s H E) [(h'.objs.size, PySem.W.kxs_mw "ValueError.__init__" a)] (startF N vs [none]) H { s with heap := h'.push (PySem.W.kxs_mw "ValueError.__init__" a), toks := s.toks + (ps.zip us).length + 1 } := I3.pins_of fun p hp => by
    have hp1 := List.mem_singleton.mp hp
    subst hp1
    exact ⟨hu, I2.hok.fresh (Nat.le_refl _), fun z => absurd (z ▸ I2.lt) (Nat.lt_irrefl _), I2.nofs (Nat.le_refl _), fun v z => by cases z⟩
  refine callW (i := "ValueError.__init__") (x := a) (hst _) ?_
  refine thn (hta.run p3 _ _ _ H _ I4 hq) fun ws' s5 ⟨ws, H5, I5, r5, hlen, ha5, ht5⟩ => ?_
  have hu5 : s5.heap.get? h'.objs.size = some (PySem.W.kxs_mw "ValueError.__init__" a) := (I5.pin _ (List.mem_append_right _ (List.mem_singleton.mpr rfl))).1
  refine ⟨hu5, ?_⟩
  obtain ⟨t5, hox5⟩ := exo_at I5.hok ha5
  have hws : ws'.length ≤ sizeLine := by
    rw [← Paired.length r5, sizeLine_eq]
    omega
  have I6 : Inv (ncx CX P w K mg base N F f A outer s H E) [] (startF N vs [none]) H5 s5 := I5.pins_of fun p hp => absurd hp (by simp)
  obtain ⟨h5, g5, d5, k5', os5⟩ := s5
  have hC5 := I5.kIn _ _ hC
  show wpAny _ _ (call (.ref h'.objs.size) ws') _ _ _
  refine wpAny_call (codeAny_of_tree ?_)
  show wpAny _ _ (callAny (.ref h'.objs.size) ⟨ws', []⟩) _ _ _
  simp only [callAny]
  refine wpAny_bind (wpAny_load hu5 ?_)
  simp only [PySem.W.kxs_mw, show (Value.type "method-wrapper" == Value.type "method" || Value.type "method-wrapper" == Value.type "builtin_function_or_method" || Value.type "method-wrapper" == Value.type "method-wrapper") = true by decide, if_true]
  refine PySem.W.KFB.if_so (by decide) ?_
  refine wpAny_bind (PySem.W.check_bound_init PySem.F.excBase_ValueError.toExcCallFacts hC5 hox5 rfl ?_)
  refine wpAny_bind (wpAny_pure (wpAny_pure ?_))
  refine ⟨plainId_quiet PySem.F.excBase_ValueError.init.plain _, codeAny_builtin PySem.F.excBase_ValueError.initEntry ?_⟩
  refine PySem.W.exc_init_tree (cls := .ref C) (t0 := t5) (dv := none) (c2 := .none) (c3 := .none) (b4 := .bool false) hox5 hws (fun h6 k6 e6 _ => ?_)
  have J := I6.write (t' := k5') (x := a) (e := a) (o := exo a C none) (by rw [ha5]; exact True.intro) (.inl rfl) k6 ⟨_, e6⟩ (exo_ok e6)
  have eu : upd H5 a (exo a C none) = H5 := by
    funext b
    by_cases hb : b = a
    · rw [hb, upd_same, ha5]
    · rw [upd_ne hb]
  rw [eu] at J
  refine PySem.wpAt_of_wpAny (wpAny_mono (ht.run [] _ (startF N vs [none]) H5 _ J ht5) (fun fl s' hs => ?_) fun e s' hs => hs)
  have fin : ∀ {σ' : L2.St} {H' : Hp} {v : V} {u : Value}, Inv (ncx CX P w K mg base N F f A outer s H E) [] σ' H' s' → L2.RelV v u → Q v H' → CE outer P w H s Q u s' :=
    fun {σ' H' v u} J rv q => ⟨v, H', J.os, J.bare, J.base, J.hok, rv, q⟩
  cases fl with
  | ret u =>
    obtain ⟨v, σ', H', J, rv, q⟩ := hs
    exact fin J rv q
  | next =>
    obtain ⟨σ', H', J, q⟩ := hs
    exact fin (v := V.non) (u := Value.none) J rfl q
  | brk =>
    obtain ⟨_, _, _, q⟩ := hs
    exact False.elim q
  | cont =>
    obtain ⟨_, _, _, q⟩ := hs
    exact False.elim q
end
/-! ### an exception without fields, made -/
section
variable {X : Cx}
theorem mk_endN {pins : List (Addr × Obj)} {σ : L2.St} {H1 H2 : Hp} {Q : XK} {hp hp2 h2 : Heap} {g1 g2 : Array GenState} {d1 d2 : Drawn} {t1 t2 : Nat} {os1 os2 : OsState} {a C : Addr} (T : Raises X (.ref C)) (I1 : Inv X pins σ H1 ⟨hp, g1, d1, t1, os1⟩)
    (ha : hp.objs.size ≤ a) (k : ∀ b o, hp.get? b = some o → hp2.get? b = some o) (un : Un (frs X.stack) [] (upd H1 a (exo a C none)) H2 hp2 h2) (hok : HOk X.prog X.w H2 h2) (ho : os2 = os1) (hb : AllBare g2)
    (ea : H2 a = some (exo a C none)) (q : Q (.ref C) none (del H2 a)) : MkP X pins σ Q (.ref a) ⟨h2, g2, d2, t2, os2⟩ := by
  obtain ⟨t0, hoe⟩ := exo_at hok ea
  have hn : H1 a = none := I1.hok.fresh ha
  obtain ⟨G, g1', g2'⟩ := restrict h2 fun b => decide (b ≠ a)
  have gk : ∀ b, b ≠ a → G.get? b = h2.get? b := fun b hb => g1' b (decide_eq_true hb)
  have ge : G.get? a = none := g2' a (by simp)
  have nha : ∀ {b : Addr} {o : Obj}, hp.get? b = some o → b ≠ a := fun {b o} z => Nat.ne_of_lt (Nat.lt_of_lt_of_le (Heap.lt_size z) ha)
  have up : ∀ {b : Addr}, b ≠ a → H1 b = none → upd H1 a (exo a C none) b = none := fun {b} hb n => by rw [upd_ne hb]; exact n
  have U : Un (frs X.stack) [] H1 (del H2 a) hp G := {
    keep := fun b o z n hf hx => by
      rw [gk b (nha z)]
      exact un.keep b o (k b o z) (up (nha z) n) hf hx
    slot := fun b o z n hf hx => by
      rw [gk b (nha z)]
      exact un.slot b o (k b o z) (up (nha z) n) hf hx
    free := fun b o z n hx => by
      rw [del_ne (nha z)]
      exact un.free b o (k b o z) (up (nha z) n) hx
    there := fun b o z hx => by
      rw [gk b (nha z)]
      exact un.there b o (k b o z) hx
    tups := fun b xs z => by
      rw [del_ne (ne_of_none z hn)]
      exact un.tups b xs (by rw [upd_ne (ne_of_none z hn)]; exact z)
    frzs := fun b o v z => by
      rw [del_ne (ne_of_none z hn)]
      exact un.frzs b o v (by rw [upd_ne (ne_of_none z hn)]; exact z)
    tbls := fun b ps z => by
      rw [del_ne (ne_of_none z hn)]
      exact un.tbls b ps (by rw [upd_ne (ne_of_none z hn)]; exact z) }
  have hok3 : HOk X.prog X.w (del H2 a) G := fun b o z => by
    have hba : b ≠ a := fun e => by
      rw [e, del_same] at z
      cases z
    rw [del_ne hba] at z
    have noa : ∀ {c : Addr}, H2 c = some (.own b) → c ≠ a := fun {c} hc => at_ne ea hc exo_own
    exact (hok b o z).stay (fun c v hc y => by
        have hca : c ≠ a := by
          rcases hc with hc | hc
          · rw [hc]
            exact hba
          · exact noa hc
        rw [gk c hca]
        exact y)
      (fun c hc => by rw [del_ne (noa hc)]; exact hc) (fun c xs hc => by rw [del_ne (at_ne ea hc exo_tup)]; exact hc)
  have J : Inv X pins σ (del H2 a) ⟨G, g2, d2, t2, os2⟩ := I1.call' (ch := []) ho U hok3 hb (fun b z => absurd z (by simp))
  refine ⟨a, _, _, ⟨G, g2, d2, t2, os2⟩, _, .ref C, none, rfl, J, fun b o z => ?_, ge, hoe, ⟨rfl, rfl⟩, rfl, rfl, del_same, rfl, hb, T, q⟩
  by_cases hba : b = a
  · rw [hba, ge] at z
    cases z
  · exact (gk b hba).symm.trans z
/-- C(), C's own __init__ keeping sp and making no field -/
def tMkN (C : Addr) (sp : Sp) : L2.St → Hp → XK → Prop := fun _ H Q => ∀ a, H a = none → sp [.ref a] (upd H a (exo a C none)) (fun v H2 => v = .non ∧ H2 a = some (exo a C none) ∧ Q (.ref C) none (del H2 a)) (fun _ _ _ => False)
theorem pmk_oexN {CX : CXT} {x : Str} {C fI : Addr} {k : Nat} {fd : FuncData} {ps : List Str} {sp : Sp} {p pos : Pos} (T : OexC X.K C) (iC : PySem.W.findIn X.K (.ref C) "__init__" = some (some (.ref fI))) (tI : PySem.W.typeIn X.K (.ref fI) = some (.type "function"))
    (F1 : FnOk X.prog X.w X.K X.mg X.base CX k fI fd ps sp) (hr : Room (k + 1) X.A) (hb : Binds X.K fd ps []) (hx : Passes CX X (fun _ _ _ => False)) (hg : Gl X x) (hm : X.mg x = some (.ref C))
    (hdb : (x == ("__debug__" : Str)) = false := by decide) : PMk X (.Call (.Name x p) [] [] pos) (tMkN C sp) := by
  intro pins s σ H1 Q I1 q1
  obtain ⟨nm, q, N, bs, bm, sn, sub, ab, col, dd, k0, k1, k2, k3, k5, hC, hbm⟩ := T.cls
  refine wpAny_Call_Name_kw (ld_glob I1 hg hm ?_ hdb)
  refine PySem.W.callWith_K0 I1.kIn T.kC ?_
  show wpAny _ _ (call (.ref C) []) _ _ _
  obtain ⟨hp, g, dr, tk, os⟩ := s
  have hsz : hp.objs.size ≤ hp.objs.size + 1 := Nat.le_succ _
  have hn : H1 (hp.objs.size + 1) = none := I1.hok.fresh hsz
  have hq := q1 (hp.objs.size + 1) hn
  have kk : ∀ b o, hp.get? b = some o → ((hp.push (PySem.W.kdv_tup [])).push (PySem.HandSPX.excO C hp.objs.size)).get? b = some o := fun b o e => Heap.get?_push_of_some _ (Heap.get?_push_of_some _ e)
  have hget : ((hp.push (PySem.W.kdv_tup [])).push (PySem.HandSPX.excO C hp.objs.size)).get? (hp.objs.size + 1) = some (PySem.HandSPX.excO C hp.objs.size) := by heap_get
  have I2 : Inv X pins σ (upd H1 (hp.objs.size + 1) (exo (hp.objs.size + 1) C none)) ⟨(hp.push (PySem.W.kdv_tup [])).push (PySem.HandSPX.excO C hp.objs.size), g, dr, tk, os⟩ :=
    I1.laid (t' := tk) (a := hp.objs.size + 1) (o := exo (hp.objs.size + 1) C none) (h' := (hp.push (PySem.W.kdv_tup [])).push (PySem.HandSPX.excO C hp.objs.size)) kk hsz (exo_ok hget)
  have r2 : Vals [V.ref (hp.objs.size + 1)] [Value.ref (hp.objs.size + 1)] := .cons rfl .nil
  have hl : ([Value.ref (hp.objs.size + 1)] ++ []).length = ps.length := by
    have e := r2.length
    rw [F1.len _ _ _ _ hq] at e
    exact e.symm
  refine wpAny_call (PySem.HandSPX.call_own PySem.F.excBase_ValueError (fun Y => PySem.HandSPX.refsVE_contains Y bm hbm) (I1.kIn _ _ hC) (PySem.W.looks_findIn I1.kIn iC) (fun self => PySem.W.bind_fn I1.kIn self tI) (Nat.zero_le _)
    (codeAny_mono (F1.run _ X.stack _ _ ⟨[Value.ref (hp.objs.size + 1)], []⟩ [Value.ref (hp.objs.size + 1)] _ _ (fun _ _ _ => False) (hr.make C [] []) (I2.env0.make C [] []) (hb _ [Value.ref (hp.objs.size + 1)] I2.kIn hl) r2 hq) fun r s' hq' => ?_))
  cases r with
  | error er => exact hx pins σ _ _ er s' I2 hq'
  | ok fl =>
    cases fl with
    | ret u =>
      obtain ⟨v, H2, os2, bare2, un2, hok2, rv, ev, ea, q2⟩ := hq'
      subst ev
      obtain ⟨h2, g2, d2, t2, os'⟩ := s'
      exact ⟨rv, mk_endN (raises_own T.exC T.tyC) I1 hsz kk un2 hok2 os2 bare2 ea q2⟩
    | next => exact False.elim hq'
    | brk => exact False.elim hq'
    | cont => exact False.elim hq'
end
/-! ### a call of a local name that holds a def, which may raise -/
section
variable {X : Cx} {CX : CXT} {k i : Nat} {f : Addr} {fd : FuncData} {ps : List Str} {sp : Sp} {E : L2.St → XK} {x : Str} {p pos : Pos} {e : Expr} {es : List Expr} {t : TA}
def tCallLS (i : Nat) (f : Addr) (sp : Sp) (E : L2.St → XK) (t : TA) : TE := fun σ H Q => σ[i]? = some (some (.ref f)) ∧ t σ H fun vs H1 => sp vs H1 Q (E σ)
theorem pe_callLS (F : FnOk X.prog X.w X.K X.mg X.base CX k f fd ps sp) (hr : Room k X.A) (hN : X.N[i]? = some x) (hv : Vis X.env.scope x) (hk : PySem.W.keepIn X.K (.ref f) = true) (hb : Binds X.K fd ps []) (hx : ∀ σ, PassesAt CX X σ (E σ)) (ha : PA X (e :: es) t)
    (hdb : (x == ("__debug__" : Str)) = false := by decide) (hcd : (x == ("__classdict__" : Str)) = false := by decide)
    (he : starEach (e :: es) X.env = (false, eval e X.env) :: starEach es X.env := by rfl) (hpl : (backTo pos (starEach es X.env)).any (·.1) = false := by rfl) : PE X (.Call (.Name x p) (e :: es) [] pos) (tCallLS i f sp E t) := by
  refine ⟨fun pins s σ H Q I h => ?_⟩
  obtain ⟨hs, ht⟩ := h
  refine wpAny_Call_Name_kw (thn ((pe_var (pos := p) hN hv hdb hcd).run pins s σ H (fun v H1 => v = .ref f ∧ H1 = H) I ⟨.ref f, hs, rfl, rfl⟩) fun u s1 ⟨v, H1, I1, r1, q1⟩ => ?_)
  obtain ⟨rfl, rfl⟩ := q1
  cases r1
  refine PySem.W.callWith_K (h₀ := X.base) I.ok.mod.kin hk (thn (ha.run pos pins s1 σ _ _ I1 ht) fun us s2 ⟨vs, H2, I2, r, q⟩ => ⟨I2.kIn, ?_⟩) he hpl
  exact run_fnS F hr hb (hx σ) I2 r q
end
/-! ### isinstance of a caught error of an own class without fields -/
def rIsX (K : PySem.W.Frag) (a : Addr) (cls : Value) (d : Option Addr) : List V → Hp → VK → Prop := fun xs H Q => ∃ (D : Addr) (c : V) (cv : Value) (b : Bool), cls = .ref D ∧ d = none ∧ ExcC K D ∧ xs = [.ref a, c] ∧ (∀ u, L2.RelV c u → u = cv) ∧ PySem.W.kitOne K (.ref D) cv = some b ∧ Q (.bl b) H
theorem call_isX {X : Cx} {a : Addr} {oe : Obj} {cls : Value} {d : Option Addr} {pn : List (Addr × Obj)} (hz : Zc cls d oe) (hf : ∃ vs, oe.data = .fields vs) : CallR (X.suite a ((a, oe) :: pn)) (.builtin "isinstance") (rIsX X.K a cls d) := by
  intro pins s σ H xs us Q I r h
  obtain ⟨D, c, cv, b, rfl, rfl, C, rfl, hc, e, q⟩ := h
  exact call_isE C hz hf pins s σ H [.ref a, c] us Q I r ⟨c, cv, b, rfl, hc, e, q⟩
/-! ### what a law's text says of an own exception -/
/-- ExcT C f c cc: the class at C over SamphireError .. over ValueError, with its own __init__ at f -/
structure ExcT (P : Program) (K : PySem.W.Frag) (mg : Str → Option Value) (name : Str) (C f c cc : Addr) : Prop where
  S : SupC P K mg C f c cc
  g : mg name = some (.ref C)
  iC : PySem.W.findIn K (.ref C) "__init__" = some (some (.ref f))
  tI : PySem.W.typeIn K (.ref f) = some (.type "function")
  is : ExcC K C
  te : PySem.W.exmOne K (.ref C) (.ref C) = some true
theorem ExcT.xf {P : Program} {K : PySem.W.Frag} {mg : Str → Option Value} {name : Str} {C f c cc : Addr} (T : ExcT P K mg name C f c cc) : XfC K C := ⟨T.is.hg, T.is.hk, T.is.hs, T.is.hd⟩
/-- the file that a code object tells -/
def flIs (cvs : List Value) (f : Str) : Bool := match cvs with | _ :: _ :: .str file _ :: _ => f == file | _ => false
/-- what k_is finds, put together -/
theorem excT_mk {P : Program} {K : PySem.W.Frag} {mg : Str → Option Value} {name : Str} {C f c cc : Addr} {nm q : Str} {N : Addr} {bs bm : List Value} {sn : List Str} {sub : List Value} {ab : Bool} {col : Option Bool} {dd : Option Addr} {m0 m1 m2 m3 m5 : Option Value}
    {occ : Value} {cdd : Option Addr} {cvs : List Value} {csl : Array (Option Value)} {ccl : Value} {ccd : Option Addr} {ccs : Array (Option Value)}
    (xL : K.lookup C = some (excClassObj nm q C N bs bm true sn sub ab col dd m0 m1 m2 m3 m5 "ValueError.__new__")) (rv : PySem.HandSPX.refsVE bm = true)
    (sa : PySem.W.findIn K (.ref C) "__setattr__" = some (some (.builtin "object.__setattr__"))) (sB : PySem.W.subIn K (.ref C) (.type "BaseException") = some true) (tC : PySem.W.typeIn K (.ref C) = some (.type "type")) (kC : PySem.W.keepIn K (.ref C) = true)
    (code : K.lookup c = some ⟨occ, cdd, .fields cvs.toArray, csl⟩) (hfile : flIs cvs P.main.file = true)
    (cell : K.lookup cc = some ⟨ccl, ccd, .cell (some (.ref C)), ccs⟩) (mro : PySem.W.mroIn K C (.ref C) = some true) (sV : PySem.W.subIn K (.ref C) (.type "ValueError") = some true) (zs : mg "super" = none)
    (any : PySem.W.nsIn K PySem.cStatics "thirdparty.any" = some none) (sup : PySem.W.ks_superIn K C C "__init__" = some (some (.builtin "ValueError.__init__"))) (top : (P.main.scope.names.lookup ("super" : Str)).isSome = false)
    (g : mg name = some (.ref C)) (iC : PySem.W.findIn K (.ref C) "__init__" = some (some (.ref f))) (tI : PySem.W.typeIn K (.ref f) = some (.type "function")) (is : ExcC K C) (isc : PySem.W.isClsIn K C = true) (sC : PySem.W.subIn K (.ref C) (.ref C) = some true) : ExcT P K mg name C f c cc where
  S := {
    T := ⟨⟨nm, q, N, bs, bm, sn, sub, ab, col, dd, m0, m1, m2, m3, m5, xL, rv⟩, sa, sB, tC, kC⟩
    cd := ⟨_, by unfold PySem.W.clsIn; rw [xL] <;> rfl⟩
    code := by
      match cvs, code, hfile with
      | a :: b :: .str file tf :: r, code, hfile => exact ⟨_, _, _, _, file, tf, code, rfl, hfile⟩
    cell := ⟨_, _, _, cell⟩
    sub := mro
    subV := sV
    zs := zs
    any := any
    sup := sup
    top := top }
  g := g
  iC := iC
  tI := tI
  is := is
  te := PySem.W.exm_ref sB is.hd tC sC
end Sup

/-! ### list(reversed(a list)) -/
namespace RL
open PySem PySem.Spec PyProof.Rows RT L2
section
variable {prog : Program} {w : World} {A : Around} {E : Value → Shared → Prop} {s : Shared}
theorem extend_rev {R : Result → Shared → Prop} {S it l : Addr} {items : Array Value} {res : Value} {c₀ : Nat} (hh : A.handled = none) (hit : s.heap.IsRevIter it l ((items.size : Int) - 1)) (hl : s.heap.IsList l items) (hne : l ≠ it) (hSi : S ≠ it) (hSl : S ≠ l) (hn : items.size ≤ sizeLine)
    (hS : s.heap.get? S = some { cls := .type "list", data := .seq #[] c₀ })
    (hR : ∀ s' acc' c', Moved (S :: [it]) (fun a b => b = a) s s' → s'.heap.get? S = some { cls := .type "list", dict := none, data := .seq acc' c', slots := #[] } → ItemsOf (fun i v => items[items.size - 1 - i]? = some v) acc' items.size → R (.ok (.ret res)) s') :
    wpAny (model prog w) A.in1 (Builtin.List.listExtendWith (.ref S) (.ref it) res)
      (fun fin s' => match fin with | .done f => R (.ok f) s' | .again c' => c'.quiet = true ∧ codeAny (model prog w) A c' R s') (fun e s' => R (.error e) s') s := by
  have W := (Walks.listRev (prog := prog) (w := w) (A := A.in1) hh it l hne items).toS
  have hSf : S ∉ [it, l] := by simp only [List.mem_cons, List.not_mem_nil, or_false, not_or]; exact ⟨hSi, hSl⟩
  have hT : s.TypeIs (.ref it) "list_reverseiterator" := Heap.IsRevIter.typeIs hit
  have h1 : Builtin.List.listSameRef (.ref S) (.ref it) = false := by simp [Builtin.List.listSameRef, hSi]
  unfold Builtin.List.listExtendWith
  refine wpAny_bind (wpAny_typeOf hT ?_)
  rw [if_neg (by rw [h1]; decide)]
  refine wpAny_bind (wpAny_pyIter_revIter hit ?_)
  refine wpAny_bind (wpAny_holding ?_)
  unfold Builtin.List.listLengthHint
  refine wpAny_bind (wpAny_specialOf hT nolen_lri ?_)
  show wpAny _ A.in1 (specialOf (Value.ref it) (Str.ofString "__length_hint__") >>= _) _ _ _
  refine wpAny_bind (wpAny_specialOf hT hint_lri ?_)
  generalize hid : ("list_reverseiterator.__length_hint__" : String) = id0
  wp_delta
  rw [show splitId id0 = some ("list_reverseiterator", "__length_hint__") from by subst hid; decide +kernel]
  subst hid
  refine wpAny_bind (wpAny_isInstance (b := true) hT (by rw [isSubtype_type]; kernel_rfl) ?_)
  refine wpAny_pure ?_
  rw [if_neg (by decide)]
  have e0 : ((items.size : Nat) : Int) - 1 - ((0 : Nat) : Int) = (items.size : Int) - 1 := by omega
  refine wpAny_pure ⟨plainId_quiet F.plain_extend_loop _, codeAny_extend_loopS W hn _ hSf _ items.size 0 _ _ _ rfl (Nat.zero_le _) ⟨Nat.zero_le _, by rw [e0]; exact hit, hl⟩ hS (ItemsOf.nil _) fun s' acc' c' hm hS' hacc => ?_⟩
  exact hR s' acc' c' hm hS' hacc
theorem init_rev {R : Result → Shared → Prop} {S it l : Addr} {items : Array Value} (hh : A.handled = none) (hit : s.heap.IsRevIter it l ((items.size : Int) - 1)) (hl : s.heap.IsList l items) (hne : l ≠ it) (hSi : S ≠ it) (hSl : S ≠ l) (hn : items.size ≤ sizeLine)
    (hS : s.heap.get? S = some { cls := .type "list", data := .seq #[] })
    (hR : ∀ (h' : Heap) (tk : Nat) (acc : Array Value) (c' : Nat), (∀ b o, b ≠ S → b ≠ it → s.heap.get? b = some o → h'.get? b = some o) → h'.get? S = some { cls := .type "list", dict := none, data := .seq acc c', slots := #[] } → ItemsOf (fun i v => items[items.size - 1 - i]? = some v) acc items.size → R (.ok (.ret .none)) { s with heap := h', toks := tk }) :
    wpAny (model prog w) A.in1 (Builtin.«list.__init__» ⟨[.ref S, .ref it], []⟩)
      (fun fin s' => match fin with | .done f => R (.ok f) s' | .again c' => c'.quiet = true ∧ codeAny (model prog w) A c' R s') (fun e s' => R (.error e) s') s := by
  show wpAny _ A.in1 (do let old ← Builtin.List.listItems (.ref S); Builtin.List.listUpdate (.ref S) (fun _ => #[]); letGo old.toList.reverse; Builtin.List.listExtendWith (.ref S) (.ref it) .none) _ _ s
  refine wpAny_bind ?_
  unfold Builtin.List.listItems
  refine wpAny_bind (wpAny_seqItems hS rfl (wpAny_pure ?_))
  show wpAny _ A.in1 (updateSeq S (fun _ => #[]) >>= fun _ => letGo (#[] : Array Value).toList.reverse >>= fun _ => Builtin.List.listExtendWith (.ref S) (.ref it) .none) _ _ s
  refine wpAny_bind (wpAny_updateSeq hS rfl ?_)
  have hS₂ := Heap.get?_update_self (Obj.mapSeq (fun _ => (#[] : Array Value))) hS rfl
  have oth : ∀ b o, b ≠ S → s.heap.get? b = some o → (s.heap.update S (Obj.mapSeq (fun _ => (#[] : Array Value)))).get? b = some o :=
    fun b o hb e => (Heap.get?_update_other _ _ (Ne.symm hb)).trans e
  refine wpAny_bind (wpAny_letGo ?_)
  refine extend_rev (s := { s with heap := s.heap.update S (Obj.mapSeq (fun _ => (#[] : Array Value))) }) hh (hit.at fun o e => oth it o hSi.symm e) (by obtain ⟨o, ho, x⟩ := hl; exact ⟨o, oth l o hSl.symm ho, x⟩) hne hSi hSl hn hS₂ fun s' acc' c' hm hS' hacc => ?_
  rw [Moved.eq_with hm]
  exact hR s'.heap s'.toks acc' c' (fun b o hb hb2 e => hm.heap b o (by simp [hb, hb2]) (oth b o hb e)) hS' hacc
theorem call_list_rev {it l : Addr} {items : Array Value} {Q : Value → Shared → Prop} (hh : A.handled = none) (hit : s.heap.IsRevIter it l ((items.size : Int) - 1)) (hl : s.heap.IsList l items) (hne : l ≠ it) (hn : items.size ≤ sizeLine)
    (hQ : ∀ (h' : Heap) (tk : Nat) (acc : Array Value) (c' : Nat), (∀ b o, b ≠ it → s.heap.get? b = some o → h'.get? b = some o) → h'.get? s.heap.objs.size = some { cls := .type "list", dict := none, data := .seq acc c', slots := #[] } → ItemsOf (fun i v => items[items.size - 1 - i]? = some v) acc items.size → Q (.ref s.heap.objs.size) { s with heap := h', toks := tk }) :
    wpAny (model prog w) A (call (.type "list") [.ref it]) Q E s := by
  refine callType_codes (Q₁ := fun obj s₁ => obj = .ref s.heap.objs.size ∧ s₁ = { s with heap := s.heap.push { cls := .type "list", data := .seq #[] } }) F.called_list (F.typeCall_list_1 _) F.entry_list_init
    (code_list_new _ ⟨rfl, rfl⟩) fun obj s₁ h₁ => ?_
  obtain ⟨rfl, rfl⟩ := h₁
  have hS : (s.heap.push { cls := .type "list", data := .seq #[] }).get? s.heap.objs.size = some { cls := .type "list", data := .seq #[] } := Heap.get?_push_size _ rfl
  obtain ⟨oi, hoi, _⟩ := id hit
  obtain ⟨ol, hol, _⟩ := id hl
  refine ⟨⟨_, hS, rfl⟩, F.args_list_init_2 _ _, init_rev (A := A.in1) (s := { s with heap := s.heap.push { cls := .type "list", data := .seq #[] } }) hh (hit.at fun o e => Heap.get?_push_of_some _ e) (hl.push _) hne (Nat.ne_of_gt (Heap.lt_size hoi)) (Nat.ne_of_gt (Heap.lt_size hol)) hn hS fun h' tk acc c' hk hS' hacc => ?_⟩
  exact ⟨rfl, hQ h' tk acc c' (fun b o hb e => hk b o (Nat.ne_of_lt (Heap.lt_size e)) hb (Heap.get?_push_of_some _ e)) hS' hacc⟩
end
section
variable {X : Cx}
/-- list(reversed(xs)): a new list -/
def tListRev (K : PySem.W.Frag) (te : TE) : TE := fun σ H Q => te σ H fun x H1 => ∃ a xs, x = .ref a ∧ SqL K H1 a xs ∧ ∀ p, H1 p = none → Q (.ref p) (upd H1 p (.lst xs.reverse))
theorem pe_listRev {e : Expr} {te : TE} {p p2 pos pos2 : Pos} (hc : X.calm = true) (hg : Gl X "list") (hm : X.mg "list" = none) (hg2 : Gl X "reversed") (hm2 : X.mg "reversed" = none) (he : PE X e te)
    (hs : starEach [e] X.env = (false, eval e X.env) :: starEach [] X.env := by rfl)
    (hs2 : starEach [.Call (.Name "reversed" p2) [e] [] pos2] X.env = (false, eval (.Call (.Name "reversed" p2) [e] [] pos2) X.env) :: starEach [] X.env := by rfl) :
    PE X (.Call (.Name "list" p) [.Call (.Name "reversed" p2) [e] [] pos2] [] pos) (tListRev X.K te) := by
  refine ⟨fun pins s σ H Q I h => ?_⟩
  refine Call_ (ld_blt I hg hm boot_list (PyProof.Rows.callWith_type1 (args_cons (Call_ (ld_blt I hg2 hm2 PyProof.Rows.boot_reversed (PyProof.Rows.callWith_type1 (args_cons (thn (he.run pins s σ H _ I h) fun u s1 ⟨v, H1, I1, r1, q1⟩ => args_nil ?_) hs) hs rfl))) hs2) hs2 rfl))
  obtain ⟨a, xs, ev, hq, q⟩ := q1
  subst ev
  obtain rfl : u = Value.ref a := r1
  obtain ⟨its, rv, p', hz⟩ := I1.list hq
  refine call_reversed_list p'.isList (args_nil ?_)
  have k0 : ∀ b o, s1.heap.get? b = some o → (s1.heap.push (revObj a ((its.toArray.size : Int) - 1))).get? b = some o := fun b o e => Heap.get?_push_of_some _ e
  have hl := p'.isList
  obtain ⟨ol, hol, _⟩ := id hl
  have hne : a ≠ s1.heap.objs.size := Nat.ne_of_lt (Heap.lt_size hol)
  have hn : its.toArray.size ≤ sizeLine := by rw [List.size_toArray, ← rv.length]; exact hz
  refine call_list_rev (s := { s1 with heap := s1.heap.push (revObj a ((its.toArray.size : Int) - 1)) }) (I1.ok.hd hc) ⟨_, Heap.get?_push_size _ rfl, rfl, rfl⟩ (hl.push _) hne hn fun h' tk acc c' hk hS' hi => ?_
  have hle : s1.heap.objs.size ≤ (s1.heap.push (revObj a ((its.toArray.size : Int) - 1))).objs.size := by simp [Heap.push]
  have ea : acc.toList.toArray = acc := by simp
  exact ⟨.ref (s1.heap.push (revObj a ((its.toArray.size : Int) - 1))).objs.size, upd H1 (s1.heap.push (revObj a ((its.toArray.size : Int) - 1))).objs.size (.lst xs.reverse), I1.laid (t' := tk) (fun c o e => hk c o (Nat.ne_of_lt (Heap.lt_size e)) (k0 c o e)) hle (show ObjOk X.prog X.w _ _ _ (.lst xs.reverse) from ⟨by rw [List.length_reverse]; exact hz, acc.toList, c', vals_rev rv hi, by rw [ea]; exact hS'⟩), rfl, q _ (I1.hok.fresh hle)⟩
end
end RL
/-! ### xs.extend(a tuple) -/
namespace RL
open PySem PySem.Spec PyProof.Rows RT L2
theorem meets_extend_tup (l : Addr) (items : Array Value) (n : Nat) (b : Addr) (items2 : Array Value) (n2 : Nat) (o : Obj) (hc : o.cls = .type "tuple") (hd : o.data = .seq items2 n2) (hs1 : items.size + items2.size ≤ sizeLine) :
    Meets (Builtin.«list.extend» ⟨[.ref l, .ref b], []⟩) (fun _ R s => s.heap.get? l = some { cls := .type "list", dict := none, data := .seq items n, slots := #[] } ∧ s.heap.get? b = some o ∧ R (.ok (.ret Value.none)) { s with heap := s.heap.update l (Obj.mapSeq fun x => x ++ items2), toks := s.toks }) :=
  .of_wp fun prog w A R s h => by
    obtain ⟨hl, hb, h⟩ := h
    show wpAny _ _ (Builtin.List.listExtendWith (.ref l) (.ref b) .none) _ _ _
    unfold Builtin.List.listExtendWith
    refine wpAny_bind (wpAny_typeOf ⟨o, hb, hc⟩ ?_)
    have h1 : (Builtin.List.listSameRef (.ref l) (.ref b) || Value.type "tuple" == Value.type "list" || Value.type "tuple" == Value.type "tuple") = true := by simp
    simp only [h1, if_true]
    refine wpAny_bind ?_
    unfold Builtin.List.listItems
    refine wpAny_bind (wpAny_seqItems hb hd (wpAny_pure ?_))
    refine wpAny_bind ?_
    refine wpAny_bind (wpAny_seqItems hl rfl (wpAny_pure ?_))
    have hlong : ¬ (!items.isEmpty && Builtin.List.listTooLong (items.size + items2.size)) = true := by
      rw [notLongL hs1, Bool.and_false]
      exact Bool.false_ne_true
    rw [if_neg hlong]
    show wpAny _ _ (updateSeq l (· ++ items2) >>= fun _ => ret .none) _ _ s
    refine wpAny_bind (wpAny_updateSeq hl rfl (hz := by omega) (_hz' := by rw [Array.size_append]; omega) ?_)
    exact wpAny_pure ⟨_, rfl, h⟩
section
variable {X : Cx}
def rExtT : V → List V → Hp → VK → Prop := fun x vs H Q => ∃ l b xs zs, x = .ref l ∧ vs = [.ref b] ∧ H l = some (.lst xs) ∧ H b = some (.tup zs) ∧ xs.length + zs.length ≤ sizeLine ∧ Q .non (upd H l (.lst (xs ++ zs)))
theorem mt_extendT : MtM X "list.extend" rExtT := by
  intro pins s σ H x vs v us Q I rx rv h
  obtain ⟨l, b, xs, zs, rfl, rfl, hH, hB, hz, q⟩ := h
  cases rx
  obtain ⟨u, rfl, ru⟩ := rv.one
  cases ru
  obtain ⟨z, its, n, r, hl, e⟩ := I.lstM hH
  obtain ⟨its2, r2, ⟨o, ho, hc, n2, hd⟩, hz2⟩ := I.tuple (SqT.of hB)
  have hl2 := r2.length
  refine call_meets PySem.F.slot_list_extend ⟨_, e, rfl⟩ PySem.F.entry_list_extend (PySem.F.args_list_extend_2 _ _)
    (meets_extend_tup l its.toArray n b its2.toArray n2 o hc hd (by rw [List.size_toArray, List.size_toArray]; omega)) ⟨e, ho, ?_⟩
  refine ⟨.non, _, I.lset (its' := its ++ its2) hH e (by simp) (r.append r2) ?_, rfl, q⟩
  rw [List.length_append]
  omega
end
end RL
/-! ### enumerate(a list, start=k) -/
namespace RL
open PySem PySem.Spec PyProof.Rows L2
section
variable {M : Model} {A : Around} {E : Value → Shared → Prop} {s : Shared} {env : Env}
theorem callWith_type_kwB {pos : Pos} {T : String} {first : List Value} {args : List (Bool × Sem Value)} {keywords : List (Option Str × Sem Value)} {Q : Value → Shared → Prop}
    (hplain : args.any (·.1) = false) (hkw : keywords.any (·.1.isNone) = false)
    (h : wpAny M A (evalArgs (.type T) true args keywords) (fun a s₁ => wpAny M A (call (.type T) (first ++ a.pos) a.kw) Q E s₁) E s) :
    wpAny M A (callWith pos (.type T) first args keywords) Q E s := by
  unfold callWith
  refine wpAny_bind (wpAny_holding (wpAny_mono h (fun a s₁ h₁ => wpAny_bind (wpAny_standAt ?_)) fun _ _ x => x))
  simp only [hplain, hkw, Bool.or_false]
  refine wpAny_bind (wpAny_pure ?_)
  exact wpAny_bind (wpAny_mono h₁ (fun r s₂ hr => wpAny_bind (wpAny_holding (wpAny_point (wpAny_pure hr)))) fun _ _ x => x)
theorem callWith_type_kw {pos : Pos} {T : String} {e : Expr} {rest : List Expr} {kws : List Keyword} {Q : Value → Shared → Prop}
    (h : wpAny M A (spliced (backTo pos (starEach (e :: rest) env))) (fun vs s₁ => wpAny M A (evalAll ((backToKw pos (keywordEach kws env)).map (·.2)))
      (fun kvs s₂ => wpAny M A (call (.type T) vs (((backToKw pos (keywordEach kws env)).filterMap (·.1)).zip kvs)) Q E s₂) E s₁) E s)
    (he : backTo pos (starEach (e :: rest) env) = (false, eval e env) :: backTo pos (starEach rest env))
    (hplain : (backTo pos (starEach (e :: rest) env)).any (·.1) = false)
    (hall : (backToKw pos (keywordEach kws env)).all (·.1.isSome) = true)
    (hkw : (backToKw pos (keywordEach kws env)).any (·.1.isNone) = false) :
    wpAny M A (callWith pos (.type T) [] (backTo pos (starEach (e :: rest) env)) (backToKw pos (keywordEach kws env))) Q E s := by
  refine callWith_type_kwB hplain hkw ?_
  rw [he] at h ⊢
  exact evalArgs_kwB hall h
end
/-- the list at a as it stands at each turn, each item in a new pair, counted from k -/
def IteS (K : PySem.W.Frag) (a : Addr) (k : Int) : It :=
  ⟨fun i H => ∃ (xs : List V) (x : V), SqL K H a xs ∧ xs[i]? = some x, fun i H v H' => ∃ T x, v = .ref T ∧ H T = none ∧ H' = upd H T (.tup [.int (k + (i : Nat)), x]) ∧ ∀ xs, SqL K H a xs → xs[i]? = some x, fun i H => ∃ xs : List V, SqL K H a xs ∧ xs.length = i⟩
theorem turn_enumS {P : Program} {w : World} {K : PySem.W.Frag} {elts : List Expr} {kk : Nat} {tpos : Pos} (a e it : Addr) (k : Int) :
    Turn P w K (.Tuple elts kk tpos) (IteS K a k) [e, it] e (fun i h => (∃ old, IsEnum h e it (k + ((i : Nat) : Int)) old) ∧ h.IsListIter it a i ∧ e ≠ it ∧ e ≠ a ∧ a ≠ it) where
  mem := by simp
  obj := fun i h st b hb => by
    obtain ⟨⟨old, he⟩, ⟨o, ho, hc, hd⟩, _⟩ := st
    have e' : b = e ∨ b = it := by simpa using hb
    rcases e' with z | z
    · rw [z]; exact ⟨_, he, fun v q => nomatch q⟩
    · rw [z]; exact ⟨o, ho, fun v q => by rw [hd] at q; cases q⟩
  keep := fun i h h' st k => let ⟨⟨old, he⟩, hi, hne⟩ := st; ⟨⟨old, k e (by simp) _ he⟩, hi.at fun o q => k it (by simp) o q, hne⟩
  item := by
    intro X hP hw hK hc i pins s σ H E I hf st hg
    subst hP hw hK
    obtain ⟨⟨old, he⟩, hit, hne, hea, hai⟩ := st
    obtain ⟨xs, x, hq, hx⟩ := hg
    obtain ⟨its, rv, p, hz⟩ := I.list hq
    obtain ⟨u, hu, ru⟩ := rv.get hx
    have hel : e < s.heap.objs.size := Heap.lt_size he
    have hil : it < s.heap.objs.size := by obtain ⟨_, q, _⟩ := hit; exact Heap.lt_size q
    have D := Draws.list (prog := X.prog) (w := X.w) (A := X.A.in1) (I.ok.hd hc) it a hai its.toArray
    have hlt : i < its.toArray.size := by
      have := (List.getElem?_eq_some_iff.mp hu).1
      simpa using this
    refine wpAny_pyNext_enum_itemC D he ⟨hit, p.isList⟩ hlt hne (by simp [hne, hea]) fun u' h' tk hu' ho hst' hT hsz hk => ?_
    have euu : u' = u := by
      have z : its.toArray[i]? = some u := by simpa using hu
      rw [z] at hu'
      exact (Option.some.inj hu').symm
    subst euu
    refine ⟨_, rfl, wpAny_letOwnedTupleGo_enum (s := { s with heap := h', toks := tk + 1 }) ho fun h'' he' sb => ?_⟩
    have hT2 : h''.get? s.heap.objs.size = some { cls := .type "tuple", data := .seq #[.int (k + (i : Nat)) tk, u'] } := (sb.2 _ (Nat.ne_of_gt hel)).trans hT
    have new : ObjOk X.prog X.w (upd H s.heap.objs.size (.tup [.int (k + (i : Nat)), x])) h'' s.heap.objs.size (.tup [.int (k + (i : Nat)), x]) :=
      ⟨by show 2 ≤ sizeLine; decide, [.int (k + (i : Nat)) tk, u'], .cons ⟨_, rfl⟩ (.cons ru .nil), ⟨_, hT2, rfl, _, rfl⟩⟩
    have I1 : Inv X pins σ (upd H s.heap.objs.size (.tup [.int (k + (i : Nat)), x])) { s with heap := h'', toks := tk + 1 } :=
      I.turnedNew (ch := [e, it]) (fun b ob hb q => (sb.2 b (fun z => hb (by simp [z]))).trans (hk b ob (fun z => hb (by simp [z])) (fun z => hb (by simp [z])) q)) hf (Nat.le_refl _) new
    refine ⟨.ref s.heap.objs.size, _, I1, rfl, ⟨_, x, rfl, I.hok.fresh (Nat.le_refl _), rfl, fun ys hy => by rw [I.list_inj hy hq]; exact hx⟩, ⟨⟨u', ?_⟩, hst'.1.at fun o q => (sb.2 it (Ne.symm hne)).trans q, hne, hea, hai⟩, fun b hb => ?_⟩
    · have e1 : k + ((i + 1 : Nat) : Int) = k + (i : Int) + 1 := by omega
      rw [e1]; exact he'
    · have hb' : b < s.heap.objs.size := by
        have e' : b = e ∨ b = it := by simpa using hb
        rcases e' with z | z
        · rw [z]; exact hel
        · rw [z]; exact hil
      rw [upd_ne (Nat.ne_of_lt hb')]
      exact (hf b hb).1
  done := by
    intro X hP hw hK hc i pins s σ H E I hf st hg
    subst hP hw hK
    obtain ⟨⟨old, he⟩, hit, hne, hea, hai⟩ := st
    obtain ⟨xs, hq, hx⟩ := hg
    obtain ⟨its, rv, p, hz⟩ := I.list hq
    obtain ⟨f0, f1, f2, f3, f4, f5⟩ := hf it (by simp)
    have hl := rv.length
    have D := Draws.list (prog := X.prog) (w := X.w) (A := X.A.in1) (I.ok.hd hc) it a hai its.toArray
    have en : i = its.toArray.size := by rw [List.size_toArray]; omega
    subst en
    exact wpAny_pyNext_enum_endD D he ⟨hit, p.isList⟩ fun h' eb => ⟨rfl, I.turned (t' := s.toks) (fun b o hb q => eb b o hb q) f0 f1 f3 f4 f5⟩
  self := fun A i s Q E st h => let ⟨⟨_, he⟩, _⟩ := st; wpAny_pyIter_enum he h
def iEnumS (K : PySem.W.Frag) (ta : TA) (tk : TA) : TI := fun σ H R => ta σ H fun vs H1 => tk σ H1 fun zs H2 => ∃ a xs k, vs = [.ref a] ∧ zs = [.int k] ∧ -(2 ^ 63) ≤ k ∧ k < 2 ^ 63 ∧ SqL K H2 a xs ∧ R (IteS K a k) H2
theorem pi_enumS {X : Cx} {e e2 : Expr} {ta tk : TA} {p pos tpos kp : Pos} {elts : List Expr} {kk : Nat} (hg : Gl X "enumerate") (hm : X.mg "enumerate" = none) (ha : PA X [e] ta) (hkw : PK X [⟨some ("start" : Str), e2, kp⟩] tk)
    (he : backTo pos (starEach [e] X.env) = (false, eval e X.env) :: backTo pos (starEach [] X.env) := by rfl) (hpl : (backTo pos (starEach [e] X.env)).any (·.1) = false := by rfl)
    (hall : (backToKw pos (keywordEach [⟨some ("start" : Str), e2, kp⟩] X.env)).all (·.1.isSome) = true := by rfl) (hnone : (backToKw pos (keywordEach [⟨some ("start" : Str), e2, kp⟩] X.env)).any (·.1.isNone) = false := by rfl)
    (hks : (backToKw pos (keywordEach [⟨some ("start" : Str), e2, kp⟩] X.env)).filterMap (·.1) = [("start" : Str)] := by rfl) :
    PI X (.Tuple elts kk tpos) (.Call (.Name "enumerate" p) [e] [⟨some ("start" : Str), e2, kp⟩] pos) (iEnumS X.K ta tk) := by
  refine ⟨fun pins s σ H R I h => ?_⟩
  refine wpAny_Call_Name_kw (ld_blt I hg hm boot_enumerate (callWith_type_kw (thn (ha.run pos pins s σ H _ I h) fun us s0 ⟨vs, H0, I0, r0, q0⟩ => thn (hkw.run pos pins s0 σ H0 _ I0 q0) fun ws s1 ⟨zs, H1, I1, r2, q1⟩ => ?_) he hpl hall hnone))
  rw [hks]
  obtain ⟨a, xs, k, ex, ez, hk0, hk1, hq, q⟩ := q1
  subst ex ez
  cases r0 with
  | cons r rr =>
    cases rr
    cases r
    cases r2 with
    | cons r3 rr3 =>
      cases rr3
      obtain ⟨t, rfl⟩ := r3
      obtain ⟨its, rv, p', hz⟩ := I1.list hq
      have hal : a < s1.heap.objs.size := by obtain ⟨_, z, _⟩ := p'.isList; exact Heap.lt_size z
      refine enum_begins_start (begins_list a its.toArray) p'.isList hk0 hk1 fun h' he' hit hsz hk => wpAny_pyIter_enum he' ?_
      have I2 : Inv X pins σ H1 { s1 with heap := h' } := I1.kept (t' := s1.toks) hk
      refine ⟨s1.heap.objs.size + 1, [s1.heap.objs.size + 1, s1.heap.objs.size], _, _, H1, rfl, I2, turn_enumS a (s1.heap.objs.size + 1) s1.heap.objs.size k, ⟨⟨.none, ?_⟩, ⟨_, hit, rfl, ?_⟩, Nat.succ_ne_self _, Nat.ne_of_gt (Nat.lt_succ_of_lt hal), Nat.ne_of_lt hal⟩, fun b hb => ?_, q⟩
      · rw [show k + ((0 : Nat) : Int) = k by omega]
        exact he'
      · rfl
      · have e' : b = s1.heap.objs.size + 1 ∨ b = s1.heap.objs.size := by simpa using hb
        have hle : s1.heap.objs.size ≤ b := by
          rcases e' with z | z
          · rw [z]; exact Nat.le_add_right _ _
          · rw [z]; exact Nat.le_refl _
        exact I1.fpOk hle (I1.hok.fresh hle)
end RL
/-! ### a text times an int -/
namespace RL
open PySem PySem.Spec PyProof.Rows L2
def repS (z : Str) (k : Nat) : Str := ⟨(List.replicate k z.cps).foldl (· ++ ·) #[]⟩
theorem foldl_size : ∀ (l : List (Array Nat)) (a : Array Nat), (l.foldl (· ++ ·) a).toList = a.toList ++ (l.map Array.toList).flatten
  | [], a => by simp
  | x :: r, a => by
    rw [List.foldl_cons, foldl_size r (a ++ x), Array.toList_append, List.map_cons, List.flatten_cons, List.append_assoc]
theorem repS_tl (z : Str) (k : Nat) : TL.tl (repS z k) = (List.replicate k z.cps.toList).flatten := by
  show ((List.replicate k z.cps).foldl (· ++ ·) #[]).toList = _
  rw [foldl_size, List.map_replicate]
  rfl
theorem repS_len (z : Str) (k : Nat) : (repS z k).length = k * z.length := by
  show (repS z k).cps.size = _
  rw [← Array.length_toList]
  have h := repS_tl z k
  unfold TL.tl at h
  rw [h]
  simp [List.length_flatten]
  rfl
def rMulS : R2 := fun x y H Q => ∃ (z : Str) (k : Nat), x = .str z ∧ y = .int (k : Int) ∧ 2 ≤ k ∧ k ≤ 100000 ∧ 1 ≤ z.length ∧ z.length ≤ 100 ∧ Q (.str (repS z k)) H
theorem op_mulS {X : Cx} : OpR X (binaryOp .Mult) rMulS := by
  intro pins s σ H x y v u Q I rx ry h
  obtain ⟨z, k, rfl, rfl, hk, hk2, hz, hz2, q⟩ := h
  obtain ⟨t, rfl⟩ := rx
  obtain ⟨t', rfl⟩ := ry
  have hle : z.length * k ≤ 10000000 := by
    have h1 : z.length * k ≤ 100 * k := Nat.mul_le_mul_right k hz2
    omega
  have hno : ((((k : Nat) : Int) == 1) || z.length == 0) = false := by
    have h1 : (((k : Nat) : Int) == 1) = false := by
      apply beq_false_of_ne
      omega
    have h2 : (z.length == 0) = false := by
      apply beq_false_of_ne
      omega
    rw [h1, h2]; rfl
  refine PySem.P.mul_str ?_ ?_ ?_ ?_
  · have h1 : ¬ (k : Int) < -(2 ^ 63 : Int) := by omega
    have h2 : ¬ (k : Int) ≥ 2 ^ 63 := by omega
    rw [decide_eq_false h1, decide_eq_false h2]; rfl
  · intro _ _
    have h3 : (1000 : Int) ≤ (2 ^ 63 - 1) / (k : Int) := by
      rw [Int.le_ediv_iff_mul_le (by omega)]
      omega
    omega
  · intro _ _
    rw [Int.toNat_natCast]
    have hs : 10000000 ≤ sizeLine := by decide
    unfold Builtin.Str.tooLong
    exact decide_eq_false (by omega)
  · rw [if_neg (by omega), if_neg (by rw [hno]; decide)]
    rw [Int.toNat_natCast]
    have hl := repS_len z k
    have hs : 10000000 ≤ sizeLine := by decide
    have hc : k * z.length = z.length * k := Nat.mul_comm _ _
    refine ⟨?_, ⟨.str (repS z k), H, I.tok _, ⟨_, rfl⟩, q⟩⟩
    show (repS z k).length ≤ sizeLine
    omega
end RL

/-! ### Z: single steps of readings, for walking by with_reducible refine -/
namespace Z
open PySem L2
/-- all but what stands at M is as it was -/
def Kp (M : List Addr) (H H' : Hp) : Prop := ∀ b o, b ∉ M → H b = some o → H' b = some o
theorem Kp.refl {M : List Addr} (H : Hp) : Kp M H H := fun _ _ _ h => h
theorem Kp.trans {M : List Addr} {H H1 H2 : Hp} (a : Kp M H H1) (b : Kp M H1 H2) : Kp M H H2 := fun c o n h => b c o n (a c o n h)
theorem Kp.new {M : List Addr} {H : Hp} {p : Addr} {o : HO} (h : H p = none) : Kp M H (upd H p o) := fun b u _ e => by
  rw [upd_ne (ne_of_none e h)]
  exact e
theorem Kp.put {M : List Addr} {H : Hp} {p : Addr} {o : HO} (h : p ∈ M) : Kp M H (upd H p o) := fun b u n e => by
  rw [upd_ne (fun q => n (by rw [q]; exact h))]
  exact e
theorem Kp.sub {M M' : List Addr} {H H' : Hp} (a : Kp M H H') (h : ∀ x, x ∈ M → x ∈ M') : Kp M' H H' := fun b o n e => a b o (fun z => n (h b z)) e
theorem Kp.same {H H' : Hp} (a : Kp [] H H') : Same H H' := fun b o e => a b o (by simp) e
theorem Kp.of_same {M : List Addr} {H H' : Hp} (a : Same H H') : Kp M H H' := fun b o _ e => a b o e
theorem Kp.none {M : List Addr} {H H' : Hp} (a : Kp M H H') {p : Addr} (n : p ∉ M) (h : H' p = Option.none) : H p = Option.none := by
  cases q : H p with
  | none => rfl
  | some o =>
    rw [a p o n q] at h
    cases h
/-- what was not there may be forgotten from M -/
theorem Kp.drop {M : List Addr} {H H' : Hp} {p : Addr} (a : Kp (p :: M) H H') (h : H p = Option.none) : Kp M H H' := fun b o n e => a b o (by
  intro z
  rcases List.mem_cons.mp z with z | z
  · rw [z, h] at e
    cases e
  · exact n z) e
theorem Kp.get {M : List Addr} {H H' : Hp} (a : Kp M H H') {b : Addr} {o : HO} (n : b ∉ M) (e : H b = some o) : H' b = some o := a b o n e
theorem Kp.seq {M : List Addr} {K : PySem.W.Frag} {H H' : Hp} (e : Kp M H H') {a : Addr} {xs : List V} (n : a ∉ M) (h : SqL K H a xs) : SqL K H' a xs := by
  rcases h with (h | ⟨o, h⟩) | h
  · exact .inl (.inl (e _ _ n h))
  · exact .inl (.inr ⟨o, e _ _ n h⟩)
  · exact .inr h
theorem Kp.tup {M : List Addr} {K : PySem.W.Frag} {H H' : Hp} (e : Kp M H H') {a : Addr} {xs : List V} (n : a ∉ M) (h : SqT K H a xs) : SqT K H' a xs := by
  rcases h with (h | ⟨o, h⟩) | h
  · exact .inl (.inl (e _ _ n h))
  · exact .inl (.inr ⟨o, e _ _ n h⟩)
  · exact .inr h
/-- what H0 does not know may change -/
theorem Kp.mut {M : List Addr} {H0 H H' : Hp} {l : Addr} {o : HO} (a : Kp M H0 H) (h : H0 l = Option.none) (e : H' = upd H l o) : Kp M H0 H' := fun b u n z => by
  rw [e, upd_ne (ne_of_none z h)]
  exact a b u n z
theorem Kp.then1 {M : List Addr} {H0 H H' : Hp} {l : Addr} (a : Kp M H0 H) (b : Kp [l] H H') (h : H0 l = Option.none) : Kp M H0 H' := fun c o n e => b c o (by
  intro z
  rw [List.mem_singleton.mp z, h] at e
  cases e) (a c o n e)
/-- a new instance and its dict -/
theorem Kp.made {M : List Addr} {H : Hp} {x dx : Addr} {o u : HO} (nx : H x = Option.none) (nd : H dx = Option.none) : Kp M H (upd (upd H dx u) x o) := fun c o n e => by
  rw [upd_ne (ne_of_none e nx), upd_ne (ne_of_none e nd)]
  exact e
theorem none2 {H : Hp} {x dx l : Addr} {o u : HO} (h : upd (upd H dx u) x o l = Option.none) : H l = Option.none := by
  unfold upd at h
  split at h
  · cases h
  · split at h
    · cases h
    · exact h
theorem nin1 {a b : Addr} (h : b ≠ a) : b ∉ [a] := by simpa using h
theorem nin0 {b : Addr} : b ∉ ([] : List Addr) := by simp
theorem lstL {K : PySem.W.Frag} {H : Hp} {a : Addr} {xs : List V} (h : H a = some (.lst xs)) : SqL K H a xs := .inl (.inl h)
theorem tupT {K : PySem.W.Frag} {H : Hp} {a : Addr} {xs : List V} (h : H a = some (.tup xs)) : SqT K H a xs := .inl (.inl h)

theorem cxK {CX : CXT} {P : Program} {w : World} {K : PySem.W.Frag} {mg : Str → Option Value} {base : Heap} {N : List Str} {qual : Str} {scope : Scope} {f : Addr} {cd : Value} {A : Around} {outer : List Env} {s : Shared} {H : Hp} {E : XK} : (cxOf CX P w K mg base N qual scope f cd A outer s H E).K = K := rfl
/-! named readings of rules -/
def rLenN (K : PySem.W.Frag) : List V → Hp → VK → Prop := fun xs H Q => ∃ p ys, xs = [.ref p] ∧ (SqL K H p ys ∨ SqT K H p ys) ∧ Q (.int ys.length) H
theorem c_len {X : Cx} : CallR X (.builtin "len") (rLenN X.K) := call_len_seq
def rListN (K : PySem.W.Frag) : List V → Hp → VK → Prop := fun xs H Q => ∃ p ys, xs = [.ref p] ∧ (SqL K H p ys ∨ SqT K H p ys) ∧ ∀ l, H l = none → Q (.ref l) (upd H l (.lst ys))
theorem c_list {X : Cx} : CallR X (.type "list") (rListN X.K) := call_list_of
def rTupN (K : PySem.W.Frag) : List V → Hp → VK → Prop := fun xs H Q => ∃ p ys, xs = [.ref p] ∧ ((SqL K H p ys ∧ ∀ l, H l = none → Q (.ref l) (upd H l (.tup ys))) ∨ (SqT K H p ys ∧ Q (.ref p) H))
theorem c_tuple {X : Cx} : CallR X (.type "tuple") (rTupN X.K) := call_tuple_of
def rInt1 : List V → Hp → VK → Prop := fun xs H Q => (∃ i, xs = [.int i] ∧ Q (.int i) H) ∨ ∃ k, xs = [.bl k] ∧ Q (.int (if k then 1 else 0)) H
theorem c_int {X : Cx} : CallR X (.type "int") rInt1 := call_int1
def rAbs : List V → Hp → VK → Prop := fun xs H Q => ∃ i, xs = [.int i] ∧ Q (.int (if i < 0 then -i else i)) H
theorem c_abs {X : Cx} : CallR X (.builtin "abs") rAbs := call_abs
def rIsN : R2 := fun x y H Q => y = .non ∧ Q (.bl (decide (x = .non))) H
theorem o_isN {X : Cx} : OpR X (compareOp .Is) rIsN := op_isN
def rNotN : R2 := fun x y H Q => y = .non ∧ Q (.bl (!decide (x = .non))) H
theorem o_notN {X : Cx} : OpR X (compareOp .IsNot) rNotN := op_notN
def rAddS : R2 := fun x y H Q => ∃ i j, x = .str i ∧ y = .str j ∧ i.length + j.length ≤ sizeLine ∧ Q (.str (i ++ j)) H
theorem o_addS {X : Cx} : OpR X (binaryOp .Add) rAddS := op_add_str
def rInSg : R2 := fun x y H Q => ∃ (c : Nat) (z : Str), x = .str ⟨#[c]⟩ ∧ y = .str z ∧ Q (.bl (decide (c ∈ z.cps.toList))) H
theorem o_inSg {X : Cx} : OpR X (compareOp .In) rInSg := op_in_sign
def rNinSg : R2 := fun x y H Q => ∃ (c : Nat) (z : Str), x = .str ⟨#[c]⟩ ∧ y = .str z ∧ Q (.bl (!decide (c ∈ z.cps.toList))) H
theorem o_ninSg {X : Cx} : OpR X (compareOp .NotIn) rNinSg := op_notIn_sign
/-- // by a divisor of any sign -/
def CDivA (_ j : Int) : Prop := j ≠ 0 ∧ j.natAbs.log2 < 9000
theorem op_fdivA {X : Cx} : OpR X (binaryOp .FloorDiv) (rI CDivA fun i j => .int (i.fdiv j)) := opI fun i j _ _ _ _ _ hc q => PyProof.Rows.floordiv_int hc.1 q (.inl (PyProof.noPylong_of_log2 hc.2))
theorem divA {i j : Int} {b : Nat} (h : j ≠ 0) (hb : j.natAbs < 2 ^ b) (h0 : 0 < b) (h9 : b ≤ 9000) : CDivA i j := ⟨h, Nat.lt_of_lt_of_le (PySem.Flt.log2_lt_of h0 hb) h9⟩
def rLenS : List V → Hp → VK → Prop := fun xs H Q => ∃ x : Str, xs = [.str x] ∧ x.cps.size ≤ 10000000 ∧ Q (.int (x.cps.size : Nat)) H
theorem c_lens {X : Cx} : CallR X (.builtin "len") rLenS := fun pins s σ H xs us Q I r h => call_len pins s σ H xs us Q I r (by obtain ⟨x, rfl, hz, q⟩ := h; exact ⟨.str x, _, rfl, ⟨Nat.le_trans hz (by decide), rfl⟩, q⟩)
def rPopQ : V → List V → Hp → VK → Prop := rPop
section
variable {σ : St} {H : Hp} {Q : VK} {v x y : V} {ta tb tc te : TE} {tA : TT} {D : Ends} {t u ts : TS} {r : R2} {K : PySem.W.Frag} {i : Nat} {A B : Prop}
/-! values -/
theorem var (h : σ[i]? = some (some v)) (q : Q v H) : tVar i σ H Q := ⟨v, h, q⟩
theorem cst (q : Q v H) : tC v σ H Q := q
theorem op (h : ta σ H fun x H1 => tb σ H1 fun y H2 => r x y H2 Q) : tOp r ta tb σ H Q := h
theorem un {r : V → Hp → VK → Prop} (h : ta σ H fun x H1 => r x H1 Q) : tUn r ta σ H Q := h
theorem i0 {g : Int → Int → V} {a b : Int} (q : Q (g a b) H) : rI0 g (.int a) (.int b) H Q := ⟨a, b, rfl, rfl, q⟩
theorem iC {C : Int → Int → Prop} {g : Int → Int → V} {a b : Int} (c : C a b) (q : Q (g a b) H) : rI C g (.int a) (.int b) H Q := ⟨a, b, rfl, rfl, c, q⟩
theorem iU {g : Int → V} {a : Int} (q : Q (g a) H) : rU g (.int a) H Q := ⟨a, rfl, q⟩
theorem eqII {a b : Int} (q : Q (.bl (decide (a = b))) H) : rEq (.int a) (.int b) H Q := ⟨rfl, by
  have e : decide (V.int a = V.int b) = decide (a = b) := by simp
  rw [e]; exact q⟩
theorem neII {a b : Int} (q : Q (.bl (!decide (a = b))) H) : rNe (.int a) (.int b) H Q := ⟨rfl, by
  have e : decide (V.int a = V.int b) = decide (a = b) := by simp
  rw [e]; exact q⟩
theorem eqSS {a b : Str} (q : Q (.bl (decide (a = b))) H) : rEq (.str a) (.str b) H Q := ⟨rfl, by
  have e : decide (V.str a = V.str b) = decide (a = b) := by simp
  rw [e]; exact q⟩
theorem neSS {a b : Str} (q : Q (.bl (!decide (a = b))) H) : rNe (.str a) (.str b) H Q := ⟨rfl, by
  have e : decide (V.str a = V.str b) = decide (a = b) := by simp
  rw [e]; exact q⟩
theorem eqBB {a b : Bool} (q : Q (.bl (decide (a = b))) H) : rEq (.bl a) (.bl b) H Q := ⟨rfl, by
  have e : decide (V.bl a = V.bl b) = decide (a = b) := by simp
  rw [e]; exact q⟩
theorem neBB {a b : Bool} (q : Q (.bl (!decide (a = b))) H) : rNe (.bl a) (.bl b) H Q := ⟨rfl, by
  have e : decide (V.bl a = V.bl b) = decide (a = b) := by simp
  rw [e]; exact q⟩
theorem bl {b : Bool} {q : Bool → Hp → Prop} (h : q b H) : ∃ k, V.bl b = .bl k ∧ q k H := ⟨b, rfl, h⟩
theorem bl' {b : Bool} {q : Bool → Prop} (h : q b) : ∃ k, V.bl b = .bl k ∧ q k := ⟨b, rfl, h⟩
theorem test {Q : Bool → Hp → Prop} (h : te σ H fun x H' => ∃ k, x = .bl k ∧ Q k H') : tTest te σ H Q := h
theorem tbb {Q : Bool → Hp → Prop} (h : te σ H fun x H' => ∃ k, x = .bl k ∧ Q k H') : tB te σ H Q := h
theorem tand {a b : TT} {Q : Bool → Hp → Prop} (h : a σ H fun c H1 => if c = true then b σ H1 Q else Q false H1) : tAnd a b σ H Q := h
theorem tor {a b : TT} {Q : Bool → Hp → Prop} (h : a σ H fun c H1 => if c = true then Q true H1 else b σ H1 Q) : tOr a b σ H Q := h
theorem tnot {a : TT} {Q : Bool → Hp → Prop} (h : a σ H fun c H1 => Q (!c) H1) : tNot a σ H Q := h
theorem tyes {Q : Bool → Hp → Prop} (h : Q true H) : tYes σ H Q := h
theorem andV (h : ta σ H fun x H1 => ∃ c, x = .bl c ∧ if c = true then tb σ H1 Q else Q (.bl false) H1) : tAndV ta tb σ H Q := h
theorem orV (h : ta σ H fun x H1 => ∃ c, x = .bl c ∧ if c = true then Q (.bl true) H1 else tb σ H1 Q) : tOrV ta tb σ H Q := h
theorem notV (h : ta σ H fun x H1 => ∃ c, x = .bl c ∧ Q (.bl (!c)) H1) : tNotV ta σ H Q := h
theorem ifE (h : tA σ H fun c H1 => if c = true then ta σ H1 Q else tb σ H1 Q) : L2.tIf tA ta tb σ H Q := h
theorem chain {r r' : R2} (h : ta σ H fun x H1 => tb σ H1 fun y H2 => r x y H2 fun z H3 => ∃ k, z = .bl k ∧ (if k = true then tc σ H3 fun w' H4 => r' y w' H4 Q else Q (.bl false) H3)) : tChain r r' ta tb tc σ H Q := h
/-! branches -/
theorem ite {p : Prop} [Decidable p] (h1 : p → A) (h2 : ¬p → B) : if decide p = true then A else B := by
  by_cases h : p
  · rw [decide_eq_true h, if_pos rfl]; exact h1 h
  · rw [decide_eq_false h, if_neg Bool.false_ne_true]; exact h2 h
theorem iteN {p : Prop} [Decidable p] (h1 : ¬p → A) (h2 : p → B) : if (!decide p) = true then A else B := by
  by_cases h : p
  · rw [decide_eq_true h]; exact h2 h
  · rw [decide_eq_false h]; exact h1 h
theorem iteB {b : Bool} (h1 : b = true → A) (h2 : b = false → B) : if b = true then A else B := by
  cases b with
  | true => exact h1 rfl
  | false => exact h2 rfl
theorem yes {p : Prop} [Decidable p] (h : p) (q : A) : if decide p = true then A else B := by rw [decide_eq_true h, if_pos rfl]; exact q
theorem no {p : Prop} [Decidable p] (h : ¬p) (q : B) : if decide p = true then A else B := by rw [decide_eq_false h, if_neg Bool.false_ne_true]; exact q
theorem yesN {p : Prop} [Decidable p] (h : ¬p) (q : A) : if (!decide p) = true then A else B := by rw [decide_eq_false h]; exact q
theorem noN {p : Prop} [Decidable p] (h : p) (q : B) : if (!decide p) = true then A else B := by rw [decide_eq_true h]; exact q
theorem yesB (q : A) : if true = true then A else B := q
theorem noNB (q : B) : if (!true) = true then A else B := q
theorem yesNB (q : A) : if (!false) = true then A else B := q
theorem noB (q : B) : if false = true then A else B := q
/-! calls -/
theorem nil {Q : List V → Hp → Prop} (q : Q [] H) : tNil σ H Q := q
theorem cons {Q : List V → Hp → Prop} {tr : TA} (h : ta σ H fun x H1 => tr σ H1 fun xs H2 => Q (x :: xs) H2) : tCons ta tr σ H Q := h
theorem cb {r : List V → Hp → VK → Prop} {a : TA} (h : a σ H fun vs H1 => r vs H1 Q) : tCB r a σ H Q := h
theorem call {sp : Sp} {dvs : List V} {E : XK} {a : TA} (h : a σ H fun vs H1 => sp (vs ++ dvs) H1 Q E) : tCall sp dvs E a σ H Q := h
theorem meth {C : Addr} {m : Str} {sp : Sp} {dvs : List V} {E : XK} {a : TA} (h : ta σ H fun x H1 => ∃ p dx fs, x = .ref p ∧ H1 p = some (.ins C dx fs) ∧ fs.lookup m = none ∧ a σ H1 fun vs H2 => sp (x :: (vs ++ dvs)) H2 Q E) : tMeth C m sp dvs E ta a σ H Q := h
theorem fld {f : Str} (h : ta σ H fun x H1 => ∃ a C dx fs v, x = .ref a ∧ H1 a = some (.ins C dx fs) ∧ Cls K C ∧ NoAttr K C f ∧ fs.lookup f = some v ∧ Q v H1) : tFld K ta f σ H Q := h
theorem int1 {a : Int} (q : Q (.int a) H) : rInt1 [.int a] H Q := .inl ⟨a, rfl, q⟩
theorem intb {b : Bool} (q : Q (.int (if b then 1 else 0)) H) : rInt1 [.bl b] H Q := .inr ⟨b, rfl, q⟩
theorem abs1 {a : Int} (q : Q (.int (if a < 0 then -a else a)) H) : rAbs [.int a] H Q := ⟨a, rfl, q⟩
theorem isN (q : Q (.bl (decide (x = .non))) H) : rIsN x .non H Q := ⟨rfl, q⟩
theorem notN (q : Q (.bl (!decide (x = .non))) H) : rNotN x .non H Q := ⟨rfl, q⟩
theorem addS {a b : Str} (h : a.length + b.length ≤ sizeLine) (q : Q (.str (a ++ b)) H) : rAddS (.str a) (.str b) H Q := ⟨a, b, rfl, rfl, h, q⟩
theorem inSg {c : Nat} {z : Str} (q : Q (.bl (decide (c ∈ z.cps.toList))) H) : rInSg (.str ⟨#[c]⟩) (.str z) H Q := ⟨c, z, rfl, rfl, q⟩
theorem ninSg {c : Nat} {z : Str} (q : Q (.bl (!decide (c ∈ z.cps.toList))) H) : rNinSg (.str ⟨#[c]⟩) (.str z) H Q := ⟨c, z, rfl, rfl, q⟩
/-- a new object -/
theorem new {o : HO} (h : ∀ p, H p = none → Q (.ref p) (upd H p o)) : ∀ p, H p = none → Q (.ref p) (upd H p o) := h
def TupN (Q : VK) (xs : List V) (H1 : Hp) : Prop := xs.length ≤ sizeLine ∧ ∀ p, H1 p = none → Q (.ref p) (upd H1 p (.tup xs))
def LstN (Q : VK) (xs : List V) (H1 : Hp) : Prop := xs.length ≤ sizeLine ∧ ∀ p, H1 p = none → Q (.ref p) (upd H1 p (.lst xs))
theorem tup {a : TA} (h : a σ H (TupN Q)) : tTup a σ H Q := h
theorem lst {a : TA} (h : a σ H (LstN Q)) : tLst a σ H Q := h
/-- a new object, the heap behind it a letter -/
theorem mk {o : HO} {H0 : Hp} {R : Addr → Hp → Prop} (h : ∀ p H1, H0 p = none → Kp [] H0 H1 → H1 p = some o → R p H1) : ∀ p, H0 p = none → R p (upd H0 p o) := fun p n => h p _ n (Kp.new n) upd_same
theorem tupK {xs : List V} (q : ∀ p H1, H p = none → Kp [] H H1 → H1 p = some (.tup xs) → Q (.ref p) H1) (h : xs.length ≤ 100000 := by simp) : TupN Q xs H := ⟨Nat.le_trans h (by decide), mk q⟩
theorem lstK {xs : List V} (q : ∀ p H1, H p = none → Kp [] H H1 → H1 p = some (.lst xs) → Q (.ref p) H1) (h : xs.length ≤ 100000 := by simp) : LstN Q xs H := ⟨Nat.le_trans h (by decide), mk q⟩
theorem sz {n m : Nat} (h : n ≤ m) (hm : m ≤ 10000000 := by decide) : n ≤ sizeLine := Nat.le_trans h (Nat.le_trans hm (by decide))
theorem szl {n m : Nat} (h : n ≤ m) (hm : m ≤ 10000000 := by decide) : n < sizeLine := Nat.lt_of_le_of_lt (Nat.le_trans h hm) (by decide)
/-! subscripts -/
theorem ixL {p : Addr} {xs : List V} {j : Int} (h : SqL K H p xs) (e : atI xs j = some v) (q : Q v H) : rIxL K (.ref p) (.int j) H Q := ⟨p, xs, j, v, rfl, rfl, h, e, q⟩
theorem ixT {p : Addr} {xs : List V} {j : Int} (h : SqT K H p xs) (e : atI xs j = some v) (q : Q v H) : rIxT K (.ref p) (.int j) H Q := ⟨p, xs, j, v, rfl, rfl, h, e, q⟩
theorem setL {p : Addr} {xs : List V} {k : Int} {j : Nat} {v : V} {q : Hp → Prop} (h : H p = some (.lst xs)) (e : ixN xs.length k = some j) (hq : q (upd H p (.lst (xs.set j v)))) : rSetL (.ref p) (.int k) v H q := ⟨p, xs, k, j, rfl, rfl, h, e, hq⟩
theorem gsub {to ti : TE} {t : TSet} {Q : St → Hp → Prop} (h : to σ H fun o H1 => ti σ H1 fun i H2 => t o i v H2 fun H3 => Q σ H3) : gSub to ti t v σ H Q := h
/-! statements -/
/-- a statement whose ways join ahead of the rest -/
def tSeqJ (t u : TS) : TS := tSeq t u
theorem pss_consJ {X : Cx} {st : Stmt} {rest : List Stmt} {t u : TS} (h1 : PS X st t) (h2 : PSs X rest u) : PSs X (st :: rest) (tSeqJ t u) := pss_cons h1 h2
theorem seqJ (J : St → Hp → Prop) (h2 : ∀ σ H, J σ H → u D σ H) (h1 : ∀ N : St → Hp → Prop, (∀ σ H, J σ H → N σ H) → t { D with nx := N } σ H) : tSeqJ t u D σ H := h1 (u D) h2
theorem seqJ' (h : tSeq t u D σ H) : tSeqJ t u D σ H := h
theorem seq (h : t { D with nx := u D } σ H) : tSeq t u D σ H := h
theorem asg {g : TG} (h : te σ H fun x H1 => g x σ H1 D.nx) : tAsg te g D σ H := h
theorem gname {Q : St → Hp → Prop} {σ' : St} (e : σ.set i (some v) = σ') (h : Q σ' H) : gName i v σ H Q := by
  subst e; exact h
def ParK (i j : Nat) (D : Ends) (σ : St) (vs : List V) (H1 : Hp) : Prop := ∃ v w, vs = [v, w] ∧ D.nx ((σ.set i (some v)).set j (some w)) H1
theorem par {i j : Nat} {a : TA} (h : a σ H (ParK i j D σ)) : tPar i j a D σ H := h
theorem par2 {i j : Nat} {v w : V} {σ' : St} (e : (σ.set i (some v)).set j (some w) = σ') (h : D.nx σ' H) : ParK i j D σ [v, w] H := ⟨v, w, rfl, by rw [e]; exact h⟩
theorem aug {ti : TIp} {x : V} (e : σ[i]? = some (some x)) (h : te σ H fun y H1 => ti x y H1 fun z H2 => D.nx (σ.set i (some z)) H2) : tAug i te ti D σ H := ⟨x, e, h⟩
theorem ipI' {f : Int → Int → Int} {a b : Int} (q : Q (.int (f a b)) H) : ipI f (.int a) (.int b) H Q := ⟨a, b, rfl, rfl, q⟩
theorem ifs {c : TT} (h : c σ H fun b H1 => if b = true then t D σ H1 else u D σ H1) : tIfS c t u D σ H := h
theorem ret (h : te σ H D.rt) : tRet te D σ H := h
theorem retN (h : D.rt .non H) : tRetN D σ H := h
theorem next (h : D.nx σ H) : tNext D σ H := h
theorem brk (h : D.bk σ H) : tBreak D σ H := h
theorem drop (h : te σ H fun _ H1 => D.nx σ H1) : tDrop te D σ H := h
theorem bm {T : String} {r : V → List V → Hp → VK → Prop} {to : TE} {a : TA} (h : to σ H fun x H1 => tyV K T x H1 ∧ a σ H1 fun xs H2 => r x xs H2 Q) : tBM K T r to a σ H Q := h
theorem bm0 {T : String} {r : V → List V → Hp → VK → Prop} {to : TE} (h : to σ H fun x H1 => tyV K T x H1 ∧ r x [] H1 Q) : tBM0 K T r to σ H Q := h
theorem app {l : Addr} {xs : List V} {y : V} (h : H l = some (.lst xs)) (z : xs.length < sizeLine) (q : Q .non (upd H l (.lst (xs ++ [y])))) : rAppend (.ref l) [y] H Q := ⟨l, xs, y, rfl, rfl, h, z, q⟩
theorem tyL {p : Addr} {xs : List V} (h : H p = some (.lst xs)) : tyV K "list" (.ref p) H := .inl ⟨rfl, _, SqL.of h⟩
theorem sfld {tv : TE} {f : Str} (h : tv σ H fun y H1 => ta σ H1 fun x H2 => ∃ a C dx fs, x = .ref a ∧ H2 a = some (.ins C dx fs) ∧ Cls K C ∧ NoAttr K C f ∧ fs.length < 1000 ∧ D.nx σ (upd H2 a (.ins C dx (putF f y fs)))) : sFld K ta tv f D σ H := h
theorem sfldaug {tv : TE} {rd : V → V → Hp → VK → Prop} {f : Str} (h : ta σ H fun x H1 => ∃ a C dx fs v, x = .ref a ∧ H1 a = some (.ins C dx fs) ∧ Cls K C ∧ NoAttr K C f ∧ fs.lookup f = some v ∧ tv σ H1 fun y H2 => rd v y H2 fun z H3 => ∃ dx' fs', H3 a = some (.ins C dx' fs') ∧ fs'.length < 1000 ∧ D.nx σ (upd H3 a (.ins C dx' (putF f z fs')))) : sFldAug K ta tv rd f D σ H := h
theorem radd {a b : Int} (q : Q (.int (a + b)) H) : rAdd (.int a) (.int b) H Q := ⟨a, b, rfl, rfl, q⟩
theorem make {C : Addr} {sp : Sp} {dvs : List V} {E : XK} {a : TA} (h : a σ H fun vs H1 => ∀ x dx, H1 x = none → H1 dx = none → dx ≠ x → sp (.ref x :: (vs ++ dvs)) (upd (upd H1 dx (.own x)) x (.ins C dx [])) (fun v H2 => v = .non ∧ Q (.ref x) H2) E) : tMake C sp dvs E a σ H Q := h
/-- while -/
def WhB (W : Nat → St → Hp → Prop) (m : Nat) (tb : TS) (D : Ends) (σ : St) (H1 : Hp) : Prop := ∃ N : St → Hp → Prop, (∀ σ' H', N σ' H' → ∃ m', m' < m ∧ W m' σ' H') ∧ tb { D with nx := N, ct := N, bk := D.nx } σ H1
theorem whb {W : Nat → St → Hp → Prop} {m : Nat} {tb : TS} (h : tb { D with nx := fun σ' H' => ∃ m', m' < m ∧ W m' σ' H', ct := fun σ' H' => ∃ m', m' < m ∧ W m' σ' H', bk := D.nx } σ H) : WhB W m tb D σ H := ⟨_, fun _ _ z => z, h⟩
theorem wh {c : TT} {tb : TS} (W : Nat → St → Hp → Prop) (m : Nat) (h0 : W m σ H) (hs : ∀ m σ H, W m σ H → c σ H fun b H1 => if b = true then WhB W m tb D σ H1 else D.nx σ H1) : tWhile c tb D σ H := ⟨W, ⟨m, h0⟩, hs⟩
/-- calls by values -/
theorem sumL {a : Addr} {ns : List Int} (h : SqL K H a (ns.map V.int)) (q : Q (.int ns.sum) H) : rSum K [.ref a] H Q := ⟨a, ns, rfl, h, q⟩
theorem gcd {a b : Int} (q : Q (.int ((Nat.gcd a.natAbs b.natAbs : Nat) : Int)) H) : rGcd [.int a, .int b] H Q := ⟨a, b, rfl, q⟩
theorem mkN {C : Addr} {sp : Sp} {Q : XK} (h : ∀ a, H a = none → sp [.ref a] (upd H a (exo a C none)) (fun v H2 => v = .non ∧ H2 a = some (exo a C none) ∧ Q (.ref C) none (del H2 a)) (fun _ _ _ => False)) : Sup.tMkN C sp σ H Q := h
theorem gtup {n : Nat} {t : TGs} {a : Addr} {xs : List V} {Q : St → Hp → Prop} (h : SqT K H a xs) (e : xs.length = n) (q : t xs σ H Q) : gTup K n t (.ref a) σ H Q := ⟨a, xs, rfl, h, e, q⟩
theorem gcons {t : TG} {u : TGs} {v : V} {r : List V} {Q : St → Hp → Prop} (q : t v σ H fun σ' H' => u r σ' H' Q) : gCons t u (v :: r) σ H Q := ⟨v, r, rfl, q⟩
theorem gnil {Q : St → Hp → Prop} (q : Q σ H) : gNil [] σ H Q := ⟨rfl, q⟩
theorem lenL {a : Addr} {xs : List V} (h : SqL K H a xs) (q : Q (.int xs.length) H) : rLenN K [.ref a] H Q := ⟨a, xs, rfl, .inl h, q⟩
theorem lenT {a : Addr} {xs : List V} (h : SqT K H a xs) (q : Q (.int xs.length) H) : rLenN K [.ref a] H Q := ⟨a, xs, rfl, .inr h, q⟩
theorem listL {a : Addr} {xs : List V} (h : SqL K H a xs) (q : ∀ p H1, H p = none → Kp [] H H1 → H1 p = some (.lst xs) → Q (.ref p) H1) : rListN K [.ref a] H Q := ⟨a, xs, rfl, .inl h, mk q⟩
theorem isi {A B : String} {x : V} {b : Bool} (ht : TyX K H x (.type A)) (hk : kitB A B = some b) (q : Q (.bl b) H) : rIsi K [x, .ty B] H Q := ⟨x, _, _, _, b, rfl, .ty _, ht, kit_ty hk, q⟩
theorem isiI {B : String} {a : Int} {b : Bool} (hk : kitB "int" B = some b) (q : Q (.bl b) H) : rIsi K [.int a, .ty B] H Q := isi (.base (.int _)) hk q
theorem atM {ns : List Int} {j : Nat} {x : Int} (h : ns[j]? = some x) : atI (ns.map V.int) (j : Int) = some (.int x) := atI_nat (by rw [List.getElem?_map, h]; rfl)
theorem ixN_nat {n j : Nat} (hj : j < n) : ixN n (j : Int) = some j := by
  unfold ixN
  rw [if_pos (by omega), if_pos (by omega)]
  simp
/-- a comprehension, a loop over range(n), over a list -/
def ForK (g : TG) (tb : TS) (D : Ends) (σ : St) (J : It) (H1 : Hp) : Prop := ∃ W : Nat → Nat → St → Hp → Prop, (∃ m, W 0 m σ H1) ∧ ∀ i m σ H, W i m σ H →
  (J.stop i H ∧ D.nx σ H) ∨ (J.go i H ∧ ∃ N : St → Hp → Prop, (∀ σ' H', N σ' H' → ∃ m', m' < m ∧ W (i + 1) m' σ' H') ∧ ∀ x H', J.yld i H x H' → g x σ H' fun σ2 H2 => tb { D with nx := N, ct := N, bk := D.nx } σ2 H2)
def LcK (g : TG) (tt : TT) (te : TE) (vs : List Nat) (σ : St) (Q : VK) (J : It) (H1 : Hp) : Prop := ∀ D, H1 D = none → ∃ W : Nat → Nat → Hp → Prop, (∃ m, W 0 m (upd H1 D (.lst []))) ∧ ∀ i m H, W i m H →
      (J.stop i H ∧ Q (.ref D) H) ∨ (J.go i H ∧ ∃ Nx : Hp → Prop, (∀ H', Nx H' → ∃ m', m' < m ∧ W (i + 1) m' H') ∧ ∀ x H', J.yld i H x H' → g x (wipe σ vs) H' fun σ2 H2 => wipe σ2 vs = wipe σ vs ∧ tt σ2 H2 fun b H3 => if b = true then te σ2 H3 fun y H4 => ∃ acc, H4 D = some (.lst acc) ∧ acc.length < sizeLine ∧ Nx (upd H4 D (.lst (acc ++ [y]))) else Nx H3)
def Rng1K (R : It → Hp → Prop) (vs : List V) (H1 : Hp) : Prop := ∃ j : Int, vs = [.int j] ∧ -(2 ^ 62) ≤ j ∧ j < 2 ^ 62 ∧ R (Itr 0 j.toNat) H1
def ListK (K : PySem.W.Frag) (R : It → Hp → Prop) (x : V) (H1 : Hp) : Prop := ∃ a, x = .ref a ∧ (∃ xs, SqL K H1 a xs) ∧ R (Itl K a) H1
theorem lc {wi : TI} {g : TG} {tt : TT} {vs : List Nat} (h : wi σ H (LcK g tt te vs σ Q)) : tLc wi g tt te vs σ H Q := h
theorem rng1 {a : TA} {R : It → Hp → Prop} (h : a σ H (Rng1K R)) : iRng1 a σ H R := h
theorem ilist {R : It → Hp → Prop} (h : ta σ H (ListK K R)) : iList K ta σ H R := h
theorem for_ {wi : TI} {g : TG} {tb : TS} (h : wi σ H (ForK g tb D σ)) : tFor wi g tb D σ H := h
/-- what one turn of a comprehension asks -/
def LcT (g : TG) (tt : TT) (te : TE) (vs : List Nat) (σ : St) (D : Addr) (P : Hp → Prop) (x : V) (H1 : Hp) : Prop := g x (wipe σ vs) H1 fun σ2 H2 => wipe σ2 vs = wipe σ vs ∧ tt σ2 H2 fun b H3 => if b = true then te σ2 H3 fun y H4 => ∃ acc, H4 D = some (.lst acc) ∧ acc.length < sizeLine ∧ P (upd H4 D (.lst (acc ++ [y]))) else P H3
theorem lcr {g : TG} {tt : TT} {vs : List Nat} {e : Int} (n : Nat) (he : e = (n : Int)) (hb : n < 4611686018427387904) (Pv : Addr → Nat → Hp → Prop) (h0 : ∀ D H1, H D = none → Kp [] H H1 → H1 D = some (.lst []) → Pv D 0 H1)
    (hs : ∀ D i H1, H D = none → i < n → Pv D i H1 → g (.int (i : Int)) (wipe σ vs) H1 fun σ2 H2 => wipe σ2 vs = wipe σ vs ∧ tt σ2 H2 fun b H3 => if b = true then te σ2 H3 fun y H4 => ∃ acc, H4 D = some (.lst acc) ∧ acc.length < sizeLine ∧ Pv D (i + 1) (upd H4 D (.lst (acc ++ [y]))) else Pv D (i + 1) H3)
    (hd : ∀ D H1, H D = none → Pv D n H1 → Q (.ref D) H1) : Rng1K (LcK g tt te vs σ Q) [.int e] H := by
  subst he
  refine ⟨(n : Int), rfl, by omega, by omega, fun D hD => ?_⟩
  rw [show ((n : Int)).toNat = n by simp]
  refine lc_range (lo := 0) (n := n) (Pv D) (h0 D _ hD (Kp.new hD) upd_same) (fun i H1 hi p => ?_) fun H1 p => hd D H1 hD p
  rw [show (0 : Int) + (i : Int) = (i : Int) by omega]
  exact hs D i H1 hD hi p
theorem lcl {g : TG} {tt : TT} {vs : List Nat} {a : Addr} (xs : List V) (hS : SqL K H a xs) (Pv : Addr → Nat → Hp → Prop) (h0 : ∀ D H1, H D = none → Kp [] H H1 → H1 D = some (.lst []) → Pv D 0 H1)
    (hl : ∀ D i H1, H D = none → i ≤ xs.length → Pv D i H1 → SqL K H1 a xs)
    (hs : ∀ D i x H1, H D = none → xs[i]? = some x → Pv D i H1 → g x (wipe σ vs) H1 fun σ2 H2 => wipe σ2 vs = wipe σ vs ∧ tt σ2 H2 fun b H3 => if b = true then te σ2 H3 fun y H4 => ∃ acc, H4 D = some (.lst acc) ∧ acc.length < sizeLine ∧ Pv D (i + 1) (upd H4 D (.lst (acc ++ [y]))) else Pv D (i + 1) H3)
    (hd : ∀ D H1, H D = none → Pv D xs.length H1 → Q (.ref D) H1) : ListK K (LcK g tt te vs σ Q) (.ref a) H :=
  ⟨a, rfl, ⟨xs, hS⟩, fun D hD => lc_list (K := K) (a := a) (xs := xs) (Pv D) (h0 D _ hD (Kp.new hD) upd_same) (fun i H1 hi p => hl D i H1 hD hi p) (fun i x H1 hx p => hs D i x H1 hD hx p) fun H1 p => hd D H1 hD p⟩
/-- over a tuple -/
def TupK (K : PySem.W.Frag) (R : It → Hp → Prop) (x : V) (H1 : Hp) : Prop := ∃ a, x = .ref a ∧ (∃ xs, SqT K H1 a xs) ∧ R (Itt K a) H1
theorem itup {R : It → Hp → Prop} (h : ta σ H (TupK K R)) : iTup K ta σ H R := h
theorem lct {g : TG} {tt : TT} {vs : List Nat} {a : Addr} (xs : List V) (hS : SqT K H a xs) (Pv : Addr → Nat → Hp → Prop) (h0 : ∀ D H1, H D = none → Kp [] H H1 → H1 D = some (.lst []) → Pv D 0 H1)
    (hl : ∀ D i H1, H D = none → i ≤ xs.length → Pv D i H1 → SqT K H1 a xs)
    (hs : ∀ D i x H1, H D = none → xs[i]? = some x → Pv D i H1 → g x (wipe σ vs) H1 fun σ2 H2 => wipe σ2 vs = wipe σ vs ∧ tt σ2 H2 fun b H3 => if b = true then te σ2 H3 fun y H4 => ∃ acc, H4 D = some (.lst acc) ∧ acc.length < sizeLine ∧ Pv D (i + 1) (upd H4 D (.lst (acc ++ [y]))) else Pv D (i + 1) H3)
    (hd : ∀ D H1, H D = none → Pv D xs.length H1 → Q (.ref D) H1) : TupK K (LcK g tt te vs σ Q) (.ref a) H :=
  ⟨a, rfl, ⟨xs, hS⟩, fun D hD => lc_tup (K := K) (a := a) (xs := xs) (Pv D) (h0 D _ hD (Kp.new hD) upd_same) (fun i H1 hi p => hl D i H1 hD hi p) (fun i x H1 hx p => hs D i x H1 hD hx p) fun H1 p => hd D H1 hD p⟩
theorem allL {a : Addr} {bs : List Bool} (h : SqL K H a (bs.map V.bl)) (q : Q (.bl (bs.all id)) H) : rAll K [.ref a] H Q := ⟨a, bs, rfl, h, q⟩
theorem anyL {a : Addr} {bs : List Bool} (h : SqL K H a (bs.map V.bl)) (q : Q (.bl (bs.any id)) H) : rAny K [.ref a] H Q := ⟨a, bs, rfl, h, q⟩
theorem forr {g : TG} {tb : TS} {e : Int} (n : Nat) (he : e = (n : Int)) (hb : n < 4611686018427387904) (Pv : Nat → St → Hp → Prop) (h0 : Pv 0 σ H)
    (hs : ∀ i σ H, i < n → Pv i σ H → g (.int (i : Int)) σ H fun σ2 H2 => tb { D with nx := Pv (i + 1), ct := Pv (i + 1), bk := D.nx } σ2 H2) (hd : ∀ σ H, Pv n σ H → D.nx σ H) : Rng1K (ForK g tb D σ) [.int e] H := by
  subst he
  refine ⟨(n : Int), rfl, by omega, by omega, ?_⟩
  rw [show ((n : Int)).toNat = n by simp]
  refine for_range (lo := 0) (n := n) Pv h0 (fun i σ H1 hi p => ?_) hd
  rw [show (0 : Int) + (i : Int) = (i : Int) by omega]
  exact hs i σ H1 hi p
theorem forl {g : TG} {tb : TS} {a : Addr} (xs : List V) (hS : SqL K H a xs) (Pv : Nat → St → Hp → Prop) (h0 : Pv 0 σ H) (hl : ∀ i σ H, i ≤ xs.length → Pv i σ H → SqL K H a xs)
    (hs : ∀ i x σ H, xs[i]? = some x → Pv i σ H → g x σ H fun σ2 H2 => tb { D with nx := Pv (i + 1), ct := Pv (i + 1), bk := D.nx } σ2 H2) (hd : ∀ σ H, Pv xs.length σ H → D.nx σ H) : ListK K (ForK g tb D σ) (.ref a) H :=
  ⟨a, rfl, ⟨xs, hS⟩, for_list (K := K) (a := a) (xs := xs) Pv h0 hl hs hd⟩
/-! texts -/
def StrK (R : It → Hp → Prop) (v : V) (H1 : Hp) : Prop := ∃ x, v = .str x ∧ R (Its x) H1
theorem istr {R : It → Hp → Prop} (h : ta σ H (StrK R)) : iStr ta σ H R := h
theorem fors {g : TG} {tb : TS} {x : Str} (Pv : Nat → St → Hp → Prop) (h0 : Pv 0 σ H)
    (hs : ∀ i c σ H, x.cps[i]? = some c → Pv i σ H → g (.str ⟨#[c]⟩) σ H fun σ2 H2 => tb { D with nx := Pv (i + 1), ct := Pv (i + 1), bk := D.nx } σ2 H2) (hd : ∀ σ H, Pv x.cps.size σ H → D.nx σ H) : StrK (ForK g tb D σ) (.str x) H :=
  ⟨x, rfl, for_it walk_str Pv h0 (fun _ _ _ _ _ => trivial) (fun i v σ H H' hi p y => by obtain ⟨rfl, c, hc, rfl⟩ := y; exact hs i c σ _ hc p) hd⟩
theorem lcs {g : TG} {tt : TT} {vs : List Nat} {x : Str} (Pv : Addr → Nat → Hp → Prop) (h0 : ∀ D H1, H D = none → Kp [] H H1 → H1 D = some (.lst []) → Pv D 0 H1)
    (hs : ∀ D i c H1, H D = none → x.cps[i]? = some c → Pv D i H1 → g (.str ⟨#[c]⟩) (wipe σ vs) H1 fun σ2 H2 => wipe σ2 vs = wipe σ vs ∧ tt σ2 H2 fun b H3 => if b = true then te σ2 H3 fun y H4 => ∃ acc, H4 D = some (.lst acc) ∧ acc.length < sizeLine ∧ Pv D (i + 1) (upd H4 D (.lst (acc ++ [y]))) else Pv D (i + 1) H3)
    (hd : ∀ D H1, H D = none → Pv D x.cps.size H1 → Q (.ref D) H1) : StrK (LcK g tt te vs σ Q) (.str x) H :=
  ⟨x, rfl, fun D hD => lc_it walk_str (Pv D) (h0 D _ hD (Kp.new hD) upd_same) (fun _ _ _ _ => trivial) (fun i v H H' hi p y => by obtain ⟨rfl, c, hc, rfl⟩ := y; exact hs D i c _ hD hc p) fun H1 p => hd D H1 hD p⟩
theorem lenS {x : Str} (hz : x.cps.size ≤ 10000000) (q : Q (.int (x.cps.size : Nat)) H) : rLenS [.str x] H Q := ⟨x, rfl, hz, q⟩
/-! enumerate -/
def EnumK (K : PySem.W.Frag) (R : It → Hp → Prop) (vs : List V) (H1 : Hp) : Prop := ∃ a xs, vs = [.ref a] ∧ SqL K H1 a xs ∧ R (Ite K a) H1
theorem ienum {a : TA} {R : It → Hp → Prop} (h : a σ H (EnumK K R)) : iEnum K a σ H R := h
theorem fore {g : TG} {tb : TS} {a : Addr} (xs : List V) (hS : SqL K H a xs) (Pv : Nat → St → Hp → Prop) (h0 : Pv 0 σ H) (hl : ∀ i σ H, i ≤ xs.length → Pv i σ H → SqL K H a xs)
    (hs : ∀ i x σ H H' T, xs[i]? = some x → Pv i σ H → H T = none → Kp [] H H' → H' T = some (.tup [.int (i : Nat), x]) → g (.ref T) σ H' fun σ2 H2 => tb { D with nx := Pv (i + 1), ct := Pv (i + 1), bk := D.nx } σ2 H2) (hd : ∀ σ H, Pv xs.length σ H → D.nx σ H) : EnumK K (ForK g tb D σ) [.ref a] H :=
  ⟨a, xs, rfl, hS, for_it (walk_enum (K := K) (a := a) (xs := xs)) Pv h0 hl (fun i v σ H H' hi p y => by
    obtain ⟨T, x, z, rfl, h1, rfl, h2, h3⟩ := y
    cases h2
    exact hs i z σ H _ T h3 p h1 (Kp.new h1) upd_same) hd⟩
/-! dicts -/
theorem dnew (h : ∀ p H1, H p = none → Kp [] H H1 → H1 p = some (.dK []) → Q (.ref p) H1) : tDNewK σ H Q := mk h
theorem din {ty td : TE} (h : ty σ H fun y H1 => td σ H1 fun x H2 => ∃ a o, x = .ref a ∧ DGet H2 a y o ∧ Q (.bl o.isSome) H2) : tDIn ty td σ H Q := h
theorem dput {td ty tv : TE} (h : tv σ H fun v H1 => td σ H1 fun x H2 => ty σ H2 fun y H3 => ∃ a H4, x = .ref a ∧ DPut H3 a y v H4 ∧ D.nx σ H4) : sDPut td ty tv D σ H := h
theorem dget2 {td ty tx : TE} (h : td σ H fun x H1 => ∃ a, x = .ref a ∧ IsD H1 a ∧ ty σ H1 fun y H2 => tx σ H2 fun z H3 => ∃ o, DGet H3 a y o ∧ Q (o.getD z) H3) : tDGet2 td ty tx σ H Q := h
theorem dget {td ty : TE} (h : td σ H fun x H1 => ty σ H1 fun y H2 => ∃ a v, x = .ref a ∧ DGet H2 a y (some v) ∧ Q v H2) : tDGet td ty σ H Q := h
/-! lists and tuples -/
theorem ixA {p : Addr} {xs : List V} {j : Int} (h : SqL K H p xs ∨ SqT K H p xs) (e : atI xs j = some v) (q : Q v H) : rIx K (.ref p) (.int j) H Q := h.elim (fun h => .inl (ixL h e q)) (fun h => .inr (.inl (ixT h e q)))
theorem lenA {a : Addr} {xs : List V} (h : SqL K H a xs ∨ SqT K H a xs) (q : Q (.int xs.length) H) : rLenN K [.ref a] H Q := ⟨a, xs, rfl, h, q⟩
theorem sl {r : V → Option Int → Option Int → Hp → VK → Prop} {tl th : TO} (h : ta σ H fun x H1 => tl σ H1 fun l H2 => th σ H2 fun u H3 => r x l u H3 Q) : tSl r ta tl th σ H Q := h
theorem slno {Q : Option Int → Hp → Prop} (h : Q none H) : tNoPart σ H Q := h
theorem slpart {Q : Option Int → Hp → Prop} (h : ta σ H fun x H1 => ∃ i, x = .int i ∧ Q (some i) H1) : tPart ta σ H Q := h
theorem bint {i : Int} {q : Int → Prop} (h : q i) : ∃ k, V.int i = .int k ∧ q k := ⟨i, rfl, h⟩
theorem slL {p : Addr} {xs : List V} {lo hi : Option Int} (h : SqL K H p xs) (q : ∀ d H1, H d = none → Kp [] H H1 → H1 d = some (.lst (cutV xs lo hi)) → Q (.ref d) H1) : rSlL K (.ref p) lo hi H Q := ⟨p, xs, rfl, h, mk q⟩
theorem cut_take {xs : List V} {k : Nat} (h : k ≤ xs.length) : cutV xs none (some (k : Int)) = xs.take k := by
  unfold cutV
  rw [HT.sIx_none, HT.sIx_nat, List.drop_zero, Nat.sub_zero, Nat.min_eq_left h]
theorem cut_drop {xs : List V} {k : Nat} (h : k ≤ xs.length) : cutV xs (some (k : Int)) none = xs.drop k := by
  unfold cutV
  rw [HT.sIx_none, HT.sIx_nat, Nat.min_eq_left h]
  exact List.take_of_length_le (by rw [List.length_drop] <;> omega)
theorem inq {neg : Bool} {p : Addr} {xs : List V} (h : SqL K H p xs ∨ SqT K H p xs) (fx : flatV x = true) (fs : xs.all flatV = true) (q : Q (.bl (if neg then !inV x xs else inV x xs)) H) : rIn K neg x (.ref p) H Q := ⟨p, xs, rfl, h, fx, fs, q⟩
theorem inV_strs {a : Str} {l : List Str} : inV (.str a) (l.map V.str) = decide (a ∈ l) := by
  unfold inV
  induction l with
  | nil => simp
  | cons b r ih =>
    rw [List.map_cons, List.any_cons, ih]
    show ((b == a) || _) = _
    by_cases e : b = a
    · subst e; simp
    · have e' : ¬ a = b := fun z => e z.symm
      simp [e, e']
theorem strs_flat {l : List Str} : (l.map V.str).all flatV = true := by simp [flatV]
theorem pop {l : Addr} {xs : List V} {y : V} (h : H l = some (.lst xs)) (e : xs[xs.length - 1]? = some y) (q : Q y (upd H l (.lst xs.dropLast))) : rPop (.ref l) [] H Q := ⟨l, xs, y, rfl, rfl, h, e, q⟩
def LRK (K : PySem.W.Frag) (Q : VK) (x : V) (H1 : Hp) : Prop := ∃ a xs, x = .ref a ∧ SqL K H1 a xs ∧ ∀ p, H1 p = none → Q (.ref p) (upd H1 p (.lst xs.reverse))
theorem listrev (h : ta σ H (LRK K Q)) : RL.tListRev K ta σ H Q := h
theorem lrk {a : Addr} {xs : List V} (hS : SqL K H a xs) (q : ∀ p H1, H p = none → Kp [] H H1 → H1 p = some (.lst xs.reverse) → Q (.ref p) H1) : LRK K Q (.ref a) H := ⟨a, xs, rfl, hS, mk q⟩
theorem popS {l : Addr} {xs : List V} {y : V} (h : H l = some (.lst (xs ++ [y]))) (q : Q y (upd H l (.lst xs))) : rPop (.ref l) [] H Q := ⟨l, _, y, rfl, rfl, h, by simp, by rw [List.dropLast_concat]; exact q⟩
theorem extT {l b : Addr} {xs zs : List V} (h : H l = some (.lst xs)) (h2 : H b = some (.tup zs)) (hz : xs.length + zs.length ≤ 10000000) (q : Q .non (upd H l (.lst (xs ++ zs)))) : RL.rExtT (.ref l) [.ref b] H Q := ⟨l, b, xs, zs, rfl, rfl, h, h2, Nat.le_trans hz (by decide), q⟩
theorem slT {p : Addr} {xs : List V} {k : Nat} (h : SqT K H p xs) (h0 : 0 < k) (h1 : k ≤ xs.length) (q : ∀ d H1, H d = none → Kp [] H H1 → H1 d = some (.tup (xs.drop k)) → Q (.ref d) H1) : rSlT K (.ref p) (some (k : Int)) none H Q := ⟨p, xs, rfl, h, fun z => by
  rw [HT.sIx_nat, Nat.min_eq_left h1] at z
  omega, mk (by rw [cut_drop h1]; exact q)⟩
theorem revl (h : ta σ H (LRK K Q)) : tRevL K ta σ H Q := h
theorem idx {a : Addr} {ys : List V} {y : V} (j : Nat) {z : V} (hS : SqL K H a ys) (fy : flatV y = true) (fs : ys.all flatV = true) (hz : ys[j]? = some z) (hy : eqV z y = true) (hn : ∀ (m : Nat) (z' : V), m < j → ys[m]? = some z' → eqV z' y = false) (q : Q (.int (j : Nat)) H) : rIndex K (.ref a) [y] H Q := ⟨a, ys, y, j, z, rfl, rfl, hS, fy, fs, hz, hy, hn, q⟩
theorem truL {p : Addr} {xs : List V} {q : Bool → Prop} (h : H p = some (.lst xs)) (hq : q (!xs.isEmpty)) : ∃ k, TruV K (.ref p) H k ∧ q k := ⟨_, .inl ⟨xs, lstL h, rfl⟩, hq⟩
theorem glst {n : Nat} {t : TGs} {a : Addr} {xs : List V} {Q : St → Hp → Prop} (h : SqL K H a xs) (e : xs.length = n) (q : t xs σ H Q) : gLst K n t (.ref a) σ H Q := ⟨a, xs, rfl, h, e, q⟩
def rSplitQ : V → List V → Hp → VK → Prop := fun x xs H Q => ∃ a b, x = .str a ∧ xs = [.str b] ∧ (b.length == 0) = false ∧ a.length + 2 ≤ sizeLine ∧ rNewStrs (Txt.split a b) H Q
theorem m_split {X : Cx} : MtR X "str.split" rSplitQ := mt_split
theorem split {a b : Str} (hb : (b.length == 0) = false) (hz : a.length ≤ 10000000) (q : ∀ p H1, H p = none → Kp [] H H1 → H1 p = some (.lst ((Txt.split a b).map V.str)) → Q (.ref p) H1) : rSplitQ (.str a) [.str b] H Q := ⟨a, b, rfl, rfl, hb, Nat.le_trans (Nat.add_le_add_right hz 2) (by decide), mk q⟩
def EnSK (K : PySem.W.Frag) (R : It → Hp → Prop) (vs zs : List V) (H2 : Hp) : Prop := ∃ a xs k, vs = [.ref a] ∧ zs = [.int k] ∧ -(2 ^ 63) ≤ k ∧ k < 2 ^ 63 ∧ SqL K H2 a xs ∧ R (RL.IteS K a k) H2
theorem ienumS {a b : TA} {R : It → Hp → Prop} (h : a σ H fun vs H1 => b σ H1 fun zs H2 => EnSK K R vs zs H2) : RL.iEnumS K a b σ H R := h
theorem walk_enumS {a : Addr} {xs : List V} {k : Int} : Walk (RL.IteS K a k) xs.length (fun H => SqL K H a xs) (YPair (fun i => some (.int (k + (i : Nat)))) (fun i => xs[i]?)) := by
  refine ⟨fun i _ hi q => ⟨xs, xs[i], q, by simp [hi]⟩, fun _ q => ⟨xs, q, rfl⟩, fun i H v H' _ q y => ?_⟩
  obtain ⟨T, x, h1, h2, h3, h4⟩ := y
  exact ⟨T, .int (k + (i : Nat)), x, h1, h2, h3, rfl, h4 xs q⟩
theorem fores {g : TG} {tb : TS} {a : Addr} {k : Int} (xs : List V) (hk0 : -(2 ^ 63) ≤ k) (hk1 : k < 2 ^ 63) (hS : SqL K H a xs) (Pv : Nat → St → Hp → Prop) (h0 : Pv 0 σ H) (hl : ∀ i σ H, i ≤ xs.length → Pv i σ H → SqL K H a xs)
    (hs : ∀ i x σ H H' T, xs[i]? = some x → Pv i σ H → H T = none → Kp [] H H' → H' T = some (.tup [.int (k + (i : Nat)), x]) → g (.ref T) σ H' fun σ2 H2 => tb { D with nx := Pv (i + 1), ct := Pv (i + 1), bk := D.nx } σ2 H2) (hd : ∀ σ H, Pv xs.length σ H → D.nx σ H) : EnSK K (ForK g tb D σ) [.ref a] [.int k] H :=
  ⟨a, xs, k, rfl, rfl, hk0, hk1, hS, for_it (walk_enumS (K := K) (a := a) (xs := xs) (k := k)) Pv h0 hl (fun i v σ H H' hi p y => by
    obtain ⟨T, x, z, rfl, h1, rfl, h2, h3⟩ := y
    cases h2
    exact hs i z σ H _ T h3 p h1 (Kp.new h1) upd_same) hd⟩
/-- an f-string of two parts or more -/
def tJoin (ts : List TE) : TE := fun σ H Q => tJs ts Str.empty σ H fun out H1 => Q (.str out) H1
theorem pe_joinedN {X : Cx} {v1 v2 : Expr} {rest : List Expr} {ts : List TE} {pos : Pos} (h : PJ X (v1 :: v2 :: rest) ts) : PE X (.JoinedStr (v1 :: v2 :: rest) pos) (tJoin ts) := pe_joined h
def rJoinQ (K : PySem.W.Frag) : V → List V → Hp → VK → Prop := fun x xs H Q => ∃ a p, ∃ ys : List Str, x = .str a ∧ xs = [.ref p] ∧ (SqL K H p (ys.map V.str) ∨ SqT K H p (ys.map V.str)) ∧ (ys.map (·.length)).sum + ys.length * a.length ≤ 16777216 ∧ Q (.str (Txt.join a ys)) H
theorem m_join {X : Cx} : MtR X "str.join" (rJoinQ X.K) := mt_join
theorem join {a : Str} {p : Addr} {ys : List Str} (h : SqL K H p (ys.map V.str)) (hz : (ys.map (·.length)).sum + ys.length * a.length ≤ 16777216) (q : Q (.str (Txt.join a ys)) H) : rJoinQ K (.str a) [.ref p] H Q := ⟨a, p, ys, rfl, rfl, .inl h, hz, q⟩
theorem lens_le {n : Nat} : ∀ {ys : List Str}, (∀ y ∈ ys, y.length ≤ n) → (ys.map (·.length)).sum ≤ n * ys.length
  | [], _ => by simp
  | y :: r, h => by
    have h1 := h y (by simp)
    have h2 := lens_le (n := n) (ys := r) fun z hz => h z (by simp [hz])
    rw [List.map_cons, List.sum_cons, List.length_cons, Nat.mul_add]
    omega
theorem mulS {x : Str} {k : Nat} (h1 : 2 ≤ k) (h2 : k ≤ 100000) (h3 : 1 ≤ x.length) (h4 : x.length ≤ 100) (q : Q (.str (RL.repS x k)) H) : RL.rMulS (.str x) (.int (k : Int)) H Q := ⟨x, k, rfl, rfl, h1, h2, h3, h4, q⟩
theorem cat {l b : Addr} {xs zs : List V} (h : H l = some (.lst xs)) (h2 : H b = some (.lst zs)) (hz : xs.length + zs.length ≤ 100000) (q : ∀ p H1, H p = none → Kp [] H H1 → H1 p = some (.lst (xs ++ zs)) → Q (.ref p) H1) : rCat (.ref l) (.ref b) H Q := ⟨l, b, xs, zs, rfl, rfl, h, h2, Nat.le_trans hz (by decide), mk q⟩
end
end Z

/-! ### ClsM: classmethods and methods within a try, a class in a local name -/
namespace ClsM
open PySem PySem.Spec PyProof.Rows L2
/-- how the text of o.m(..) is run -/
abbrev MForm (X : Cx) (o : Expr) (m : Str) (es : List Expr) (apos pos : Pos) (pl : Sem Bool) : Prop := eval (.Call (.Attribute o m apos) es [] pos) X.env = (do let ov ← eval o X.env; standAt apos.atName; let (f, first) ← holding [ov] (getMethod ov m pl); callWith pos f first (backTo pos (starEach es X.env)) (backToKw pos (keywordEach [] X.env)))
section
variable {X : Cx} {CX : CXT} {k i : Nat} {f C p g : Addr} {fd : FuncData} {ps : List Str} {sp : Sp} {E : L2.St → XK} {E1 : XK} {m x : Str} {pos apos : Pos} {o e : Expr} {es : List Expr} {ta : TE} {t : TA} {pl : Sem Bool} {mc : Value}
/-- o.m(e, ..) within a try -/
def tMethA (C : Addr) (m : Str) (sp : Sp) (E : L2.St → XK) (ta : TE) (t : TA) : TE := fun σ H Q => ta σ H fun x H1 => ∃ a dx fs, x = .ref a ∧ H1 a = some (.ins C dx fs) ∧ fs.lookup m = none ∧ t σ H1 fun vs H2 => sp (x :: vs) H2 Q (E σ)
theorem pe_methA (he : PE X o ta) (c : Cls X.K C) (hm : Meth X.K C m f) (F : FnOk X.prog X.w X.K X.mg X.base CX k f fd ps sp) (hr : Room k X.A) (hb : Binds X.K fd ps []) (hx : ∀ σ, PassesAt CX X σ (E σ)) (ha : PA X (e :: es) t) (hst : starEach (e :: es) X.env = (false, eval e X.env) :: starEach es X.env := by rfl) (hpl : (backTo pos (starEach es X.env)).any (·.1) = false := by rfl) (ht : MForm X o m (e :: es) apos pos pl := by rfl) :
    PE X (.Call (.Attribute o m apos) (e :: es) [] pos) (tMethA C m sp E ta t) := by
  refine ⟨fun pins s σ H Q I h => PySem.W.methodCall_KW (pl := pl) (thn (he.run pins s σ H _ I h) fun u s1 ⟨x, H1, I1, rx, a, dx, fs, ex, ea, l, q⟩ => ?_) ht⟩
  subst ex
  obtain rfl : u = Value.ref a := rx
  exact getmeth_ok I1 ea c hm l (PySem.W.callWith_K (first := [.ref a]) (h₀ := X.base) I.ok.mod.kin hm.kp (thn (ha.run pos pins s1 σ H1 _ I1 q) fun us s2 ⟨vs, H2, I2, r, q2⟩ => ⟨I2.kIn, run_fnS (us := .ref a :: us) (vs := .ref a :: vs) F hr hb (hx σ) I2 (.cons rfl r) q2⟩) hst hpl)
theorem methA {σ : L2.St} {H : Hp} {Q : VK} (h : ta σ H fun x H1 => ∃ a dx fs, x = .ref a ∧ H1 a = some (.ins C dx fs) ∧ fs.lookup m = none ∧ t σ H1 fun vs H2 => sp (x :: vs) H2 Q (E σ)) : tMethA C m sp E ta t σ H Q := h
/-- the call of a bound classmethod, at the slots σ -/
theorem run_cmS {q : Addr} {pins : List (Addr × Obj)} {σ : L2.St} {H : Hp} {s : Shared} {Q : VK} {us : List Value} {vs : List V} (F : FnOk X.prog X.w X.K X.mg X.base CX k g fd ps sp) (hb : Binds X.K fd ps []) (hr : Room k X.A) (hx : PassesAt CX X σ (E σ)) (I : Inv X ((q, PySem.W.methodObj (.ref g) (.ref C)) :: pins) σ H s) (r : Vals vs us) (h : sp (.ref C :: vs) H Q (E σ)) : wpAny (model X.prog X.w) X.A (call (.ref q) us) (EP X pins σ Q) X.xe s := by
  have hl : (Value.ref C :: us).length = ps.length := by rw [← F.len _ _ _ _ h]; exact congrArg Nat.succ r.length.symm
  have b := hb s (.ref C :: us) I.kIn (by rw [List.append_nil]; exact hl)
  rw [List.append_nil] at b
  have z : wpAny (model X.prog X.w) X.A (call (.ref q) us) (EP X ((q, PySem.W.methodObj (.ref g) (.ref C)) :: pins) σ Q) X.xe s := by
    refine wpAny_call (PySem.W.method_call (ClX.pin_at I) (codeAny_mono (F.run X.A X.stack s H ⟨.ref C :: us, []⟩ (.ref C :: us) (.ref C :: vs) Q (E σ) hr I.env0 b (.cons rfl r) h) fun y s' hq => ?_))
    match y, hq with
    | .error e, hq => exact hx _ H s e s' I hq
    | .ok (.ret u), hq => exact I.after hq
    | .ok .next, hq => exact False.elim hq
    | .ok .brk, hq => exact False.elim hq
    | .ok .cont, hq => exact False.elim hq
  exact thn z fun _ _ y => ClX.unpinE y
/-- C.m(e, ..), m a classmethod of the class C, within a try -/
def tCMeth (C : Addr) (sp : Sp) (E : L2.St → XK) (ta : TE) (t : TA) : TE := fun σ H Q => ta σ H fun x H1 => x = .ref C ∧ t σ H1 fun vs H2 => sp (.ref C :: vs) H2 Q (E σ)
theorem pe_cm (he : PE X o ta) (r : ClX.CRead X.K C mc) (c : ClX.CMet X.K C mc m p g) (F : FnOk X.prog X.w X.K X.mg X.base CX k g fd ps sp) (hb : Binds X.K fd ps []) (hr : Room k X.A) (hx : ∀ σ, PassesAt CX X σ (E σ)) (ha : PA X (e :: es) t) (hst : starEach (e :: es) X.env = (false, eval e X.env) :: starEach es X.env := by rfl) (hpl : (backTo pos (starEach es X.env)).any (·.1) = false := by rfl) (ht : MForm X o m (e :: es) apos pos pl := by rfl) :
    PE X (.Call (.Attribute o m apos) (e :: es) [] pos) (tCMeth C sp E ta t) := by
  refine ⟨fun pins s σ H Q I h => PySem.W.methodCall_KW (pl := pl) (thn (he.run pins s σ H _ I h) fun u s1 ⟨x, H1, I1, rx, ex, q⟩ => ?_) ht⟩
  subst ex
  obtain rfl : u = Value.ref C := rx
  refine ClX.getmethcm_ok I1 r c fun s2 I2 => ClX.callwith_cm I2 (ClX.base_none I1 (Nat.le_refl _)) c.fi (thn (ha.run pos _ s2 σ H1 _ I2 q) fun us s3 ⟨vs, H2, I3, rv, q2⟩ => ⟨⟨ClX.pin_at I3, I3.kIn⟩, ?_⟩) hst hpl
  exact run_cmS F hb hr (hx σ) I3 rv q2
theorem cm {σ : L2.St} {H : Hp} {Q : VK} (h : ta σ H fun x H1 => x = .ref C ∧ t σ H1 fun vs H2 => sp (.ref C :: vs) H2 Q (E σ)) : tCMeth C sp E ta t σ H Q := h
theorem passC {E0 : XK} (hx : Passes CX X E0) (σ : L2.St) : PassesAt CX X σ ((fun _ => E0) σ) := fun pins H s e s' I c => hx pins σ H s e s' I c
/-- n(e, ..), the local n the class C -/
def tMakeL (i : Nat) (C : Addr) (sp : Sp) (t : TA) : TE := fun σ H Q => σ[i]? = some (some (.ref C)) ∧ t σ H fun vs H1 => ∀ x dx, H1 x = none → H1 dx = none → dx ≠ x → sp (.ref x :: (vs ++ [])) (upd (upd H1 dx (.own x)) x (.ins C dx [])) (fun v H2 => v = .non ∧ Q (.ref x) H2) E0
theorem pe_makeL {pp : Pos} (M : Mk X.K C f) (F : FnOk X.prog X.w X.K X.mg X.base CX k f fd ps sp) (hr : Room (k + 1) X.A) (hN : X.N[i]? = some x) (hv : Vis X.env.scope x) (hb : Binds X.K fd ps []) (hx : Passes CX X E0) (ha : PA X (e :: es) t) (hdb : (x == ("__debug__" : Str)) = false := by decide) (hcd : (x == ("__classdict__" : Str)) = false := by decide)
    (he : starEach (e :: es) X.env = (false, eval e X.env) :: starEach es X.env := by rfl) (hpl : (backTo pos (starEach es X.env)).any (·.1) = false := by rfl) : PE X (.Call (.Name x pp) (e :: es) [] pos) (tMakeL i C sp t) := by
  refine ⟨fun pins s σ H Q I ⟨hs, ht⟩ => wpAny_Call_Name_kw (thn ((pe_var (pos := pp) hN hv hdb hcd).run pins s σ H (fun v H1 => v = .ref C ∧ H1 = H) I ⟨.ref C, hs, rfl, rfl⟩) fun u s1 ⟨v, H1, I1, r1, q1⟩ => ?_)⟩
  obtain ⟨rfl, rfl⟩ := q1
  cases r1
  exact PySem.W.callWith_K (h₀ := X.base) I.ok.mod.kin M.kp (thn (ha.run pos pins s1 σ _ _ I1 ht) fun us s2 ⟨vs, H2, I2, r, q⟩ => ⟨I2.kIn, run_make M F hr hb .nil hx I2 r q⟩) he hpl
theorem makeL {σ : L2.St} {H : Hp} {Q : VK} (hs : σ[i]? = some (some (.ref C))) (h : t σ H fun vs H1 => ∀ x dx, H1 x = none → H1 dx = none → dx ≠ x → sp (.ref x :: (vs ++ [])) (upd (upd H1 dx (.own x)) x (.ins C dx [])) (fun v H2 => v = .non ∧ Q (.ref x) H2) E0) : tMakeL i C sp t σ H Q := ⟨hs, h⟩
end
end ClsM

/-! ### min of texts -/
namespace MinS
open PySem PySem.Spec PyProof.Rows L2
def minS (k : Str) (r : List Str) : Str := r.foldl (fun a y => if PySem.W.dataLt (.str y) (.str a) = true then y else a) k
theorem minD_strs (k : Str) (r : List Str) : PySem.W.minD (.str k) (r.map PyData.str) = .str (minS k r) := by
  unfold PySem.W.minD minS
  induction r generalizing k with
  | nil => rfl
  | cons y r ih =>
    rw [List.map_cons, List.foldl_cons, List.foldl_cons]
    by_cases c : PySem.W.dataLt (.str y) (.str k) = true
    · rw [if_pos c, if_pos c]; exact ih y
    · rw [if_neg c, if_neg c]; exact ih k
theorem dpStrs {K : PySem.W.Frag} {H : Hp} : ∀ l : List Str, DpAll K H (l.map V.str) (l.map PyData.str)
  | [] => .nil
  | s :: r => .cons (.str s) (dpStrs r)
def rMinS (K : PySem.W.Frag) : List V → Hp → VK → Prop := fun vs H Q => ∃ (a : Addr) (k : Str) (r : List Str), vs = [V.ref a] ∧ SqL K H a ((k :: r).map V.str) ∧ Q (.str (minS k r)) H
theorem depth_strs : ∀ l : List Str, PyData.depthAll (l.map PyData.str) = 0
  | [] => rfl
  | s :: r => by
    rw [List.map_cons, PyData.depthAll, depth_strs r]
    simp [PyData.depth]
theorem cr_minS {X : Cx} (hc : X.calm = true) (hu : X.A.units + 64 < cLine) : CallR X (.builtin "min") (rMinS X.K) := by
  intro pins s σ H vs us Q I r h
  obtain ⟨a, k, l, rfl, hs, q⟩ := h
  obtain ⟨its, rv, hl, hz⟩ := I.list hs
  rw [Vals.ref1 r]
  obtain ⟨as, ra⟩ := Dp.readsAll I ((k :: l).map PyData.str) ((k :: l).map V.str) its (dpStrs (k :: l)) rv
  have ra' : ReadsAll s.heap its.toArray.toList (.str k :: l.map PyData.str) as := by simpa using ra
  refine PySem.W.min_list_data (I.ok.hd hc) hl.isList ra' ⟨fun x hx y hy => ?_, fun x hx => ?_⟩ ?_ fun i v h' tk bs hv hr hk => ?_
  · have e : ∀ z ∈ (PyData.str k :: l.map PyData.str), ∃ t, z = PyData.str t := fun z hz => by
      rcases List.mem_cons.mp hz with e | e
      · exact ⟨k, e⟩
      · obtain ⟨t, _, rfl⟩ := List.mem_map.mp e
        exact ⟨t, rfl⟩
    obtain ⟨t, rfl⟩ := e x hx
    obtain ⟨t', rfl⟩ := e y hy
    rfl
  · rcases List.mem_cons.mp hx with e | e
    · rw [e]; intro z; cases z
    · obtain ⟨t, _, rfl⟩ := List.mem_map.mp e
      intro z; cases z
  · have e := depth_strs (k :: l)
    rw [List.map_cons] at e
    rw [e]
    omega
  · rw [minD_strs] at hr
    cases hr
    exact ⟨.str _, H, I.kept (t' := tk) hk, ⟨_, rfl⟩, q⟩
end MinS

/-! ### Many: a try with several clauses, with or without names -/
namespace Many
open PySem PySem.Spec PyProof.Rows L2
/-- a clause: its class, the slot of its name, what its suite does -/
structure Cl where
  c : Value
  at_ : Option Nat
  ts : Addr → Value → Option Addr → TS
def gone : Option Nat → L2.St → L2.St
  | none, σ => σ
  | some i, σ => σ.set i none
def bound : Option Nat → Addr → L2.St → L2.St
  | none, _, σ => σ
  | some i, a, σ => σ.set i (some (.ref a))
def ends : Option Nat → Ends → Ends
  | none, D => D
  | some i, D => { nx := fun σ H => D.nx (σ.set i none) H, rt := D.rt, bk := fun σ H => D.bk (σ.set i none) H, ct := fun σ H => D.ct (σ.set i none) H }
/-- what the clauses wish, the first that fits -/
def wish (K : PySem.W.Frag) (out : WX) (D : Ends) : List Cl → WX
  | [] => out
  | k :: r => fun cls d σ H => ∃ b, PySem.W.exmOne K cls k.c = some b ∧ (b = true → ∀ a, H a = none → k.ts a cls d (ends k.at_ D) (bound k.at_ a σ) H) ∧ (b = false → wish K out D r cls d σ H)
theorem wish_yes {K : PySem.W.Frag} {out : WX} {D : Ends} {k : Cl} {r : List Cl} {cls : Value} {d : Option Addr} {σ : L2.St} {H : Hp} (e : PySem.W.exmOne K cls k.c = some true) (h : ∀ a, H a = none → k.ts a cls d (ends k.at_ D) (bound k.at_ a σ) H) : wish K out D (k :: r) cls d σ H := ⟨true, e, fun _ => h, fun z => by cases z⟩
theorem wish_no {K : PySem.W.Frag} {out : WX} {D : Ends} {k : Cl} {r : List Cl} {cls : Value} {d : Option Addr} {σ : L2.St} {H : Hp} (e : PySem.W.exmOne K cls k.c = some false) (h : wish K out D r cls d σ H) : wish K out D (k :: r) cls d σ H := ⟨false, e, (fun z => by cases z), fun _ => h⟩
inductive Ok (X : Cx) : List ExceptHandler → List Cl → Prop
  | nil : Ok X [] []
  | bare {x : Str} {c : Value} {ts : Addr → Value → Option Addr → TS} {b₀ : Stmt} {su : List Stmt} {p q : Pos} {hs : List ExceptHandler} {l : List Cl} (hc : Names X x c) (hb : ∀ (a : Addr) (oe : Obj) (cls : Value) (d : Option Addr) (pn : List (Addr × Obj)), Zc cls d oe → (∃ vs, oe.data = .fields vs) → PSs (X.suite a ((a, oe) :: pn)) (b₀ :: su) (ts a cls d)) (r : Ok X hs l) : Ok X (.ExceptHandler (some (.Name x p)) none (b₀ :: su) q :: hs) (⟨c, none, ts⟩ :: l)
  | named {x n : Str} {c : Value} {ts : Addr → Value → Option Addr → TS} {i : Nat} {b₀ : Stmt} {su : List Stmt} {p q : Pos} {hs : List ExceptHandler} {l : List Cl} (hN : X.N.Nodup) (hi : X.N[i]? = some n) (hl : X.env.kindOf n = some .local) (hc : Names X x c) (hb : ∀ (a : Addr) (oe : Obj) (cls : Value) (d : Option Addr) (pn : List (Addr × Obj)), Zc cls d oe → (∃ vs, oe.data = .fields vs) → PSs (X.suite a ((a, oe) :: pn)) (b₀ :: su) (ts a cls d)) (r : Ok X hs l) : Ok X (.ExceptHandler (some (.Name x p)) (some n) (b₀ :: su) q :: hs) (⟨c, some i, ts⟩ :: l)
section
variable {X : Cx} {body : List Stmt} {h₀ : ExceptHandler} {hds : List ExceptHandler} {l : List Cl} {pos : Pos} {tb : WX → TS} {out : WX}
theorem ps_try_named (hs : X.stack = X.env :: X.outer) (hf : X.env.frame = some X.env.locals) (tk : Takes X out)
    (hb : ∀ (W : WX) (pn : List (Addr × Obj)) (xe : Value → Shared → Prop), Takes (X.tr pn xe) W → PassesOwn (model X.prog X.w) X.A X.env xe → PSs (X.tr pn xe) body (tb W)) (hh : Ok X (h₀ :: hds) l) :
    PS X (.Try body (h₀ :: hds) [] [] pos) (fun D σ H => tb (wish X.K out D l) D σ H) := by
  refine ⟨fun pins s σ H D I h => ?_⟩
  have ok := I.ok; have hfr : X.A.frames = some (X.env :: X.outer) := by rw [ok.frames, hs]
  refine wpAny_Try_except ?_
  refine wpAny_mono ((hb (wish X.K out D l) (X.pn ++ pins) (fun e s₁ => wpAny (model X.prog X.w) X.A (noteFrame e X.env) (fun _ s₂ => wpAny (model X.prog X.w) X.A (setFlight e none) (fun _ s₃ => wpAny (model X.prog X.w) X.A (handleBy e X.env (h₀ :: hds)) (SP X pins D) X.xe s₃) X.xe s₂) X.xe s₁) (fun u s' xx => ?_) PassesOwn.looking).run [] s σ H D (I.toTry _) h) (fun f s1 hsp => ?_) (fun e s1 he => he)
  · obtain ⟨a, B, sI, pins', σ', H', cls, d, rfl, J', nb, up, sky, na, os, ag, w⟩ := xx
    have J : Inv X pins σ' H' sI := J'.ofTry ok; have sky' : Sky B (X.env :: X.outer) a (Zc cls d) X.env.locals s'.heap := by rw [← hs]; exact sky
    show wpAny (model X.prog X.w) X.A (noteFrame (.ref a) X.env) _ _ _
    refine Sky.land Zc.steady hfr hf sky' fun h3 fl3 up3 => ?_
    have J3 : Inv X pins σ' H' { s' with heap := h3 } := J.landed nb fl3.1 (up.trans up3) os ag; obtain ⟨oe3, vs3, he3, hz3, hd3⟩ := fl3.there
    have nfr : a ∉ frs (X.env :: X.outer) := fun hm => by
      obtain ⟨_, o', e', hnf⟩ := fl3.2.2.1.mem hm
      rw [he3] at e'; cases e'; exact hnf _ hd3
    have nL : a ≠ X.env.locals := fun z => nfr (List.mem_filterMap.mpr ⟨X.env, List.mem_cons_self, by rw [hf, z]⟩)
    have nF : a ∉ X.fs := fun hm => by
      obtain ⟨e, he, q⟩ := List.mem_filterMap.mp hm; exact nfr (List.mem_filterMap.mpr ⟨e, List.mem_cons_of_mem _ he, q⟩)
    have S3 := J3.suite he3 hd3 na nL nF
    have go : ∀ {hs' : List ExceptHandler} {l' : List Cl}, Ok X hs' l' → wish X.K out D l' cls d σ' H' → wpAny (model X.prog X.w) X.A (handleBy (.ref a) X.env hs') (SP X pins D) X.xe { s' with heap := h3 } := by
      intro hs' l' hk
      have test : ∀ {x : Str} {c : Value} {np : Pos} {Q : Value → Shared → Prop} {E : Value → Shared → Prop}, Names X x c → Q c { s' with heap := h3 } → wpAny (model X.prog X.w) (X.A.mark (some (.ref a))) (eval (.Name x np) X.env) Q E { s' with heap := h3 } := fun {x c np Q E} hc q => by
        obtain ⟨hg, hdbg, hm | ⟨hm, hv, hnn⟩⟩ := hc
        · exact ld_glob (X := X.suite a ((a, oe3) :: (X.pn ++ pins))) S3 hg hm q hdbg
        · exact ld_blt (X := X.suite a ((a, oe3) :: (X.pn ++ pins))) S3 hg hm hv q hnn hdbg
      have LT : PySem.W.Looks (model X.prog X.w) h3 (typeOf (.ref a)) cls := fun A Q E s k q => wpAny_typeOf_ref (k _ _ he3) (by rw [hz3.1]; exact q)
      induction hk with
      | nil =>
        intro w
        refine wpAny_handleBy_nil ?_
        obtain ⟨k1, k2, k3, oe, vs, T, oT, ts', he, hz, hd, h1, hr⟩ := id fl3; unfold PySem.passOn
        refine wpAny_bind (wpAny_field he hd h1 ?_); rw [if_neg (show ¬ ((Value.ref T == Value.none) = true) from by simp)]
        have fin : wpAny (model X.prog X.w) X.A (setFlight (.ref a) X.env.frame) (fun _ s4 => wpAny (model X.prog X.w) X.A (throw (.ref a) : Sem Flow) (SP X pins D) X.xe s4) X.xe { s' with heap := h3 } := by
          rw [hf]; exact HandSPX.setFlight_upZ fl3 fun h4 hh4 up4 => wpAny_throw (tk _ _ ⟨a, B, sI, pins, σ', H', cls, d, rfl, J, nb, (up.trans up3).trans up4, .inr (.inr (by rw [hs]; exact hh4)), na, os, ag, w⟩)
        first | exact wpAny_bind (wpAny_pure (wpAny_bind fin)) | exact wpAny_bind fin
      | @bare x c ts b₀ su p q hs2 l2 hc hsu r ih =>
        intro w
        obtain ⟨b, hb1, hyes, hno⟩ := w
        refine wpAny_handleBy_cons (codeAny_handlers_test ?_) (by intro q; cases q)
        refine test hc ((PySem.W.exm_one (M := model X.prog X.w) (J3.kIn) LT hb1).here ?_)
        cases b with
        | true =>
          refine codeAny_handlers_suite (HandSPX.lands_againZ fl3 fun h4 fl4 up4 => ?_)
          have J4 : Inv X pins σ' H' { s' with heap := h4 } := J.landed nb fl4.1 ((up.trans up3).trans up4) os ag; obtain ⟨oe4, vs4, he4, hz4, hd4⟩ := fl4.there
          have S4 := J4.suite he4 hd4 na nL nF; have y := hyes rfl a na
          refine wpAny_mono ((hsu a oe4 cls d (X.pn ++ pins) hz4 ⟨_, hd4⟩).run [] _ _ H' _ S4 y) (fun f s6 hsp => ?_) (fun _ _ z => False.elim z)
          cases f with
          | ret u => obtain ⟨v6, σ6, H6, S6, r6, q6⟩ := hsp; exact ⟨_, _, _, S6.unsuite ok, r6, q6⟩
          | next => obtain ⟨σ6, H6, S6, q6⟩ := hsp; exact ⟨_, _, S6.unsuite ok, q6⟩
          | brk => obtain ⟨σ6, H6, S6, q6⟩ := hsp; exact ⟨_, _, S6.unsuite ok, q6⟩
          | cont => obtain ⟨σ6, H6, S6, q6⟩ := hsp; exact ⟨_, _, S6.unsuite ok, q6⟩
        | false => exact ih (hno rfl)
      | @named x n c ts i b₀ su p q hs2 l2 hN hi hl hc hsu r ih =>
        intro w
        obtain ⟨b, hb1, hyes, hno⟩ := w
        refine wpAny_handleBy_cons (codeAny_handlers_test ?_) (by intro q; cases q)
        refine test hc ((PySem.W.exm_one (M := model X.prog X.w) (J3.kIn) LT hb1).here ?_)
        cases b with
        | true =>
          refine codeAny_handlers_suite_as (HandSPX.lands_againZ fl3 fun h4 fl4 up4 => ?_)
          have J4 : Inv X pins σ' H' { s' with heap := h4 } := J.landed nb fl4.1 ((up.trans up3).trans up4) os ag; obtain ⟨oe4, vs4, he4, hz4, hd4⟩ := fl4.there
          have S4 := J4.suite he4 hd4 na nL nF; have y := hyes rfl a na
          refine store_ok (X := X.suite a ((a, oe4) :: (X.pn ++ pins))) (v := .ref a) S4 hN hi (show Loc X.env.scope n from .inl hl) rfl (fun s5 S5 => ?_) (.inr hl)
          refine wpAny_mono ((hsu a oe4 cls d (X.pn ++ pins) hz4 ⟨_, hd4⟩).run [] s5 _ H' _ S5 y) (fun f s6 hsp => ?_) (fun _ _ z => False.elim z)
          have fin : ∀ {σ6 : L2.St} {H6 : Hp} {Q : Shared → Prop}, Inv (X.suite a ((a, oe4) :: (X.pn ++ pins))) [] σ6 H6 s6 → (∀ s7, Inv X pins (σ6.set i none) H6 s7 → Q s7) → wpAny (model X.prog X.w) X.A (do bindName X.env n .none; unbindBehindTheSuite X.env n q) (fun _ s7 => Q s7) X.xe s6 := fun {σ6 H6 Q} S6 hq => gone_ok (S6.unsuite ok) hN hi hl hq
          cases f with
          | ret u => obtain ⟨v6, σ6, H6, S6, r6, q6⟩ := hsp; exact fin S6 fun s7 J7 => ⟨_, _, _, J7, r6, q6⟩
          | next => obtain ⟨σ6, H6, S6, q6⟩ := hsp; exact fin S6 fun s7 J7 => ⟨_, _, J7, q6⟩
          | brk => obtain ⟨σ6, H6, S6, q6⟩ := hsp; exact fin S6 fun s7 J7 => ⟨_, _, J7, q6⟩
          | cont => obtain ⟨σ6, H6, S6, q6⟩ := hsp; exact fin S6 fun s7 J7 => ⟨_, _, J7, q6⟩
        | false => exact ih (hno rfl)
    exact go hh w
  · cases f with
    | ret u => obtain ⟨v, σ', H', J', r, q⟩ := hsp; exact ⟨v, σ', H', J'.ofTry ok, r, q⟩
    | next => obtain ⟨σ', H', J', q⟩ := hsp; exact wpAny_execs_nil ⟨σ', H', J'.ofTry ok, q⟩
    | brk => obtain ⟨σ', H', J', q⟩ := hsp; exact ⟨σ', H', J'.ofTry ok, q⟩
    | cont => obtain ⟨σ', H', J', q⟩ := hsp; exact ⟨σ', H', J'.ofTry ok, q⟩
end
end Many

namespace Z
open PySem L2
/-! range(lo, e) -/
def Rng2K (R : It → Hp → Prop) (vs : List V) (H1 : Hp) : Prop := ∃ i j : Int, vs = [.int i, .int j] ∧ (-(2 ^ 62) ≤ i ∧ i < 2 ^ 62 ∧ -(2 ^ 62) ≤ j ∧ j < 2 ^ 62) ∧ R (Itr i (j - i).toNat) H1
theorem irng2 {a : TA} {σ : L2.St} {H : Hp} {R : It → Hp → Prop} (h : a σ H (Rng2K R)) : iRng2 a σ H R := h
theorem forr2 {σ : L2.St} {H : Hp} {D : Ends} {g : TG} {tb : TS} {lo e : Int} (n : Nat) (he : (e - lo).toNat = n) (hb : -1000000 ≤ lo ∧ lo ≤ 1000000 ∧ -1000000 ≤ e ∧ e ≤ 1000000) (Pv : Nat → L2.St → Hp → Prop) (h0 : Pv 0 σ H)
    (hs : ∀ i σ H, i < n → Pv i σ H → g (.int (lo + (i : Int))) σ H fun σ2 H2 => tb { D with nx := Pv (i + 1), ct := Pv (i + 1), bk := D.nx } σ2 H2) (hd : ∀ σ H, Pv n σ H → D.nx σ H) : Rng2K (ForK g tb D σ) [.int lo, .int e] H := by
  refine ⟨lo, e, rfl, ⟨by omega, by omega, by omega, by omega⟩, ?_⟩
  rw [he]
  exact for_range (lo := lo) (n := n) Pv h0 (fun i σ H1 hi p => hs i σ H1 hi p) hd
end Z

namespace Z
open PySem L2
/-! comprehensions of two clauses, both over lists -/
theorem it_list {K : PySem.W.Frag} {a : Addr} {xs : List V} {H0 : Hp} {R : Hp → Prop} {B : V → (Hp → Prop) → Hp → Prop} (Pv : Nat → Hp → Prop) (h0 : Pv 0 H0) (hl : ∀ i H, i ≤ xs.length → Pv i H → SqL K H a xs)
    (hs : ∀ i x H, xs[i]? = some x → Pv i H → B x (Pv (i + 1)) H) (hd : ∀ H, Pv xs.length H → R H) :
    ∃ W : Nat → Nat → Hp → Prop, (∃ m, W 0 m H0) ∧ ∀ i m H, W i m H →
      ((Itl K a).stop i H ∧ R H) ∨ ((Itl K a).go i H ∧ ∃ Nx : Hp → Prop, (∀ H', Nx H' → ∃ m', m' < m ∧ W (i + 1) m' H') ∧ ∀ x H', (Itl K a).yld i H x H' → B x Nx H') := by
  refine ⟨fun i m H => m = xs.length - i ∧ i ≤ xs.length ∧ Pv i H, ⟨xs.length, by simp, Nat.zero_le _, h0⟩, ?_⟩
  rintro i m H ⟨rfl, hi, p⟩
  have q := hl i H hi p
  by_cases hlt : i < xs.length
  · refine .inr ⟨⟨xs, xs[i], q, by simp [hlt]⟩, Pv (i + 1), fun H' p' => ⟨xs.length - (i + 1), by omega, rfl, hlt, p'⟩, fun x H' y => ?_⟩
    obtain ⟨e, y⟩ := y
    subst e
    exact hs i x _ (y xs q) p
  · have e : i = xs.length := by omega
    subst e
    exact .inl ⟨⟨xs, q, Nat.le_refl _⟩, hd H p⟩
def In2K (g1 : TG) (tt1 : TT) (te : TE) (vs1 : List Nat) (σ2 : L2.St) (D : Addr) (Nx : Hp → Prop) (J1 : It) (H4 : Hp) : Prop := ∃ W1 : Nat → Nat → Hp → Prop, (∃ m, W1 0 m H4) ∧ ∀ j k H, W1 j k H →
      (J1.stop j H ∧ Nx H) ∨ (J1.go j H ∧ ∃ Nx1 : Hp → Prop, (∀ H', Nx1 H' → ∃ k', k' < k ∧ W1 (j + 1) k' H') ∧ ∀ x H', J1.yld j H x H' → g1 x (wipe σ2 vs1) H' fun σ3 H5 => wipe σ3 vs1 = wipe σ2 vs1 ∧ tt1 σ3 H5 fun b H6 =>
        if b = true then te σ3 H6 fun y H7 => ∃ acc, H7 D = some (.lst acc) ∧ acc.length < sizeLine ∧ Nx1 (upd H7 D (.lst (acc ++ [y]))) else Nx1 H6)
def Lc2K (g : TG) (tt : TT) (wi1 : TI) (g1 : TG) (tt1 : TT) (te : TE) (vs vs1 : List Nat) (σ : L2.St) (Q : VK) (J : It) (H1 : Hp) : Prop := ∀ D, H1 D = none → ∃ W : Nat → Nat → Hp → Prop, (∃ m, W 0 m (upd H1 D (.lst []))) ∧ ∀ i m H, W i m H →
  (J.stop i H ∧ Q (.ref D) H) ∨ (J.go i H ∧ ∃ Nx : Hp → Prop, (∀ H', Nx H' → ∃ m', m' < m ∧ W (i + 1) m' H') ∧ ∀ x H', J.yld i H x H' → g x (wipe σ vs) H' fun σ2 H2 => wipe σ2 vs = wipe σ vs ∧ tt σ2 H2 fun b H3 =>
    if b = true then wi1 σ2 H3 (In2K g1 tt1 te vs1 σ2 D Nx) else Nx H3)
theorem lc2 {wi wi1 : TI} {g g1 : TG} {tt tt1 : TT} {te : TE} {vs vs1 : List Nat} {σ : L2.St} {H : Hp} {Q : VK} (h : wi σ H (Lc2K g tt wi1 g1 tt1 te vs vs1 σ Q)) : tLc2 wi g tt wi1 g1 tt1 te vs vs1 σ H Q := h
theorem lc2l {K : PySem.W.Frag} {wi1 : TI} {g g1 : TG} {tt tt1 : TT} {te : TE} {vs vs1 : List Nat} {σ : L2.St} {H : Hp} {Q : VK} {a : Addr} (xs : List V) (hS : SqL K H a xs) (Pv : Addr → Nat → Hp → Prop) (h0 : ∀ D H1, H D = none → Kp [] H H1 → H1 D = some (.lst []) → Pv D 0 H1)
    (hl : ∀ D i H1, H D = none → i ≤ xs.length → Pv D i H1 → SqL K H1 a xs)
    (hs : ∀ D i x H1, H D = none → xs[i]? = some x → Pv D i H1 → g x (wipe σ vs) H1 fun σ2 H2 => wipe σ2 vs = wipe σ vs ∧ tt σ2 H2 fun b H3 => if b = true then wi1 σ2 H3 (In2K g1 tt1 te vs1 σ2 D (Pv D (i + 1))) else Pv D (i + 1) H3)
    (hd : ∀ D H1, H D = none → Pv D xs.length H1 → Q (.ref D) H1) : ListK K (Lc2K g tt wi1 g1 tt1 te vs vs1 σ Q) (.ref a) H :=
  ⟨a, rfl, ⟨xs, hS⟩, fun D hD => it_list (K := K) (a := a) (xs := xs) (R := fun H1 => Q (.ref D) H1) (B := fun x Nx H' => g x (wipe σ vs) H' fun σ2 H2 => wipe σ2 vs = wipe σ vs ∧ tt σ2 H2 fun b H3 => if b = true then wi1 σ2 H3 (In2K g1 tt1 te vs1 σ2 D Nx) else Nx H3) (Pv D) (h0 D _ hD (Kp.new hD) upd_same) (fun i H1 hi p => hl D i H1 hD hi p) (fun i x H1 hx p => hs D i x H1 hD hx p) fun H1 p => hd D H1 hD p⟩
theorem in2l {K : PySem.W.Frag} {g1 : TG} {tt1 : TT} {te : TE} {vs1 : List Nat} {σ2 : L2.St} {H : Hp} {D : Addr} {Nx : Hp → Prop} {a : Addr} (ys : List V) (hS : SqL K H a ys) (Pv : Nat → Hp → Prop) (h0 : Pv 0 H) (hl : ∀ i H1, i ≤ ys.length → Pv i H1 → SqL K H1 a ys)
    (hs : ∀ j y H1, ys[j]? = some y → Pv j H1 → g1 y (wipe σ2 vs1) H1 fun σ3 H5 => wipe σ3 vs1 = wipe σ2 vs1 ∧ tt1 σ3 H5 fun b H6 => if b = true then te σ3 H6 fun z H7 => ∃ acc, H7 D = some (.lst acc) ∧ acc.length < sizeLine ∧ Pv (j + 1) (upd H7 D (.lst (acc ++ [z]))) else Pv (j + 1) H6)
    (hd : ∀ H1, Pv ys.length H1 → Nx H1) : ListK K (In2K g1 tt1 te vs1 σ2 D Nx) (.ref a) H :=
  ⟨a, rfl, ⟨ys, hS⟩, it_list (K := K) (a := a) (xs := ys) (R := Nx) (B := fun x Nx1 H' => g1 x (wipe σ2 vs1) H' fun σ3 H5 => wipe σ3 vs1 = wipe σ2 vs1 ∧ tt1 σ3 H5 fun b H6 => if b = true then te σ3 H6 fun y H7 => ∃ acc, H7 D = some (.lst acc) ∧ acc.length < sizeLine ∧ Nx1 (upd H7 D (.lst (acc ++ [y]))) else Nx1 H6) Pv h0 hl hs hd⟩
end Z

/-! ### xs[i] += y; comprehensions over range(lo, hi) -/
namespace Z
open PySem L2 PySem.Spec PyProof.Rows
theorem pget_list {X : Cx} : PGet X (rIxL X.K) := by
  rintro pins s σ H _ _ v u Q I rx ry ⟨p, xs, i, z, rfl, rfl, hS, hz, q⟩
  obtain rfl : v = Value.ref p := by cases rx; rfl
  obtain ⟨tok, rfl⟩ := ry
  have ⟨items, vals, plain, _⟩ := I.list hS
  have ⟨k, k1, k2, k3, k4, k5⟩ := atI_get hz
  have ⟨val, hval, rel⟩ := vals.get k2
  have len := vals.length
  have big := line63
  have done : EP X pins σ Q val s := ⟨z, H, I, rel, q⟩
  rcases Int.lt_or_le i 0 with neg | pos
  · rw [seqIndex_neg neg k4] at k1
    have ek := Option.some.inj k1
    refine wpAny_getItem_list_neg plain.isList neg (by rw [List.size_toArray]; omega) (by omega) ?_ done
    rw [List.size_toArray, ← len, ek]
    simpa using hval
  · rw [seqIndex_of pos k5] at k1
    have ek := Option.some.inj k1
    refine wpAny_getItem_list plain.isList pos (by omega) ?_ done
    rw [ek]
    simpa using hval
theorem augs {σ : L2.St} {H : Hp} {D : Ends} {to ti te : TE} {tget : V → V → Hp → VK → Prop} {tip : TIp} {tset : TSet} (h : to σ H fun o H1 => ti σ H1 fun i H2 => tget o i H2 fun x H3 => te σ H3 fun y H4 => tip x y H4 fun z H5 => tset o i z H5 fun H6 => D.nx σ H6) : tAugS to ti te tget tip tset D σ H := h
theorem lcr2 {σ : L2.St} {H : Hp} {Q : VK} {te : TE} {g : TG} {tt : TT} {vs : List Nat} {lo e : Int} (n : Nat) (he : (e - lo).toNat = n) (hb : -1000000 ≤ lo ∧ lo ≤ 1000000 ∧ -1000000 ≤ e ∧ e ≤ 1000000) (Pv : Addr → Nat → Hp → Prop) (h0 : ∀ D H1, H D = none → Kp [] H H1 → H1 D = some (.lst []) → Pv D 0 H1)
    (hs : ∀ D i H1, H D = none → i < n → Pv D i H1 → g (.int (lo + (i : Int))) (wipe σ vs) H1 fun σ2 H2 => wipe σ2 vs = wipe σ vs ∧ tt σ2 H2 fun b H3 => if b = true then te σ2 H3 fun y H4 => ∃ acc, H4 D = some (.lst acc) ∧ acc.length < sizeLine ∧ Pv D (i + 1) (upd H4 D (.lst (acc ++ [y]))) else Pv D (i + 1) H3)
    (hd : ∀ D H1, H D = none → Pv D n H1 → Q (.ref D) H1) : Rng2K (LcK g tt te vs σ Q) [.int lo, .int e] H := by
  refine ⟨lo, e, rfl, ⟨by omega, by omega, by omega, by omega⟩, ?_⟩
  rw [he]
  exact fun D hD => lc_it (walk_range (lo := lo) (n := n)) (Pv D) (h0 D _ hD (Kp.new hD) upd_same) (fun _ _ _ _ => trivial) (fun i v H H' hi p y => by
    obtain ⟨rfl, rfl⟩ := y
    exact hs D i _ hD hi p) fun H1 p => hd D H1 hD p
end Z

/-! ### sorted of data that are alike -/
namespace RL
open PySem PySem.Spec PyProof.Rows L2 PySem.W
def DBs := List (V × PyData)
def rSortedD (K : PySem.W.Frag) : List V → Hp → VK → Prop := fun vs H Q => ∃ (a : Addr) (bs : List (V × PyData)), vs = [V.ref a] ∧ SqL K H a (bs.map Prod.fst) ∧ (∀ b ∈ bs, Dp K H b.1 b.2) ∧ AllAlike (bs.map Prod.snd) ∧ Sortable (bs.map Prod.snd) ∧ (∀ b ∈ bs, b.2.depth ≤ 60) ∧
  ∀ p, H p = none → Q (.ref p) (upd H p (.lst ((bs.mergeSort (dataLe false Prod.snd)).map Prod.fst)))
theorem each_vals : ∀ {bs : List (V × PyData)} {us : List Value}, Vals (bs.map Prod.fst) us → EachIs (fun (v : Value) (b : V × PyData) => RelV b.1 v) us bs
  | [], us, h => by cases h; exact .nil
  | b :: r, us, h => by
    cases h with
    | cons h1 h2 => exact .cons h1 (each_vals h2)
theorem vals_each : ∀ {bs : List (V × PyData)} {us : List Value}, EachIs (fun (v : Value) (b : V × PyData) => RelV b.1 v) us bs → Vals (bs.map Prod.fst) us
  | _, _, .nil => .nil
  | _, _, .cons h1 h2 => .cons h1 (vals_each h2)
theorem each_and {α β : Type} {R : α → β → Prop} {P : β → Prop} {S : α → β → Prop} (hS : ∀ a b, R a b → P b → S a b) : ∀ {as : List α} {bs : List β}, EachIs R as bs → (∀ b ∈ bs, P b) → EachIs S as bs
  | _, _, .nil, _ => .nil
  | _, _, .cons h1 h2, hp => .cons (hS _ _ h1 (hp _ (by simp))) (each_and hS h2 fun b hb => hp b (by simp [hb]))
theorem cr_sortedD {X : Cx} (hu : X.A.units + 64 < cLine) : CallR X (.builtin "sorted") (rSortedD X.K) := by
  intro pins s σ H vs us Q I r h
  obtain ⟨a, bs, rfl, hs, hD, hal, hk, hd, q⟩ := h
  obtain ⟨its, rv, hl, hz⟩ := I.list hs
  rw [Vals.ref1 r]
  have e := each_vals rv
  have er : EachIs (fun (v : Value) (b : V × PyData) => ∃ as, Reads s.heap v b.2 as) its bs := each_and (P := fun (b : V × PyData) => Dp X.K H b.1 b.2) (fun v b h1 h2 => Dp.reads I _ _ _ h2 h1) e hD
  have hL : bs.length ≤ sizeLine := by rw [List.length_map] at hz; exact hz
  refine sorted_data (enc := Prod.snd) (R := fun (v : Value) (b : V × PyData) => RelV b.1 v) hl.isList e er hal hk hL (fun b hb => by have := hd b hb; omega) fun out hlen ho => ?_
  obtain ⟨ep, he'⟩ := PyProof.Rows.sortedAll_at s.heap its out.toArray
  have hlen2 : ((bs.mergeSort (dataLe false Prod.snd)).map Prod.fst).length ≤ sizeLine := by rw [List.length_map, List.length_mergeSort]; exact hL
  exact ⟨.ref _, upd H (s.heap.objs.size + 1) (.lst ((bs.mergeSort (dataLe false Prod.snd)).map Prod.fst)), I.laid (t' := s.toks) (fun _ _ => PyProof.Rows.sortedAll_old) (Nat.le_succ _) ⟨hlen2, out, ep, vals_each ho, he'⟩, rfl, q _ (I.hok.fresh (Nat.le_succ _))⟩
end RL


namespace K20
open PySem L2 Z
def topS (i : Nat) : Stmt := PySem.Challenge.pw_samphire_k20_merging_weighted_samples.main.body.getD i (.Pass ⟨0, 0, 0, 0⟩)
abbrev s_check_size : Stmt := topS 8
abbrev N_check_size : List Str := ["size"]
theorem sc_check_size : FnScope N_check_size ["size"] (defScope s_check_size) := ⟨rfl, rfl, rfl, by decide +kernel, rfl, by decide +kernel, by decide +kernel⟩
abbrev s_least_twice : Stmt := topS 9
abbrev N_least_twice : List Str := ["names", "ordered", "place"]
theorem sc_least_twice : FnScope N_least_twice ["names"] (defScope s_least_twice) := ⟨rfl, rfl, rfl, by decide +kernel, rfl, by decide +kernel, by decide +kernel⟩
abbrev s_check_keys : Stmt := topS 10
abbrev N_check_keys : List Str := ["samples", "key", "sample", "item"]
theorem sc_check_keys : FnScope N_check_keys ["samples"] (defScope s_check_keys) := ⟨rfl, rfl, rfl, by decide +kernel, rfl, by decide +kernel, by decide +kernel⟩
abbrev s_Weighted_init : Stmt := inClass (topS 12) 0
abbrev N_Weighted_init : List Str := ["self", "size", "total", "kept"]
theorem sc_Weighted_init : FnScope N_Weighted_init ["self", "size", "total", "kept"] (defScope s_Weighted_init) := ⟨rfl, rfl, rfl, by decide +kernel, rfl, by decide +kernel, by decide +kernel⟩
abbrev s_Weighted_empty : Stmt := inClass (topS 12) 1
abbrev N_Weighted_empty : List Str := ["cls", "size"]
theorem sc_Weighted_empty : FnScope N_Weighted_empty ["cls", "size"] (defScope s_Weighted_empty) := ⟨rfl, rfl, rfl, by decide +kernel, rfl, by decide +kernel, by decide +kernel⟩
abbrev s_Weighted_single : Stmt := inClass (topS 12) 2
abbrev N_Weighted_single : List Str := ["cls", "item", "size"]
theorem sc_Weighted_single : FnScope N_Weighted_single ["cls", "item", "size"] (defScope s_Weighted_single) := ⟨rfl, rfl, rfl, by decide +kernel, rfl, by decide +kernel, by decide +kernel⟩
abbrev s_Weighted_merge : Stmt := inClass (topS 12) 3
abbrev N_Weighted_merge : List Str := ["self", "other", "dice", "left", "waiting", "drawn", "side", "item"]
theorem sc_Weighted_merge : FnScope N_Weighted_merge ["self", "other", "dice"] (defScope s_Weighted_merge) := ⟨rfl, rfl, rfl, by decide +kernel, rfl, by decide +kernel, by decide +kernel⟩
abbrev s_Weighted_view : Stmt := inClass (topS 12) 4
abbrev N_Weighted_view : List Str := ["self"]
theorem sc_Weighted_view : FnScope N_Weighted_view ["self"] (defScope s_Weighted_view) := ⟨rfl, rfl, rfl, by decide +kernel, rfl, by decide +kernel, by decide +kernel⟩
abbrev s_check_merge : Stmt := topS 13
abbrev N_check_merge : List Str := ["first", "second"]
theorem sc_check_merge : FnScope N_check_merge ["first", "second"] (defScope s_check_merge) := ⟨rfl, rfl, rfl, by decide +kernel, rfl, by decide +kernel, by decide +kernel⟩
abbrev s_number_at : Stmt := topS 15
abbrev N_number_at : List Str := ["weights", "place", "number", "left"]
theorem sc_number_at : FnScope N_number_at ["weights", "place"] (defScope s_number_at) := ⟨rfl, rfl, rfl, by decide +kernel, rfl, by decide +kernel, by decide +kernel⟩
abbrev s_Tape_init : Stmt := inClass (topS 16) 0
abbrev N_Tape_init : List Str := ["self", "numbers"]
theorem sc_Tape_init : FnScope N_Tape_init ["self", "numbers"] (defScope s_Tape_init) := ⟨rfl, rfl, rfl, by decide +kernel, rfl, by decide +kernel, by decide +kernel⟩
abbrev s_Tape_pick : Stmt := inClass (topS 16) 1
abbrev N_Tape_pick : List Str := ["self", "weights", "place", "picked"]
theorem sc_Tape_pick : FnScope N_Tape_pick ["self", "weights"] (defScope s_Tape_pick) := ⟨rfl, rfl, rfl, by decide +kernel, rfl, by decide +kernel, by decide +kernel⟩
abbrev s__law_mix : Stmt := topS 18
abbrev N__law_mix : List Str := ["number", "k"]
theorem sc__law_mix : FnScope N__law_mix ["number", "k"] (defScope s__law_mix) := ⟨rfl, rfl, rfl, by decide +kernel, rfl, by decide +kernel, by decide +kernel⟩
abbrev s__law_numbers : Stmt := topS 19
abbrev N__law_numbers : List Str := ["script", "count", "row", "base", "cell", "rest", "k"]
theorem sc__law_numbers : FnScope N__law_numbers ["script", "count"] (defScope s__law_numbers) := ⟨rfl, rfl, rfl, by decide +kernel, rfl, by decide +kernel, by decide +kernel⟩
abbrev s__law_take : Stmt := topS 20
abbrev N__law_take : List Str := ["row", "bound"]
theorem sc__law_take : FnScope N__law_take ["row", "bound"] (defScope s__law_take) := ⟨rfl, rfl, rfl, by decide +kernel, rfl, by decide +kernel, by decide +kernel⟩
abbrev s__law_things : Stmt := topS 21
abbrev N__law_things : List Str := ["row", "most", "letters", "found", "k", "weight"]
theorem sc__law_things : FnScope N__law_things ["row", "most", "letters"] (defScope s__law_things) := ⟨rfl, rfl, rfl, by decide +kernel, rfl, by decide +kernel, by decide +kernel⟩
abbrev s__law_shuffled : Stmt := topS 22
abbrev N__law_shuffled : List Str := ["row", "things", "found"]
theorem sc__law_shuffled : FnScope N__law_shuffled ["row", "things"] (defScope s__law_shuffled) := ⟨rfl, rfl, rfl, by decide +kernel, rfl, by decide +kernel, by decide +kernel⟩
abbrev s__law_tape : Stmt := topS 23
abbrev N__law_tape : List Str := ["row", "many", "k"]
theorem sc__law_tape : FnScope N__law_tape ["row", "many"] (defScope s__law_tape) := ⟨rfl, rfl, rfl, by decide +kernel, rfl, by decide +kernel, by decide +kernel⟩
abbrev s__law_pick : Stmt := topS 24
abbrev N__law_pick : List Str := ["box", "weights", "number", "k"]
theorem sc__law_pick : FnScope N__law_pick ["box", "weights"] (defScope s__law_pick) := ⟨rfl, rfl, rfl, by decide +kernel, rfl, by decide +kernel, by decide +kernel⟩
abbrev s__law_merge : Stmt := topS 25
abbrev N__law_merge : List Str := ["box", "size", "first", "second", "left", "lists", "found", "k", "side", "item"]
theorem sc__law_merge : FnScope N__law_merge ["box", "size", "first", "second"] (defScope s__law_merge) := ⟨rfl, rfl, rfl, by decide +kernel, rfl, by decide +kernel, by decide +kernel⟩
abbrev s__law_same : Stmt := topS 26
abbrev N__law_same : List Str := ["sample", "size", "data"]
theorem sc__law_same : FnScope N__law_same ["sample", "size", "data"] (defScope s__law_same) := ⟨rfl, rfl, rfl, by decide +kernel, rfl, by decide +kernel, by decide +kernel⟩
abbrev s__law_refused : Stmt := topS 27
abbrev N__law_refused : List Str := ["first", "second", "error"]
theorem sc__law_refused : FnScope N__law_refused ["first", "second"] (defScope s__law_refused) := ⟨rfl, rfl, rfl, by decide +kernel, rfl, by decide +kernel, by decide +kernel⟩
abbrev s__law_sizes : Stmt := topS 28
abbrev N__law_sizes : List Str := ["item", "found", "size", "turn", "error"]
theorem sc__law_sizes : FnScope N__law_sizes ["item"] (defScope s__law_sizes) := ⟨rfl, rfl, rfl, by decide +kernel, rfl, by decide +kernel, by decide +kernel⟩
abbrev s_law : Stmt := topS 29
abbrev N_law : List Str := ["script", "row", "size", "datas", "k", "kept", "total", "numbers", "tape", "box", "samples", "whole", "data", "merged", "later", "item", "due", "one"]
theorem sc_law : FnScope N_law ["script"] (defScope s_law) := ⟨rfl, rfl, rfl, by decide +kernel, rfl, by decide +kernel, by decide +kernel⟩
abbrev s_InvalidSize_init : Stmt := inClass (topS 3) 0
abbrev N_InvalidSize_init : List Str := ["self", "size", "__class__"]
theorem sc_InvalidSize_init : NdefX.NScope N_InvalidSize_init ["self", "size"] ["__class__"] (defScope s_InvalidSize_init) := NdefX.nscope_by (by decide +kernel)
abbrev NF_InvalidSize (cc c : Addr) : NdefX.NF := ⟨"__init__", "InvalidSize.__init__", defArgs s_InvalidSize_init, defBody s_InvalidSize_init, defScope s_InvalidSize_init, [(("__class__" : Str), cc)], c⟩
abbrev s_SharedKey_init : Stmt := inClass (topS 4) 0
abbrev N_SharedKey_init : List Str := ["self", "key", "__class__"]
theorem sc_SharedKey_init : NdefX.NScope N_SharedKey_init ["self", "key"] ["__class__"] (defScope s_SharedKey_init) := NdefX.nscope_by (by decide +kernel)
abbrev NF_SharedKey (cc c : Addr) : NdefX.NF := ⟨"__init__", "SharedKey.__init__", defArgs s_SharedKey_init, defBody s_SharedKey_init, defScope s_SharedKey_init, [(("__class__" : Str), cc)], c⟩
abbrev s_WrongKind_init : Stmt := inClass (topS 5) 0
abbrev N_WrongKind_init : List Str := ["self", "__class__"]
theorem sc_WrongKind_init : NdefX.NScope N_WrongKind_init ["self"] ["__class__"] (defScope s_WrongKind_init) := NdefX.nscope_by (by decide +kernel)
abbrev NF_WrongKind (cc c : Addr) : NdefX.NF := ⟨"__init__", "WrongKind.__init__", defArgs s_WrongKind_init, defBody s_WrongKind_init, defScope s_WrongKind_init, [(("__class__" : Str), cc)], c⟩
structure T (P : Program) (K : PySem.W.Frag) (mg : Str → Option Value) where
  a_check_size : Addr
  fd_check_size : FuncData
  F_check_size : Fun K "check_size" "check_size" s_check_size a_check_size fd_check_size
  b_check_size : Binds K fd_check_size ["size"] []
  g_check_size : mg "check_size" = some (.ref a_check_size)
  a_least_twice : Addr
  fd_least_twice : FuncData
  F_least_twice : Fun K "least_twice" "least_twice" s_least_twice a_least_twice fd_least_twice
  b_least_twice : Binds K fd_least_twice ["names"] []
  g_least_twice : mg "least_twice" = some (.ref a_least_twice)
  a_check_keys : Addr
  fd_check_keys : FuncData
  F_check_keys : Fun K "check_keys" "check_keys" s_check_keys a_check_keys fd_check_keys
  b_check_keys : Binds K fd_check_keys ["samples"] []
  g_check_keys : mg "check_keys" = some (.ref a_check_keys)
  a_Weighted_init : Addr
  fd_Weighted_init : FuncData
  F_Weighted_init : Fun K "__init__" "Weighted.__init__" s_Weighted_init a_Weighted_init fd_Weighted_init
  b_Weighted_init : Binds K fd_Weighted_init ["self", "size", "total", "kept"] []
  a_Weighted_empty : Addr
  fd_Weighted_empty : FuncData
  F_Weighted_empty : Fun K "empty" "Weighted.empty" s_Weighted_empty a_Weighted_empty fd_Weighted_empty
  b_Weighted_empty : Binds K fd_Weighted_empty ["cls", "size"] []
  a_Weighted_single : Addr
  fd_Weighted_single : FuncData
  F_Weighted_single : Fun K "single" "Weighted.single" s_Weighted_single a_Weighted_single fd_Weighted_single
  b_Weighted_single : Binds K fd_Weighted_single ["cls", "item", "size"] []
  a_Weighted_merge : Addr
  fd_Weighted_merge : FuncData
  F_Weighted_merge : Fun K "merge" "Weighted.merge" s_Weighted_merge a_Weighted_merge fd_Weighted_merge
  b_Weighted_merge : Binds K fd_Weighted_merge ["self", "other", "dice"] []
  a_Weighted_view : Addr
  fd_Weighted_view : FuncData
  F_Weighted_view : Fun K "view" "Weighted.view" s_Weighted_view a_Weighted_view fd_Weighted_view
  b_Weighted_view : Binds K fd_Weighted_view ["self"] []
  a_check_merge : Addr
  fd_check_merge : FuncData
  F_check_merge : Fun K "check_merge" "check_merge" s_check_merge a_check_merge fd_check_merge
  b_check_merge : Binds K fd_check_merge ["first", "second"] []
  g_check_merge : mg "check_merge" = some (.ref a_check_merge)
  a_number_at : Addr
  fd_number_at : FuncData
  F_number_at : Fun K "number_at" "number_at" s_number_at a_number_at fd_number_at
  b_number_at : Binds K fd_number_at ["weights", "place"] []
  g_number_at : mg "number_at" = some (.ref a_number_at)
  a_Tape_init : Addr
  fd_Tape_init : FuncData
  F_Tape_init : Fun K "__init__" "Tape.__init__" s_Tape_init a_Tape_init fd_Tape_init
  b_Tape_init : Binds K fd_Tape_init ["self", "numbers"] []
  a_Tape_pick : Addr
  fd_Tape_pick : FuncData
  F_Tape_pick : Fun K "pick" "Tape.pick" s_Tape_pick a_Tape_pick fd_Tape_pick
  b_Tape_pick : Binds K fd_Tape_pick ["self", "weights"] []
  a__law_mix : Addr
  fd__law_mix : FuncData
  F__law_mix : Fun K "_law_mix" "_law_mix" s__law_mix a__law_mix fd__law_mix
  b__law_mix : Binds K fd__law_mix ["number", "k"] []
  g__law_mix : mg "_law_mix" = some (.ref a__law_mix)
  a__law_numbers : Addr
  fd__law_numbers : FuncData
  F__law_numbers : Fun K "_law_numbers" "_law_numbers" s__law_numbers a__law_numbers fd__law_numbers
  b__law_numbers : Binds K fd__law_numbers ["script", "count"] []
  g__law_numbers : mg "_law_numbers" = some (.ref a__law_numbers)
  a__law_take : Addr
  fd__law_take : FuncData
  F__law_take : Fun K "_law_take" "_law_take" s__law_take a__law_take fd__law_take
  b__law_take : Binds K fd__law_take ["row", "bound"] []
  g__law_take : mg "_law_take" = some (.ref a__law_take)
  a__law_things : Addr
  fd__law_things : FuncData
  F__law_things : Fun K "_law_things" "_law_things" s__law_things a__law_things fd__law_things
  b__law_things : Binds K fd__law_things ["row", "most", "letters"] []
  g__law_things : mg "_law_things" = some (.ref a__law_things)
  a__law_shuffled : Addr
  fd__law_shuffled : FuncData
  F__law_shuffled : Fun K "_law_shuffled" "_law_shuffled" s__law_shuffled a__law_shuffled fd__law_shuffled
  b__law_shuffled : Binds K fd__law_shuffled ["row", "things"] []
  g__law_shuffled : mg "_law_shuffled" = some (.ref a__law_shuffled)
  a__law_tape : Addr
  fd__law_tape : FuncData
  F__law_tape : Fun K "_law_tape" "_law_tape" s__law_tape a__law_tape fd__law_tape
  b__law_tape : Binds K fd__law_tape ["row", "many"] []
  g__law_tape : mg "_law_tape" = some (.ref a__law_tape)
  a__law_pick : Addr
  fd__law_pick : FuncData
  F__law_pick : Fun K "_law_pick" "_law_pick" s__law_pick a__law_pick fd__law_pick
  b__law_pick : Binds K fd__law_pick ["box", "weights"] []
  g__law_pick : mg "_law_pick" = some (.ref a__law_pick)
  a__law_merge : Addr
  fd__law_merge : FuncData
  F__law_merge : Fun K "_law_merge" "_law_merge" s__law_merge a__law_merge fd__law_merge
  b__law_merge : Binds K fd__law_merge ["box", "size", "first", "second"] []
  g__law_merge : mg "_law_merge" = some (.ref a__law_merge)
  a__law_same : Addr
  fd__law_same : FuncData
  F__law_same : Fun K "_law_same" "_law_same" s__law_same a__law_same fd__law_same
  b__law_same : Binds K fd__law_same ["sample", "size", "data"] []
  g__law_same : mg "_law_same" = some (.ref a__law_same)
  a__law_refused : Addr
  fd__law_refused : FuncData
  F__law_refused : Fun K "_law_refused" "_law_refused" s__law_refused a__law_refused fd__law_refused
  b__law_refused : Binds K fd__law_refused ["first", "second"] []
  g__law_refused : mg "_law_refused" = some (.ref a__law_refused)
  a__law_sizes : Addr
  fd__law_sizes : FuncData
  F__law_sizes : Fun K "_law_sizes" "_law_sizes" s__law_sizes a__law_sizes fd__law_sizes
  b__law_sizes : Binds K fd__law_sizes ["item"] []
  g__law_sizes : mg "_law_sizes" = some (.ref a__law_sizes)
  a_law : Addr
  fd_law : FuncData
  F_law : Fun K "law" "law" s_law a_law fd_law
  b_law : Binds K fd_law ["script"] []
  g_law : mg "law" = some (.ref a_law)
  C_Weighted : Addr
  cl_Weighted : Cls K C_Weighted
  mg_Weighted : mg "Weighted" = some (.ref C_Weighted)
  mk_Weighted : Mk K C_Weighted a_Weighted_init
  na_Weighted_size : NoAttr K C_Weighted "size"
  na_Weighted_total : NoAttr K C_Weighted "total"
  na_Weighted_kept : NoAttr K C_Weighted "kept"
  p_Weighted_empty : Addr
  cm_Weighted_empty : ClX.CMet K C_Weighted (.type "type") "empty" p_Weighted_empty a_Weighted_empty
  p_Weighted_single : Addr
  cm_Weighted_single : ClX.CMet K C_Weighted (.type "type") "single" p_Weighted_single a_Weighted_single
  me_Weighted_merge : Meth K C_Weighted "merge" a_Weighted_merge
  me_Weighted_view : Meth K C_Weighted "view" a_Weighted_view
  cr_Weighted : ClX.CRead K C_Weighted (.type "type")
  C_Tape : Addr
  cl_Tape : Cls K C_Tape
  mg_Tape : mg "Tape" = some (.ref C_Tape)
  mk_Tape : Mk K C_Tape a_Tape_init
  na_Tape__numbers : NoAttr K C_Tape "_numbers"
  na_Tape__picks : NoAttr K C_Tape "_picks"
  me_Tape_pick : Meth K C_Tape "pick" a_Tape_pick
  C_SamphireError : Addr
  mg_SamphireError : mg "SamphireError" = some (.ref C_SamphireError)
  C_InvalidSize : Addr
  a_InvalidSize_init : Addr
  c_InvalidSize : Addr
  cc_InvalidSize : Addr
  x_InvalidSize : Sup.ExcT P K mg "InvalidSize" C_InvalidSize a_InvalidSize_init c_InvalidSize cc_InvalidSize
  doc_InvalidSize : Value
  pm_InvalidSize : Value
  ctv_InvalidSize : Value
  oc_InvalidSize : Value
  od_InvalidSize : Option Addr
  osl_InvalidSize : Array (Option Value)
  lk_InvalidSize : K.lookup a_InvalidSize_init = some ⟨oc_InvalidSize, od_InvalidSize, .func ((NF_InvalidSize cc_InvalidSize c_InvalidSize).fd doc_InvalidSize pm_InvalidSize ctv_InvalidSize), osl_InvalidSize⟩
  hc_InvalidSize : PySem.W.codeIn K (.ref c_InvalidSize) "InvalidSize.__init__" = true
  bx_InvalidSize : Binds K ((NF_InvalidSize cc_InvalidSize c_InvalidSize).fd doc_InvalidSize pm_InvalidSize ctv_InvalidSize) ["self", "size"] []
  nf_InvalidSize_size : PySem.W.findIn K (.ref C_InvalidSize) "size" = some none
  C_SharedKey : Addr
  a_SharedKey_init : Addr
  c_SharedKey : Addr
  cc_SharedKey : Addr
  x_SharedKey : Sup.ExcT P K mg "SharedKey" C_SharedKey a_SharedKey_init c_SharedKey cc_SharedKey
  doc_SharedKey : Value
  pm_SharedKey : Value
  ctv_SharedKey : Value
  oc_SharedKey : Value
  od_SharedKey : Option Addr
  osl_SharedKey : Array (Option Value)
  lk_SharedKey : K.lookup a_SharedKey_init = some ⟨oc_SharedKey, od_SharedKey, .func ((NF_SharedKey cc_SharedKey c_SharedKey).fd doc_SharedKey pm_SharedKey ctv_SharedKey), osl_SharedKey⟩
  hc_SharedKey : PySem.W.codeIn K (.ref c_SharedKey) "SharedKey.__init__" = true
  bx_SharedKey : Binds K ((NF_SharedKey cc_SharedKey c_SharedKey).fd doc_SharedKey pm_SharedKey ctv_SharedKey) ["self", "key"] []
  nf_SharedKey_key : PySem.W.findIn K (.ref C_SharedKey) "key" = some none
  C_WrongKind : Addr
  a_WrongKind_init : Addr
  c_WrongKind : Addr
  cc_WrongKind : Addr
  x_WrongKind : Sup.ExcT P K mg "WrongKind" C_WrongKind a_WrongKind_init c_WrongKind cc_WrongKind
  doc_WrongKind : Value
  pm_WrongKind : Value
  ctv_WrongKind : Value
  oc_WrongKind : Value
  od_WrongKind : Option Addr
  osl_WrongKind : Array (Option Value)
  lk_WrongKind : K.lookup a_WrongKind_init = some ⟨oc_WrongKind, od_WrongKind, .func ((NF_WrongKind cc_WrongKind c_WrongKind).fd doc_WrongKind pm_WrongKind ctv_WrongKind), osl_WrongKind⟩
  hc_WrongKind : PySem.W.codeIn K (.ref c_WrongKind) "WrongKind.__init__" = true
  bx_WrongKind : Binds K ((NF_WrongKind cc_WrongKind c_WrongKind).fd doc_WrongKind pm_WrongKind ctv_WrongKind) ["self"] []
  isa_Weighted : PySem.W.findIn K (.ref C_Weighted) "__class__" = some (some (.builtin "object.__class__"))
  isg_Weighted : PySem.W.specialIn K (.builtin "object.__class__") "__get__" = some (some (.builtin "getset_descriptor.__get__"))
  ist_Weighted : PySem.W.takesIn K (.builtin "object.__class__") = some true
  ism_Weighted : PySem.W.mroIn K C_Weighted (.type "object") = some true
  exm_SharedKey_WrongKind : PySem.W.exmOne K (.ref C_SharedKey) (.ref C_WrongKind) = some false
  kit_Weighted_Weighted : PySem.W.kitOne K (.ref C_Weighted) (.ref C_Weighted) = some true
  z_int : mg "int" = none
  z_isinstance : mg "isinstance" = none
  z_len : mg "len" = none
  z_list : mg "list" = none
  z_min : mg "min" = none
  z_range : mg "range" = none
  z_sorted : mg "sorted" = none
  z_str : mg "str" = none
  z_sum : mg "sum" = none
  z_super : mg "super" = none
  z_tuple : mg "tuple" = none
  v_MOST_SIZE : Value
  g_MOST_SIZE : mg "MOST_SIZE" = some v_MOST_SIZE
  r_MOST_SIZE : RelV (.int (20)) v_MOST_SIZE
/-! ### the walk by single steps -/
local macro_rules | `(tactic| walk_at "z1") => `(tactic| first
  | with_reducible refine Z.seq ?_
  | with_reducible refine Z.asg ?_
  | ((with_reducible refine' Z.gname ?zv ?_); (case zv => first | (dsimp only [List.set]; done) | (dsimp only [List.set]; exact rfl)))
  | ((with_reducible refine' Z.var ?zv ?_); (case zv => exact rfl))
  | with_reducible refine Z.cst ?_
  | with_reducible refine Z.op ?_
  | with_reducible refine Z.un ?_
  | with_reducible refine Z.i0 ?_
  | with_reducible refine Z.iU ?_
  | with_reducible refine Z.eqII ?_
  | with_reducible refine Z.neII ?_
  | with_reducible refine Z.eqSS ?_
  | with_reducible refine Z.neSS ?_
  | with_reducible refine Z.eqBB ?_
  | with_reducible refine Z.neBB ?_
  | with_reducible refine Z.bl' ?_
  | with_reducible refine Z.test ?_
  | with_reducible refine Z.tbb ?_
  | with_reducible refine Z.tand ?_
  | with_reducible refine Z.tor ?_
  | with_reducible refine Z.tnot ?_
  | with_reducible refine Z.tyes ?_
  | with_reducible refine Z.andV ?_
  | with_reducible refine Z.orV ?_
  | with_reducible refine Z.notV ?_
  | with_reducible refine Z.ifE ?_
  | with_reducible refine Z.chain ?_
  | with_reducible refine Z.yesB ?_
  | with_reducible refine Z.noB ?_
  | with_reducible refine Z.noNB ?_
  | with_reducible refine Z.yesNB ?_
  | with_reducible refine Z.nil ?_
  | with_reducible refine Z.cons ?_
  | with_reducible refine Z.cb ?_
  | with_reducible refine Z.call ?_
  | with_reducible refine Z.meth ?_
  | with_reducible refine Z.fld ?_
  | with_reducible refine Z.int1 ?_
  | with_reducible refine Z.intb ?_
  | with_reducible refine Z.abs1 ?_
  | with_reducible refine Z.gcons ?_
  | with_reducible refine Z.gnil ?_
  | with_reducible refine Z.gcd ?_
  | ((with_reducible refine' Z.par2 ?zv ?_); (case zv => first | (dsimp only [List.set]; done) | (dsimp only [List.set]; exact rfl)))
  | with_reducible refine Z.isN ?_
  | with_reducible refine Z.notN ?_
  | with_reducible refine Z.inSg ?_
  | with_reducible refine Z.ninSg ?_
  | with_reducible refine Z.tup ?_
  | with_reducible refine Z.lst ?_
  | with_reducible refine Z.gsub ?_
  | with_reducible refine Z.par ?_
  | ((with_reducible refine' Z.aug ?zv ?_); (case zv => exact rfl))
  | with_reducible refine Z.ipI' ?_
  | with_reducible refine Z.ifs ?_
  | with_reducible refine Z.ret ?_
  | with_reducible refine Z.retN ?_
  | with_reducible refine Z.next ?_
  | with_reducible refine Z.brk ?_
  | with_reducible refine Z.drop ?_
  | with_reducible refine Z.bm ?_
  | with_reducible refine Z.bm0 ?_
  | with_reducible refine Z.sfld ?_
  | with_reducible refine Z.sfldaug ?_
  | with_reducible refine Z.radd ?_
  | with_reducible refine Z.make ?_
  | with_reducible refine Z.lc ?_
  | with_reducible refine Z.rng1 ?_
  | with_reducible refine Z.ilist ?_
  | with_reducible refine Z.itup ?_
  | with_reducible refine Z.for_ ?_
  | with_reducible refine Z.istr ?_
  | with_reducible refine Z.ienum ?_
  | with_reducible refine Z.izip ?_
  | with_reducible refine Z.irng2 ?_
  | with_reducible refine Z.augs ?_
  | with_reducible refine Z.ienumS ?_
  | with_reducible refine Z.din ?_
  | with_reducible refine Z.dput ?_
  | with_reducible refine Z.dget ?_
  | with_reducible refine Z.dget2 ?_
  | with_reducible refine Z.sl ?_
  | with_reducible refine Z.slno ?_
  | with_reducible refine Z.slpart ?_
  | with_reducible refine Z.bint ?_
  | with_reducible refine Z.listrev ?_
  | with_reducible refine Z.revl ?_
  | dsimp only)
local macro_rules | `(tactic| walk_at "z0") => `(tactic| ((try simp only [Z.cxK]); (try dsimp only [L2.start, List.map, List.length, Nat.reduceAdd, Nat.reduceSub, List.replicate, List.cons_append, List.nil_append])))
local macro_rules | `(tactic| walk_at "z") => `(tactic| (repeat (walk_at "z1")))

/-! ### the numbers of a law: _law_mix, _law_numbers, _law_take -/
def DrawsAt (H : Hp) (a : Addr) : Prop := ∃ ns : List Int, H a = some (.lst (ns.map V.int))
theorem DrawsAt.ne {H : Hp} {a l : Addr} (d : DrawsAt H a) (h : H l = none) : a ≠ l := ne_of_none d.choose_spec h
theorem DrawsAt.kp {M : List Addr} {H H' : Hp} {a : Addr} (d : DrawsAt H a) (k : Kp M H H') (n : a ∉ M) : DrawsAt H' a := let ⟨ns, h⟩ := d; ⟨ns, k _ _ n h⟩
theorem DrawsAt.kp0 {H H' : Hp} {a : Addr} (d : DrawsAt H a) (k : Kp [] H H') : DrawsAt H' a := d.kp k nin0
theorem DrawsAt.put {H : Hp} {a b : Addr} {o : HO} (d : DrawsAt H a) (n : a ≠ b) : DrawsAt (upd H b o) a := let ⟨ns, h⟩ := d; ⟨ns, (upd_ne n).trans h⟩
def spMix : Sp := fun vs H Q _ => ∃ n k : Int, vs = [.int n, .int k] ∧ ∀ v, 0 ≤ v → v < 998244353 → Q (.int v) H
theorem ok__law_mix {P : Program} {w : World} {K : PySem.W.Frag} {mg : Str → Option Value} {base : Heap} (T : T P K mg) : FnOk P w K mg base CX0 1 T.a__law_mix T.fd__law_mix ["number", "k"] spMix := by
  refine T.F__law_mix.ok sc__law_mix (fun vs H Q E h => ?_) (fun cdv A outer s H vs Q E hr h => ?_)
  · obtain ⟨n, k, rfl, _⟩ := h
    rfl
  · obtain ⟨n, k, rfl, q⟩ := h
    refine ⟨_, (pss_one (ps_ret (pe_op op_mod (pe_op op_mul (pe_op op_mod (pe_callTy c_int (by rfl) T.z_int (by decide +kernel) (pa_cons (pe_op op_mul (pe_op op_add (pe_op op_add (pe_op op_mod (pe_callTy c_int (by rfl) T.z_int (by decide +kernel) (pa_cons (pv 0) pa_nil)) pe_int) (pe_op op_mul pe_int (pv 1))) pe_int) pe_int) pa_nil)) pe_int) pe_int) pe_int))), ?_⟩
    walk_at "z0"
    walk_at "z"
    refine Z.iC (by decide) ?_
    walk_at "z"
    refine Z.iC (.inl (by decide)) ?_
    walk_at "z"
    refine Z.iC (.inr (by decide)) ?_
    walk_at "z"
    refine Z.iC (by decide) ?_
    walk_at "z"
    refine Z.iC (.inr (by decide)) ?_
    walk_at "z"
    refine Z.iC (by decide) ?_
    walk_at "z"
    exact q _ (Int.emod_nonneg _ (by omega)) (Int.emod_lt_of_pos _ (by omega))
def spTake (K : PySem.W.Frag) : Sp := fun vs H Q _ => ∃ (a : Addr) (m : Int), vs = [.ref a, .int m] ∧ DrawsAt H a ∧ 1 ≤ m ∧ m < 18446744073709551616 ∧ ∀ H' v, 0 ≤ v → v < m → Kp [a] H H' → DrawsAt H' a → Q (.int v) H'
theorem ok__law_take {P : Program} {w : World} {K : PySem.W.Frag} {mg : Str → Option Value} {base : Heap} (T : T P K mg) : FnOk P w K mg base CX0 1 T.a__law_take T.fd__law_take ["row", "bound"] (spTake K) := by
  refine T.F__law_take.ok sc__law_take (fun vs H Q E h => ?_) (fun cdv A outer s H vs Q E hr h => ?_)
  · obtain ⟨a, m, rfl, _⟩ := h
    rfl
  · obtain ⟨a, m, rfl, ⟨ns, ha⟩, h0, h1, q⟩ := h
    refine ⟨_, (pss_cons (ps_if (pt_not (pt_truth (pv 0) (by intro _; rfl))) (pss_one (ps_ret pe_int)) pss_nil)
      (pss_one (ps_ret (pe_op op_mod (pe_callTy c_int (by rfl) T.z_int (by decide +kernel) (pa_cons (pe_bm0 PySem.F.plainAttrs_list PySem.F.slot_list_pop PySem.F.type_list_pop mt_pop (pv 0)) pa_nil)) (pv 1))))), ?_⟩
    walk_at "z0"
    walk_at "z"
    refine Z.truL ha ?_
    cases hns : ns with
    | nil =>
      walk_at "z"
      exact q _ _ (by omega) (by omega) (Kp.refl _) ⟨ns, ha⟩
    | cons n r =>
      rw [show (!!(List.map V.int (n :: r)).isEmpty) = false from rfl]
      walk_at "z"
      refine ⟨Z.tyL ha, ?_⟩
      have hl : 0 < ns.length := by rw [hns]; simp
      have hi : ns.length - 1 < ns.length := by omega
      refine Z.pop ha (y := .int ns[ns.length - 1]) (by rw [List.length_map, List.getElem?_map, List.getElem?_eq_getElem hi]; rfl) ?_
      walk_at "z"
      refine Z.iC (by omega) ?_
      exact q _ _ (Int.emod_nonneg _ (by omega)) (Int.emod_lt_of_pos _ (by omega)) (Kp.put (by simp)) ⟨ns.dropLast, by rw [upd_same, List.map_dropLast]⟩
def spNumbers (K : PySem.W.Frag) : Sp := fun vs H Q _ => ∃ (c : Addr) (ns : List Int) (n : Nat), vs = [.ref c, .int (n : Int)] ∧ SqL K H c (ns.map V.int) ∧ n ≤ 1000 ∧ (∀ z ∈ ns, Builtin.Int.intBits z ≤ 1048576) ∧ ∀ a H', H a = none → Kp [] H H' → DrawsAt H' a → Q (.ref a) H'
theorem ok__law_numbers {P : Program} {w : World} {K : PySem.W.Frag} {mg : Str → Option Value} {base : Heap} (T : T P K mg) : FnOk P w K mg base CX0 2 T.a__law_numbers T.fd__law_numbers ["script", "count"] (spNumbers K) := by
  refine T.F__law_numbers.ok sc__law_numbers (fun vs H Q E h => ?_) (fun cdv A outer s H vs Q E hr h => ?_)
  · obtain ⟨c, ns, n, rfl, _⟩ := h
    rfl
  · obtain ⟨c, ns, n, rfl, hS, hn, hb, q⟩ := h
    refine ⟨_, (pss_cons (ps_set (i := 2) sc__law_numbers.nd rfl (by first | exact Or.inl rfl | exact Or.inr rfl) (pe_lst pa_nil))
      (pss_cons (ps_set (i := 3) sc__law_numbers.nd rfl (by first | exact Or.inl rfl | exact Or.inr rfl) pe_int)
      (Z.pss_consJ (ps_for PassesOwn.never rfl (pi_list (pe_slice sl_list (pv 0) po_none (po_some pe_int))) (pg_name (i := 4) sc__law_numbers.nd rfl (by first | exact Or.inl rfl | exact Or.inr rfl)) (pss_cons (ps_set (i := 3) sc__law_numbers.nd rfl (by first | exact Or.inl rfl | exact Or.inr rfl) (pe_op op_add (pv 3) (pv 4)))
      (pss_one (ps_if (pt_cmpR op_ge (pv 4) pe_int (nomark _)) (pss_cons (ps_set (i := 5) sc__law_numbers.nd rfl (by first | exact Or.inl rfl | exact Or.inr rfl) (pv 4))
      (pss_one (ps_for PassesOwn.never rfl (pi_range1 (by rfl) T.z_range (pa_cons pe_int pa_nil)) (pg_name (i := 6) sc__law_numbers.nd rfl (by first | exact Or.inl rfl | exact Or.inr rfl)) (pss_cons (ps_expr (pe_bm PySem.F.plainAttrs_list PySem.F.slot_list_append PySem.F.type_list_append mt_append (pv 2) (pa_cons (pe_op op_mod (pe_callTy c_int (by rfl) T.z_int (by decide +kernel) (pa_cons (pv 5) pa_nil)) pe_int) pa_nil)))
      (pss_cons (ps_set (i := 5) sc__law_numbers.nd rfl (by first | exact Or.inl rfl | exact Or.inr rfl) (pe_op op_fdivW (pv 5) pe_int))
      (pss_one (ps_if (pt_cmpR op_eq (pv 5) pe_int (nomark _)) (pss_one ps_break) pss_nil))))))) (pss_one (ps_expr (pe_bm PySem.F.plainAttrs_list PySem.F.slot_list_append PySem.F.type_list_append mt_append (pv 2) (pa_cons (pe_call (ok__law_mix T) (hr.mono (by decide)) (by rfl) T.g__law_mix T.F__law_mix.kp T.b__law_mix .nil pass0 (pa_cons (pe_call (ok__law_mix T) (hr.mono (by decide)) (by rfl) T.g__law_mix T.F__law_mix.kp T.b__law_mix .nil pass0 (pa_cons (pv 4) (pa_cons pe_int pa_nil))) (pa_cons pe_int pa_nil))) pa_nil))))))))
      (pss_cons (ps_for PassesOwn.never rfl (pi_range1 (by rfl) T.z_range (pa_cons (pv 1) pa_nil)) (pg_name (i := 6) sc__law_numbers.nd rfl (by first | exact Or.inl rfl | exact Or.inr rfl)) (pss_one (ps_expr (pe_bm PySem.F.plainAttrs_list PySem.F.slot_list_append PySem.F.type_list_append mt_append (pv 2) (pa_cons (pe_call (ok__law_mix T) (hr.mono (by decide)) (by rfl) T.g__law_mix T.F__law_mix.kp T.b__law_mix .nil pass0 (pa_cons (pe_call (ok__law_mix T) (hr.mono (by decide)) (by rfl) T.g__law_mix T.F__law_mix.kp T.b__law_mix .nil pass0 (pa_cons (pe_op op_add (pv 3) (pe_op op_mul pe_int (pv 6))) (pa_cons (pe_op op_add pe_int (pv 6)) pa_nil))) (pa_cons pe_int pa_nil))) pa_nil)))))
      (pss_cons (ps_expr (pe_bm0 PySem.F.plainAttrs_list PySem.F.slot_list_reverse PySem.F.type_list_reverse mt_reverse (pv 2)))
      (pss_one (ps_ret (pv 2)))))))), ?_⟩
    walk_at "z0"
    walk_at "z"
    refine Z.lstK (fun D H1 nD k1 e1 => ?_)
    walk_at "z"
    refine Z.seqJ' ?_
    walk_at "z"
    refine Z.slL (k1.seq nin0 hS) (fun S H2 nS k2 e2 => ?_)
    have e2D := k2.get nin0 e1
    have nDS : D ≠ S := ne_of_none e1 nS
    have hcut : ∃ ms : List Int, cutV (ns.map V.int) none (some 63) = ms.map V.int ∧ ms.length ≤ 63 := by
      unfold cutV
      rw [HT.sIx_none, show (63 : Int) = ((63 : Nat) : Int) from rfl, HT.sIx_nat, List.drop_zero, Nat.sub_zero, ← List.map_take]
      exact ⟨_, rfl, by rw [List.length_take]; omega⟩
    obtain ⟨ms, hms, hm63⟩ := hcut
    rw [hms] at e2
    walk_at "z"
    refine Z.forl (ms.map V.int) (lstL e2) (fun i σ' H' => ∃ y4 y5 y6, ∃ (z : Int) (ds : List Int), σ' = [some (.ref c), some (.int (n : Int)), some (.ref D), some (.int z), y4, y5, y6] ∧ Kp [D] H2 H' ∧ H' D = some (.lst (ds.map V.int)) ∧ ds.length ≤ i * 61) ⟨_, _, _, _, [], rfl, Kp.refl _, e2D, by simp⟩ ?_ ?_ ?_
    · rintro i σ' H' hi ⟨y4, y5, y6, z, ds, rfl, k3, e3, hl⟩
      exact lstL (k3.get (nin1 nDS.symm) e2)
    · rintro i x σ' H' hx ⟨y4, y5, y6, z, ds, rfl, k3, e3, hl⟩
      obtain ⟨u, hu, rfl⟩ : ∃ u, ms[i]? = some u ∧ x = .int u := by
        rw [List.getElem?_map] at hx
        cases hw : ms[i]? with
        | none => rw [hw] at hx; cases hx
        | some r => rw [hw] at hx; exact ⟨r, rfl, (Option.some.inj hx).symm⟩
      have hi : i < ms.length := (List.getElem?_eq_some_iff.mp hu).1
      walk_at "z"
      refine Z.ite (fun h2 => ?_) (fun h2 => ?_)
      · walk_at "z"
        refine Z.forr 60 (by rfl) (by decide) (fun j σ' H' => ∃ y6, ∃ (v : Int) (ds : List Int), σ' = [some (.ref c), some (.int (n : Int)), some (.ref D), some (.int (z + u)), some (.int u), some (.int v), y6] ∧ Kp [D] H2 H' ∧ H' D = some (.lst (ds.map V.int)) ∧ ds.length ≤ i * 61 + j) ⟨_, _, ds, rfl, k3, e3, by omega⟩ ?_ ?_
        · rintro j σ' H' hj ⟨y6, v, ds, rfl, k4, e4, hl4⟩
          walk_at "z"
          refine ⟨Z.tyL e4, ?_⟩
          walk_at "z"
          refine Z.iC (by decide) ?_
          walk_at "z"
          refine Z.app e4 (Z.szl (m := 100000) (by rw [List.length_map]; omega)) ?_
          walk_at "z"
          refine Z.iC ⟨by decide, by decide⟩ ?_
          walk_at "z"
          have e5 : upd H' D (.lst (ds.map V.int ++ [.int (v % 840)])) D = some (.lst ((ds ++ [v % 840]).map V.int)) := by rw [upd_same, List.map_append]; rfl
          have k5 : Kp [D] H2 (upd H' D (.lst (ds.map V.int ++ [.int (v % 840)]))) := k4.trans (Kp.put (by simp))
          refine Z.ite (fun h3 => ?_) (fun h3 => ?_)
          · walk_at "z"
            exact ⟨_, _, _, _, ds ++ [v % 840], rfl, k5, e5, by simp; omega⟩
          · walk_at "z"
            exact ⟨_, _, ds ++ [v % 840], rfl, k5, e5, by simp; omega⟩
        · rintro σ' H' ⟨y6, v, ds, rfl, k4, e4, hl4⟩
          exact ⟨_, _, _, _, ds, rfl, k4, e4, by omega⟩
      · walk_at "z"
        refine ⟨Z.tyL e3, ?_⟩
        walk_at "z"
        refine ⟨_, _, rfl, fun v0 _ _ => ?_⟩
        walk_at "z"
        refine ⟨_, _, rfl, fun v1 _ _ => ?_⟩
        walk_at "z"
        refine Z.app e3 (Z.szl (m := 100000) (by rw [List.length_map]; omega)) ?_
        walk_at "z"
        exact ⟨_, _, _, _, ds ++ [v1], rfl, k3.trans (Kp.put (by simp)), by rw [upd_same, List.map_append]; rfl, by simp; omega⟩
    · rintro σ' H' ⟨y4, y5, y6, z, ds, rfl, k3, e3, hl⟩
      rw [List.length_map] at hl
      walk_at "z"
      refine Z.forr n (by rfl) (by omega) (fun j σ' H' => ∃ y6, ∃ (ds : List Int), σ' = [some (.ref c), some (.int (n : Int)), some (.ref D), some (.int z), y4, y5, y6] ∧ Kp [D] H2 H' ∧ H' D = some (.lst (ds.map V.int)) ∧ ds.length ≤ ms.length * 61 + j) ⟨_, ds, rfl, k3, e3, by omega⟩ ?_ ?_
      · rintro j σ' H' hj ⟨y6, ds, rfl, k4, e4, hl4⟩
        walk_at "z"
        refine ⟨Z.tyL e4, ?_⟩
        walk_at "z"
        refine Z.iC (.inl (by decide)) ?_
        walk_at "z"
        refine ⟨_, _, rfl, fun v0 _ _ => ?_⟩
        walk_at "z"
        refine ⟨_, _, rfl, fun v1 _ _ => ?_⟩
        walk_at "z"
        refine Z.app e4 (Z.szl (m := 100000) (by rw [List.length_map]; omega)) ?_
        walk_at "z"
        exact ⟨_, ds ++ [v1], rfl, k4.trans (Kp.put (by simp)), by rw [upd_same, List.map_append]; rfl, by simp; omega⟩
      · rintro σ' H' ⟨y6, ds, rfl, k4, e4, hl4⟩
        walk_at "z"
        refine ⟨Z.tyL e4, ?_⟩
        refine ⟨D, _, rfl, rfl, e4, ?_⟩
        walk_at "z"
        have nSD : H1 D = none → False := fun z => by rw [e1] at z; cases z
        refine q D _ nD ?_ ⟨ds.reverse, by rw [upd_same, List.map_reverse]⟩
        exact ((k1.trans k2).then1 k4 nD).mut nD rfl

/-! ### items of a law: _law_name, _law_items -/
theorem mem_append_one {α : Type} {P : α → Prop} {l : List α} {x : α} (h : ∀ n ∈ l, P n) (hx : P x) : ∀ n ∈ l ++ [x], P n := fun n hn => by
  rcases List.mem_append.mp hn with h1 | h1
  · exact h n h1
  · rw [List.mem_singleton.mp h1]; exact hx
theorem mem_set_of {α : Type} {P : α → Prop} {l : List α} {j : Nat} {x : α} (h : ∀ n ∈ l, P n) (hx : P x) : ∀ n ∈ l.set j x, P n := fun n hn => by
  rcases List.mem_or_eq_of_mem_set hn with h1 | h1
  · exact h n h1
  · rw [h1]; exact hx
structure Row where
  k : Str
  g : Str
  w : Int
  m : Int
def Row.vs (r : Row) : List V := [.str r.k, .str r.g, .int r.w, .int r.m]
def RowAt (H : Hp) (p : Addr) (r : Row) : Prop := H p = some (.tup r.vs)
def RowsAt (H : Hp) (ps : List (Addr × Row)) : Prop := ∀ x ∈ ps, RowAt H x.1 x.2
def refs (ps : List (Addr × Row)) : List V := ps.map fun x => V.ref x.1
theorem refs_len (ps : List (Addr × Row)) : (refs ps).length = ps.length := by unfold refs; rw [List.length_map]
theorem refs_at {ps : List (Addr × Row)} {i : Nat} {x : Addr × Row} (h : ps[i]? = some x) : (refs ps)[i]? = some (.ref x.1) := by unfold refs; rw [List.getElem?_map, h]; rfl
theorem refs_of {ps : List (Addr × Row)} {i : Nat} {v : V} (h : (refs ps)[i]? = some v) : ∃ x, ps[i]? = some x ∧ v = .ref x.1 := by
  unfold refs at h
  rw [List.getElem?_map] at h
  cases e : ps[i]? with
  | none => rw [e] at h; cases h
  | some x => rw [e] at h; exact ⟨x, rfl, (Option.some.inj h).symm⟩
theorem refs_snoc (ps : List (Addr × Row)) (x : Addr × Row) : refs (ps ++ [x]) = refs ps ++ [.ref x.1] := by unfold refs; rw [List.map_append]; rfl
theorem RowsAt.kp {M : List Addr} {H H' : Hp} {ps : List (Addr × Row)} (r : RowsAt H ps) (k : Kp M H H') (n : ∀ x ∈ M, ∃ xs, H x = some (.lst xs)) : RowsAt H' ps := fun x hx => k _ _ (fun z => by
  obtain ⟨xs, e⟩ := n _ z
  have e2 := r x hx
  unfold RowAt at e2
  rw [e] at e2
  cases e2) (r x hx)
theorem RowsAt.kp0 {H H' : Hp} {ps : List (Addr × Row)} (r : RowsAt H ps) (k : Kp [] H H') : RowsAt H' ps := r.kp k fun _ h => by cases h
theorem RowsAt.kp1 {H H' : Hp} {a : Addr} {ps : List (Addr × Row)} {xs : List V} (r : RowsAt H ps) (k : Kp [a] H H') (e : H a = some (.lst xs)) : RowsAt H' ps := r.kp k fun x h => by
  rw [List.mem_singleton.mp h]
  exact ⟨xs, e⟩
theorem RowsAt.kpd {H H' : Hp} {a : Addr} {ps : List (Addr × Row)} (r : RowsAt H ps) (k : Kp [a] H H') (d : DrawsAt H a) : RowsAt H' ps := let ⟨_, e⟩ := d; r.kp1 k e
theorem RowsAt.snoc {H : Hp} {ps : List (Addr × Row)} {x : Addr × Row} (r : RowsAt H ps) (h : RowAt H x.1 x.2) : RowsAt H (ps ++ [x]) := fun y hy => by
  rcases List.mem_append.mp hy with z | z
  · exact r y z
  · rw [List.mem_singleton.mp z]; exact h
theorem pickS (l : List Str) {v : Int} (h0 : 0 ≤ v) (h1 : v < (l.length : Nat)) : ∃ s, s ∈ l ∧ atI (l.map V.str) v = some (.str s) := by
  obtain ⟨j, rfl⟩ : ∃ j : Nat, v = (j : Int) := ⟨v.toNat, by omega⟩
  have hj : j < l.length := by omega
  exact ⟨l[j], List.getElem_mem hj, atI_nat (by rw [List.getElem?_map, List.getElem?_eq_getElem hj]; rfl)⟩
theorem pickI (l : List Int) {v : Int} (h0 : 0 ≤ v) (h1 : v < (l.length : Nat)) : ∃ s, s ∈ l ∧ atI (l.map V.int) v = some (.int s) := by
  obtain ⟨j, rfl⟩ : ∃ j : Nat, v = (j : Int) := ⟨v.toNat, by omega⟩
  have hj : j < l.length := by omega
  exact ⟨l[j], List.getElem_mem hj, atI_nat (by rw [List.getElem?_map, List.getElem?_eq_getElem hj]; rfl)⟩
structure RowS (r : Row) : Prop where
  k : PyData.strOk r.k = true
  g : PyData.strOk r.g = true
  kz : r.k.cps.size ≤ 20
  gz : r.g.cps.size ≤ 20
def smallS (l : List Str) : Bool := l.all fun s => PyData.strOk s && decide (s.cps.size ≤ 20)
theorem smallS_of {l : List Str} (h : smallS l = true) {s : Str} (hs : s ∈ l) : PyData.strOk s = true ∧ s.cps.size ≤ 20 := by
  have h1 := List.all_eq_true.mp h s hs
  rw [Bool.and_eq_true, decide_eq_true_eq] at h1
  exact h1
def rowD (r : Row) : PyData := .tuple [.str r.k, .str r.g, .int r.w, .int r.m]
theorem dpRow {K : PySem.W.Frag} {H : Hp} {p : Addr} {r : Row} (h : RowAt H p r) : Dp K H (.ref p) (rowD r) := .tup (tupT h) (.cons (.str _) (.cons (.str _) (.cons (.int _) (.cons (.int _) .nil))))
def rowsD (ps : List (Addr × Row)) : List PyData := ps.map fun x => rowD x.2
theorem dpRowsAll {K : PySem.W.Frag} {H : Hp} : ∀ {ps : List (Addr × Row)}, RowsAt H ps → DpAll K H (refs ps) (rowsD ps)
  | [], _ => .nil
  | x :: r, h => .cons (dpRow (h x (by simp))) (dpRowsAll (ps := r) fun y hy => h y (by simp [hy]))
theorem dpRows {K : PySem.W.Frag} {H : Hp} {p : Addr} {ps : List (Addr × Row)} (h : H p = some (.lst (refs ps))) (r : RowsAt H ps) : Dp K H (.ref p) (.list (rowsD ps)) := .lst (lstL h) (dpRowsAll r)
theorem rowD_lay {r : Row} (h : RowS r) : PyData.canLay0 (rowD r) = true := by simp [rowD, PyData.canLay0, PyData.canLayAll0, h.k, h.g]
theorem layRows : ∀ {ps : List (Addr × Row)}, (∀ x ∈ ps, RowS x.2) → PyData.canLayAll0 (rowsD ps) = true
  | [], _ => by simp [rowsD, PyData.canLayAll0]
  | x :: r, h => by
    have ih := layRows (ps := r) fun y hy => h y (by simp [hy])
    show PyData.canLayAll0 (rowD x.2 :: rowsD r) = true
    rw [PyData.canLayAll0, rowD_lay (h x (by simp)), ih]; rfl
theorem rowD_depth (r : Row) : (rowD r).depth = 1 := by simp [rowD, PyData.depth, PyData.depthAll]
theorem depthRows : ∀ ps : List (Addr × Row), PyData.depthAll (rowsD ps) ≤ 1
  | [] => by simp [rowsD, PyData.depthAll]
  | x :: r => by
    have ih := depthRows r
    show PyData.depthAll (rowD x.2 :: rowsD r) ≤ 1
    rw [PyData.depthAll, rowD_depth]
    omega
theorem shRows {ps : List (Addr × Row)} (h : ∀ x ∈ ps, RowS x.2) : SeqAt.shaped (.list (rowsD ps)) = true := by
  have := depthRows ps
  simp [SeqAt.shaped, PyData.canLay0, PyData.depth, layRows h]
  omega
theorem shNil : SeqAt.shaped (.list []) = true := by decide +kernel
theorem neRows {K : PySem.W.Frag} {H : Hp} {Q : VK} {a b : Addr} {ps : List (Addr × Row)} (h1 : H a = some (.lst (refs ps))) (h2 : H b = some (.lst (refs ps))) (r : RowsAt H ps) (s : ∀ x ∈ ps, RowS x.2) (q : Q (.bl false) H) : rNeD K (.ref a) (.ref b) H Q :=
  ⟨_, _, dpRows h1 r, dpRows h2 r, shRows s, shRows s, by rw [SeqAt.eqv_refl _ (by rw [PyData.canLay0]; exact layRows s)]; exact q⟩
theorem eqvAll_nil : ∀ l : List PyData, PyData.eqvAll l [] = l.isEmpty
  | [] => by simp [PyData.eqvAll]
  | _ :: _ => by simp [PyData.eqvAll]
theorem eqNil {K : PySem.W.Frag} {H : Hp} {Q : VK} {a b : Addr} {ps : List (Addr × Row)} (h1 : H a = some (.lst (refs ps))) (h2 : H b = some (.lst [])) (r : RowsAt H ps) (s : ∀ x ∈ ps, RowS x.2) (q : Q (.bl ps.isEmpty) H) : rEqD K (.ref a) (.ref b) H Q :=
  ⟨_, _, dpRows h1 r, .lst (ds := []) (lstL h2) .nil, shRows s, shNil, by
    rw [PyData.eqv, eqvAll_nil]
    have e : (rowsD ps).isEmpty = ps.isEmpty := by cases ps <;> rfl
    rw [e]; exact q⟩
/-! what is a name, an item -/
theorem RowAt.k0 {K : PySem.W.Frag} {H : Hp} {Q : VK} {p : Addr} {r : Row} (h : RowAt H p r) (q : Q (.str r.k) H) : rIxT K (.ref p) (.int 0) H Q := Z.ixT (tupT h) rfl q
theorem RowAt.g1 {K : PySem.W.Frag} {H : Hp} {Q : VK} {p : Addr} {r : Row} (h : RowAt H p r) (q : Q (.str r.g) H) : rIxT K (.ref p) (.int 1) H Q := Z.ixT (tupT h) rfl q
theorem RowAt.w2 {K : PySem.W.Frag} {H : Hp} {Q : VK} {p : Addr} {r : Row} (h : RowAt H p r) (q : Q (.int r.w) H) : rIxT K (.ref p) (.int 2) H Q := Z.ixT (tupT h) rfl q
theorem RowAt.m3 {K : PySem.W.Frag} {H : Hp} {Q : VK} {p : Addr} {r : Row} (h : RowAt H p r) (q : Q (.int r.m) H) : rIxT K (.ref p) (.int 3) H Q := Z.ixT (tupT h) rfl q
theorem RowAt.kp0 {H H' : Hp} {p : Addr} {r : Row} (h : RowAt H p r) (k : Kp [] H H') : RowAt H' p r := k.get nin0 h

/-! ### sums of lists of ints -/
theorem sum_nonneg : ∀ {l : List Int}, (∀ n ∈ l, 0 ≤ n) → 0 ≤ l.sum
  | [], _ => by simp
  | a :: r, h => by
    have h1 := h a (by simp)
    have h2 := sum_nonneg (l := r) fun n hn => h n (by simp [hn])
    rw [List.sum_cons]
    omega
theorem sum_le {c : Int} : ∀ {l : List Int}, (∀ n ∈ l, n ≤ c) → l.sum ≤ c * l.length
  | [], _ => by simp
  | a :: r, h => by
    have h1 := h a (by simp)
    have h2 := sum_le (c := c) (l := r) fun n hn => h n (by simp [hn])
    rw [List.sum_cons, List.length_cons, show c * ((r.length + 1 : Nat) : Int) = c * r.length + c by rw [Int.natCast_add, Int.mul_add]; simp]
    omega
theorem sum_ge_mem : ∀ {l : List Int}, (∀ n ∈ l, 0 ≤ n) → ∀ x ∈ l, x ≤ l.sum
  | [], _, x, hx => by simp at hx
  | a :: r, h, x, hx => by
    have h1 := h a (by simp)
    have h3 := sum_nonneg (l := r) fun n hn => h n (by simp [hn])
    rw [List.sum_cons]
    rcases List.mem_cons.mp hx with e | e
    · omega
    · have h2 := sum_ge_mem (l := r) (fun n hn => h n (by simp [hn])) x e
      omega
theorem take_nonneg {l : List Int} (h : ∀ n ∈ l, 0 ≤ n) (i : Nat) : 0 ≤ (l.take i).sum := sum_nonneg fun n hn => h n (List.mem_of_mem_take hn)
/-! ### lists of ints as data -/
theorem layInts : ∀ ws : List Int, PyData.canLayAll0 (ws.map PyData.int) = true
  | [] => by simp [PyData.canLayAll0]
  | w :: r => by simp [PyData.canLayAll0, PyData.canLay0, layInts r]
theorem depthInts : ∀ ws : List Int, PyData.depthAll (ws.map PyData.int) = 0
  | [] => by simp [PyData.depthAll]
  | w :: r => by simp [PyData.depthAll, PyData.depth, depthInts r]
theorem shInts (ws : List Int) : SeqAt.shaped (.list (ws.map PyData.int)) = true := by
  simp [SeqAt.shaped, PyData.canLay0, PyData.depth, layInts, depthInts]
theorem dpInts {K : PySem.W.Frag} {H : Hp} : ∀ ws : List Int, DpAll K H (ws.map V.int) (ws.map PyData.int)
  | [] => .nil
  | w :: r => .cons (.int w) (dpInts r)
theorem dpI {K : PySem.W.Frag} {H : Hp} {a : Addr} {ws : List Int} (h : SqL K H a (ws.map V.int)) : Dp K H (.ref a) (.list (ws.map PyData.int)) := .lst h (dpInts ws)
theorem eqvI (ws : List Int) : PyData.eqv (.list (ws.map PyData.int)) (.list (ws.map PyData.int)) = true := SeqAt.eqv_refl _ (by simp [PyData.canLay0, layInts])
theorem neLL {K : PySem.W.Frag} {H : Hp} {Q : VK} {a b : Addr} {ws : List Int} (h1 : SqL K H a (ws.map V.int)) (h2 : SqL K H b (ws.map V.int)) (q : Q (.bl false) H) : rNeD K (.ref a) (.ref b) H Q :=
  ⟨_, _, dpI h1, dpI h2, shInts _, shInts _, by rw [eqvI]; exact q⟩
theorem eqLL {K : PySem.W.Frag} {H : Hp} {Q : VK} {a b : Addr} {ws : List Int} (h1 : SqL K H a (ws.map V.int)) (h2 : SqL K H b (ws.map V.int)) (q : Q (.bl true) H) : rEqD K (.ref a) (.ref b) H Q :=
  ⟨_, _, dpI h1, dpI h2, shInts _, shInts _, by rw [eqvI]; exact q⟩

/-! ### errors of samphire.errors with fields -/
open PySem in
theorem app_len (a b : Str) : (a ++ b).length = a.length + b.length := by
  show (a.cps ++ b.cps).size = _
  rw [Array.size_append]; rfl
/-- what an own __init__ with fields does: ok says what it is called with, fl which fields it keeps -/
def spErr (C : Addr) (ok : List V → Prop) (fl : List V → List (Str × V)) : Sp := fun vs H Q _ => ∃ (a : Addr) (ws : List V), vs = .ref a :: ws ∧ ok ws ∧ H a = some (exo a C none) ∧
  ∀ d H', H d = none → d ≠ a → H' a = some (exo a C (some d)) → H' d = some (exd d (fl ws)) → (∀ b, b ≠ a → b ≠ d → H' b = H b) → Q .non H'
theorem err_heap {H H' : Hp} {a d : Addr} {o : HO} (ha : H a = none) (h : ∀ b, b ≠ a → b ≠ d → H' b = H b) : upd (del H' a) d o = upd H d o := by
  funext b
  by_cases hd : b = d
  · rw [hd, upd_same, upd_same]
  · rw [upd_ne hd, upd_ne hd]
    by_cases hb : b = a
    · rw [hb, del_same, ha]
    · rw [del_ne hb, h b hb hd]
/-- raise C(..) -/
theorem mkErr {C : Addr} {ok : List V → Prop} {fl : List V → List (Str × V)} {ta : TA} {σ : L2.St} {H : Hp} {Q : XK} (h : ta σ H fun vs H1 => vs.length ≤ 1000 ∧ ok vs ∧ ∀ d, H1 d = none → Q (.ref C) (some d) (upd H1 d (.xd (fl vs)))) (mono : ∀ {R S : List V → Hp → Prop}, (∀ v u, R v u → S v u) → ta σ H R → ta σ H S) : tMkO C (spErr C ok fl) [] ta σ H Q := by
  refine mono ?_ h
  rintro vs H1 ⟨hz, hok, q⟩
  refine ⟨hz, fun a ha => ⟨a, vs, by rw [List.append_nil], hok, upd_same, fun d H' hd hda h1 h2 h3 => ⟨rfl, d, fl vs, h1, h2, ?_, ?_⟩⟩⟩
  · rwa [upd_ne hda] at hd
  · rw [err_heap ha fun b hb hd => by rw [h3 b hb hd, upd_ne hb]]
    refine q d ?_
    rwa [upd_ne hda] at hd

/-! ### errors of samples: InvalidSize, SharedKey, WrongKind -/
def flF (f : Str) : List V → List (Str × V)
  | [v] => [(f, v)]
  | _ => []
def okSize (ws : List V) : Prop := ∃ z : Int, ws = [.int z] ∧ -5 ≤ z ∧ z ≤ 30
theorem size_len {z : Int} (h0 : -5 ≤ z) (h1 : z ≤ 30) : (Str.ofString (toString z)).length ≤ 9 := by
  have h : ∀ i : Fin 36, (Str.ofString (toString ((i.val : Int) - 5))).length ≤ 9 := by decide +kernel
  have := h ⟨(z + 5).toNat, by omega⟩
  rwa [show (((z + 5).toNat : Int) - 5) = z by omega] at this
theorem ok_InvalidSize_init {P : Program} {w : World} {K : PySem.W.Frag} {mg : Str → Option Value} {base : Heap} (T : T P K mg) : FnOk P w K mg base CX0 1 T.a_InvalidSize_init ((NF_InvalidSize T.cc_InvalidSize T.c_InvalidSize).fd T.doc_InvalidSize T.pm_InvalidSize T.ctv_InvalidSize) ["self", "size"] (spErr T.C_InvalidSize okSize (flF "size")) := by
  refine Sup.fn_super (F := NF_InvalidSize T.cc_InvalidSize T.c_InvalidSize) (p := "self") (ps' := ["size"]) T.x_InvalidSize.S T.lk_InvalidSize rfl T.hc_InvalidSize sc_InvalidSize_init rfl ⟨_, rfl, rfl⟩ rfl rfl (fun _ => rfl) (fun _ => ⟨_, rfl⟩) (fun _ => rfl) (fun vs H Q E h => ?_) (fun A outer s H vs Q E hr h => ?_)
  · obtain ⟨a, ws, rfl, ⟨s, rfl, _⟩, _⟩ := h
    rfl
  · obtain ⟨a, ws, rfl, ⟨z, rfl, hz0, hz1⟩, ha, q⟩ := h
    refine ⟨a, [.int z], _, _, rfl, ha, pa_cons (pe_joined (.cons pe_str (.cons (pe_fmt (pv 1)) .nil))) pa_nil, pss_one (ps_ost (pv 0) (pv 1)), ?_⟩
    have nl := size_len hz0 hz1
    have zl : 100000 ≤ sizeLine := by decide
    refine ⟨_, rfl, ?_, V.int z, rfl, .inr ⟨z, rfl, ?_, _, rfl, ?_, ?_⟩⟩
    · decide +kernel
    · exact Nat.lt_of_lt_of_le (PySem.Flt.log2_lt_of (k := 30) (by decide) (Nat.lt_of_le_of_lt (show z.natAbs ≤ 30 by omega) (by decide))) (by decide)
    · rw [app_len]
      refine Nat.le_trans (Nat.add_le_add (Nat.le_of_eq (show _ = 26 by decide +kernel)) nl) (by decide)
    refine ⟨by show 1 ≤ 1000; decide, ha, V.int z, rfl, V.ref a, rfl, a, T.C_InvalidSize, rfl, T.x_InvalidSize.S.T, T.nf_InvalidSize_size, .inl ⟨ha, fun d hd hda => ?_⟩⟩
    exact q d _ hd hda upd_same (by rw [upd_ne hda]; exact upd_same) (fun b hb hb2 => by rw [upd_ne hb, upd_ne hb2])
def okKey (ws : List V) : Prop := ∃ s : Str, ws = [.str s] ∧ s.length ≤ 1000
theorem ok_SharedKey_init {P : Program} {w : World} {K : PySem.W.Frag} {mg : Str → Option Value} {base : Heap} (T : T P K mg) : FnOk P w K mg base CX0 1 T.a_SharedKey_init ((NF_SharedKey T.cc_SharedKey T.c_SharedKey).fd T.doc_SharedKey T.pm_SharedKey T.ctv_SharedKey) ["self", "key"] (spErr T.C_SharedKey okKey (flF "key")) := by
  refine Sup.fn_super (F := NF_SharedKey T.cc_SharedKey T.c_SharedKey) (p := "self") (ps' := ["key"]) T.x_SharedKey.S T.lk_SharedKey rfl T.hc_SharedKey sc_SharedKey_init rfl ⟨_, rfl, rfl⟩ rfl rfl (fun _ => rfl) (fun _ => ⟨_, rfl⟩) (fun _ => rfl) (fun vs H Q E h => ?_) (fun A outer s H vs Q E hr h => ?_)
  · obtain ⟨a, ws, rfl, ⟨s, rfl, _⟩, _⟩ := h
    rfl
  · obtain ⟨a, ws, rfl, ⟨s, rfl, hz⟩, ha, q⟩ := h
    refine ⟨a, [.str s], _, _, rfl, ha, pa_cons (pe_joined (.cons pe_str (.cons (pe_fmt (pv 1)) .nil))) pa_nil, pss_one (ps_ost (pv 0) (pv 1)), ?_⟩
    refine ⟨_, rfl, ?_, V.str s, rfl, .inl ⟨s, rfl, Nat.le_trans hz (by decide), s, rfl, ?_, ?_⟩⟩
    · decide +kernel
    · rw [app_len]
      refine Nat.le_trans (Nat.add_le_add (Nat.le_of_eq (show _ = 12 by decide +kernel)) hz) (by decide)
    refine ⟨by show 1 ≤ 1000; decide, ha, V.str s, rfl, V.ref a, rfl, a, T.C_SharedKey, rfl, T.x_SharedKey.S.T, T.nf_SharedKey_key, .inl ⟨ha, fun d hd hda => ?_⟩⟩
    exact q d _ hd hda upd_same (by rw [upd_ne hda]; exact upd_same) (fun b hb hb2 => by rw [upd_ne hb, upd_ne hb2])
def spWK (C : Addr) : Sp := fun vs H Q _ => ∃ a : Addr, vs = [.ref a] ∧ H a = some (exo a C none) ∧ Q .non H
theorem ok_WrongKind_init {P : Program} {w : World} {K : PySem.W.Frag} {mg : Str → Option Value} {base : Heap} (T : T P K mg) : FnOk P w K mg base CX0 1 T.a_WrongKind_init ((NF_WrongKind T.cc_WrongKind T.c_WrongKind).fd T.doc_WrongKind T.pm_WrongKind T.ctv_WrongKind) ["self"] (spWK T.C_WrongKind) := by
  refine Sup.fn_super (F := NF_WrongKind T.cc_WrongKind T.c_WrongKind) (p := "self") (ps' := []) T.x_WrongKind.S T.lk_WrongKind rfl T.hc_WrongKind sc_WrongKind_init rfl ⟨_, rfl, rfl⟩ rfl rfl (fun _ => rfl) (fun _ => ⟨_, rfl⟩) (fun _ => rfl) (fun vs H Q E h => ?_) (fun A outer s H vs Q E hr h => ?_)
  · obtain ⟨a, rfl, _⟩ := h
    rfl
  · obtain ⟨a, rfl, ha, q⟩ := h
    exact ⟨a, [], _, _, rfl, ha, pa_cons pe_str pa_nil, pss_nil, by decide, ha, q⟩
def spSize (C : Addr) : Sp := fun vs H Q E => ∃ z : Int, vs = [.int z] ∧ -5 ≤ z ∧ z ≤ 30 ∧ ((1 ≤ z ∧ z ≤ 20) → Q .non H) ∧ (¬ (1 ≤ z ∧ z ≤ 20) → ∀ d, H d = none → E (.ref C) (some d) (upd H d (.xd (flF "size" [.int z]))))
theorem ok_check_size {P : Program} {w : World} {K : PySem.W.Frag} {mg : Str → Option Value} {base : Heap} (T : T P K mg) : FnOk P w K mg base (L2.CX P w) 3 T.a_check_size T.fd_check_size ["size"] (spSize T.C_InvalidSize) := by
  refine T.F_check_size.okX sc_check_size (fun vs H Q E h => ?_) (fun cdv A outer s H vs Q E hr h => ?_)
  · obtain ⟨z, rfl, _⟩ := h
    rfl
  · obtain ⟨z, rfl, hz0, hz1, q, e⟩ := h
    refine ⟨_, (pss_one (ps_if (pt_not (pt_chain op_le op_le pe_int (pv 0) (pe_glob (by rfl) T.g_MOST_SIZE T.r_MOST_SIZE))) (pss_one (ps_raise rfl (takes_of rfl rfl rfl rfl) (pmk_oex T.x_InvalidSize.S.T T.x_InvalidSize.iC T.x_InvalidSize.tI (ok_InvalidSize_init T) (hr.mono (by decide)) (T.bx_InvalidSize) .nil pass0 (by rfl) T.x_InvalidSize.g (pa_cons (pv 0) pa_nil)))) pss_nil)), ?_⟩
    walk_at "z0"
    walk_at "z"
    refine Z.ite (fun h1 => ?_) (fun h1 => ?_)
    · walk_at "z"
      refine Z.iteN (fun h2 => ?_) (fun h2 => ?_)
      · refine mkErr ?_ (fun hRS h => ?_)
        · exact ⟨_, rfl, by simp, ⟨z, rfl, hz0, hz1⟩, fun d hd => e (by omega) d hd⟩
        · obtain ⟨v1, e1, h⟩ := h
          exact ⟨v1, e1, hRS _ _ h⟩
      · walk_at "z"
        exact q ⟨h1, h2⟩
    · refine ⟨_, rfl, ?_⟩
      refine Z.yesNB ?_
      refine mkErr ?_ (fun hRS h => ?_)
      · exact ⟨_, rfl, by simp, ⟨z, rfl, hz0, hz1⟩, fun d hd => e (by omega) d hd⟩
      · obtain ⟨v1, e1, h⟩ := h
        exact ⟨v1, e1, hRS _ _ h⟩
/-! ### names kept twice -/
/-- the first of two equal neighbours -/
def twice : List Str → Option Str
  | a :: b :: r => if b = a then some b else twice (b :: r)
  | _ => none
theorem twice_at : ∀ {l : List Str} {j : Nat} {a b : Str}, l[j]? = some a → l[j + 1]? = some b → b = a → (∀ i c d, i < j → l[i]? = some c → l[i + 1]? = some d → d ≠ c) → twice l = some b
  | [], _, _, _, h, _, _, _ => by simp at h
  | [x], j, a, b, _, h, _, _ => by simp at h
  | x :: y :: r, 0, a, b, h1, h2, h3, _ => by
    simp at h1 h2
    subst h1 h2 h3
    unfold twice
    rw [if_pos rfl]
  | x :: y :: r, j + 1, a, b, h1, h2, h3, h4 => by
    have ih := twice_at (l := y :: r) (j := j) (a := a) (b := b) (by simpa using h1) (by simpa using h2) h3 fun i c d hi hc hd => h4 (i + 1) c d (by omega) (by simpa using hc) (by simpa using hd)
    unfold twice
    rw [if_neg (h4 0 x y (by omega) rfl rfl), ih]
theorem twice_none : ∀ {l : List Str}, (∀ i c d, l[i]? = some c → l[i + 1]? = some d → d ≠ c) → twice l = none
  | [], _ => rfl
  | [x], _ => rfl
  | x :: y :: r, h => by
    have ih := twice_none (l := y :: r) fun i c d hc hd => h (i + 1) c d (by simpa using hc) (by simpa using hd)
    unfold twice
    rw [if_neg (h 0 x y rfl rfl), ih]
def strP (l : List Str) : List (V × PyData) := l.map fun s => (V.str s, PyData.str s)
def unV : V → Str
  | .str s => s
  | _ => Str.empty
def sortS (l : List Str) : List Str := ((strP l).mergeSort (PySem.W.dataLe false Prod.snd)).map fun p => unV p.1
theorem sortS_eq (l : List Str) : ((strP l).mergeSort (PySem.W.dataLe false Prod.snd)).map Prod.fst = (sortS l).map V.str := by
  unfold sortS
  rw [List.map_map]
  refine List.map_congr_left fun p hp => ?_
  obtain ⟨s, _, rfl⟩ := List.mem_map.mp (List.mem_mergeSort.mp hp)
  rfl
theorem sortS_len (l : List Str) : (sortS l).length = l.length := by
  unfold sortS strP
  rw [List.length_map, List.length_mergeSort, List.length_map]
def optV : Option Str → V
  | some s => .str s
  | none => .non
def spTwice (K : PySem.W.Frag) : Sp := fun vs H Q _ => ∃ (a : Addr) (ks : List Str), vs = [.ref a] ∧ SqL K H a (ks.map V.str) ∧ ks.length ≤ 1000 ∧ (∀ s ∈ ks, PyData.strOk s = true) ∧ ∀ H', Kp [] H H' → Q (optV (twice (sortS ks))) H'
theorem ok_least_twice {P : Program} {w : World} {K : PySem.W.Frag} {mg : Str → Option Value} {base : Heap} (T : T P K mg) : FnOk P w K mg base CX0 1 T.a_least_twice T.fd_least_twice ["names"] (spTwice K) := by
  refine T.F_least_twice.ok sc_least_twice (fun vs H Q E h => ?_) (fun cdv A outer s H vs Q E hr h => ?_)
  · obtain ⟨a, ks, rfl, _⟩ := h
    rfl
  · obtain ⟨a, ks, rfl, hS, hn, hok, q⟩ := h
    refine ⟨_, (pss_cons (ps_set (i := 1) sc_least_twice.nd rfl (by first | exact Or.inl rfl | exact Or.inr rfl) (pe_callB ((RL.cr_sortedD hr.units) : CallR _ _ (RL.rSortedD K)) (by rfl) T.z_sorted (by decide +kernel) (pa_cons (pv 0) pa_nil)))
      (pss_cons (ps_for PassesOwn.never rfl (pi_range2 (by rfl) T.z_range (pa_cons pe_int (pa_cons (pe_callB c_len (by rfl) T.z_len (by decide +kernel) (pa_cons (pv 1) pa_nil)) pa_nil))) (pg_name (i := 2) sc_least_twice.nd rfl (by first | exact Or.inl rfl | exact Or.inr rfl)) (pss_one (ps_if (pt_cmpR op_eq (pe_ix ix_list (pv 1) (pv 2) (fun _ _ => rfl)) (pe_ix ix_list (pv 1) (pe_op op_sub (pv 2) pe_int) (fun _ _ => rfl)) (nomark _)) (pss_one (ps_ret (pe_ix ix_list (pv 1) (pv 2) (fun _ _ => rfl)))) pss_nil)))
      (pss_one (ps_ret pe_non)))), ?_⟩
    walk_at "z0"
    walk_at "z"
    refine ⟨a, strP ks, rfl, by unfold strP; rw [List.map_map]; exact hS, ?_, ?_, ?_, ?_, fun p np => ?_⟩
    · intro b hb
      obtain ⟨s, hs, rfl⟩ := List.mem_map.mp hb
      exact .str s
    · intro d hd d' hd'
      obtain ⟨b, hb, rfl⟩ := List.mem_map.mp hd
      obtain ⟨s, hs, rfl⟩ := List.mem_map.mp hb
      obtain ⟨b', hb', rfl⟩ := List.mem_map.mp hd'
      obtain ⟨s', hs', rfl⟩ := List.mem_map.mp hb'
      rfl
    · refine .inr fun d hd => ?_
      obtain ⟨b, hb, rfl⟩ := List.mem_map.mp hd
      obtain ⟨s, hs, rfl⟩ := List.mem_map.mp hb
      exact ⟨fun z => (by cases z), fun xs z => (by cases z)⟩
    · intro b hb
      obtain ⟨s, hs, rfl⟩ := List.mem_map.mp hb
      show (PyData.str s).depth ≤ 60
      simp [PyData.depth]
    · rw [sortS_eq]
      have k1 : Kp [] H (upd H p (.lst ((sortS ks).map V.str))) := Kp.new np
      have e1 : upd H p (.lst ((sortS ks).map V.str)) p = some (.lst ((sortS ks).map V.str)) := upd_same
      generalize upd H p (.lst ((sortS ks).map V.str)) = H1 at k1 e1 ⊢
      have hl := sortS_len ks
      walk_at "z"
      refine Z.lenL (lstL e1) ?_
      rw [List.length_map]
      walk_at "z"
      refine Z.forr2 ((sortS ks).length - 1) (by omega) (by omega) (fun i σ' H' => ∃ y, σ' = [some (.ref a), some (.ref p), y] ∧ H' = H1 ∧ ∀ j c d, j < i → (sortS ks)[j]? = some c → (sortS ks)[j + 1]? = some d → d ≠ c) ⟨none, rfl, rfl, fun j c d hj => absurd hj (by omega)⟩ ?_ ?_
      · rintro i σ' H' hi ⟨y, rfl, rfl, hno⟩
        obtain ⟨c, hc⟩ : ∃ c, (sortS ks)[i]? = some c := ⟨_, List.getElem?_eq_getElem (by omega)⟩
        obtain ⟨d, hd⟩ : ∃ d, (sortS ks)[i + 1]? = some d := ⟨_, List.getElem?_eq_getElem (by omega)⟩
        have a1 : atI ((sortS ks).map V.str) (1 + (i : Int)) = some (.str d) := by
          rw [show (1 + (i : Int)) = ((i + 1 : Nat) : Int) by omega]
          exact atI_nat (by rw [List.getElem?_map, hd]; rfl)
        have a0 : atI ((sortS ks).map V.str) (1 + (i : Int) - 1) = some (.str c) := by
          rw [show (1 + (i : Int) - 1) = (i : Int) by omega]
          exact atI_nat (by rw [List.getElem?_map, hc]; rfl)
        walk_at "z"
        refine Z.ixL (lstL e1) a1 ?_
        walk_at "z"
        refine Z.ixL (lstL e1) a0 ?_
        walk_at "z"
        refine Z.ite (fun h1 => ?_) (fun h1 => ?_)
        · walk_at "z"
          refine Z.ixL (lstL e1) a1 ?_
          have := q _ k1
          rw [twice_at hc hd h1 hno] at this
          exact this
        · walk_at "z"
          refine ⟨_, rfl, rfl, fun j c' d' hj hc' hd' => ?_⟩
          rcases Nat.lt_or_ge j i with z | z
          · exact hno j c' d' z hc' hd'
          · obtain rfl : j = i := by omega
            rw [hc] at hc'
            rw [hd] at hd'
            rw [← Option.some.inj hc', ← Option.some.inj hd']
            exact h1
      · rintro σ' H' ⟨y, rfl, rfl, hno⟩
        walk_at "z"
        have := q _ k1
        rw [twice_none (fun i c d hc hd => hno i c d (by have := (List.getElem?_eq_some_iff.mp hd).1; omega) hc hd)] at this
        exact this

/-! ### number_at -/
def nAt : List Int → Int → Nat
  | [], _ => 0
  | w :: r, p => if p < w then 0 else nAt r (p - w) + 1
theorem nAt_spec : ∀ {ns : List Int} {p : Int} {i : Nat}, (∀ n ∈ ns, 0 ≤ n) → (ns.take i).sum ≤ p → p < (ns.take (i + 1)).sum → nAt ns p = i
  | [], p, i, _, h1, h2 => by
    simp at h1 h2
    omega
  | w :: r, p, 0, _, h1, h2 => by
    simp at h1 h2
    unfold nAt
    rw [if_pos h2]
  | w :: r, p, i + 1, h, h1, h2 => by
    rw [List.take_succ_cons, List.sum_cons] at h1 h2
    have h3 := take_nonneg (l := r) (fun n hn => h n (by simp [hn])) i
    have ih := nAt_spec (ns := r) (p := p - w) (i := i) (fun n hn => h n (by simp [hn])) (by omega) (by omega)
    unfold nAt
    rw [if_neg (by omega), ih]
structure WOk (ws : List Int) : Prop where
  pos : ∀ n ∈ ws, 0 ≤ n
  sum : 0 < ws.sum
def spNumberAt (K : PySem.W.Frag) : Sp := fun vs H Q _ => ∃ (a : Addr) (ns : List Int) (p : Int), vs = [.ref a, .int p] ∧ SqL K H a (ns.map V.int) ∧ 0 ≤ p ∧ (∀ n ∈ ns, 0 ≤ n) ∧ p < ns.sum ∧ Q (.int (nAt ns p)) H
theorem lt_len {ns : List Int} {p : Int} {j : Nat} (h : (ns.take j).sum ≤ p) (hl : p < ns.sum) : j < ns.length := by
  rcases Nat.lt_or_ge j ns.length with h1 | h1
  · exact h1
  · rw [List.take_of_length_le h1] at h
    omega
theorem ok_number_at {P : Program} {w : World} {K : PySem.W.Frag} {mg : Str → Option Value} {base : Heap} (T : T P K mg) : FnOk P w K mg base CX0 1 T.a_number_at T.fd_number_at ["weights", "place"] (spNumberAt K) := by
  refine T.F_number_at.ok sc_number_at (fun vs H Q E h => ?_) (fun cdv A outer s H vs Q E hr h => ?_)
  · obtain ⟨a, ns, p, rfl, _⟩ := h
    rfl
  · obtain ⟨a, ns, p, rfl, hS, hp, hn, hl, q⟩ := h
    refine ⟨_, (pss_cons (ps_set (i := 2) sc_number_at.nd rfl (by first | exact Or.inl rfl | exact Or.inr rfl) pe_int)
      (pss_cons (ps_set (i := 3) sc_number_at.nd rfl (by first | exact Or.inl rfl | exact Or.inr rfl) (pv 1))
      (pss_cons (ps_while PassesOwn.never (pt_cmpR op_ge (pv 3) (pe_ix ix_list (pv 0) (pv 2) (fun _ _ => rfl)) (nomark _)) (pss_cons (ps_aug (i := 3) sc_number_at.nd rfl (by first | exact Or.inl rfl | exact Or.inr rfl) (pe_ix ix_list (pv 0) (pv 2) (fun _ _ => rfl)) ip_sub)
      (pss_one (ps_aug (i := 2) sc_number_at.nd rfl (by first | exact Or.inl rfl | exact Or.inr rfl) pe_int ip_add))))
      (pss_one (ps_ret (pv 2)))))), ?_⟩
    walk_at "z0"
    walk_at "z"
    refine Z.wh (fun m σ' H' => ∃ (j : Nat) (left : Int), σ' = [some (.ref a), some (.int p), some (.int (j : Int)), some (.int left)] ∧ H' = H ∧ m + j = ns.length ∧ left = p - (ns.take j).sum ∧ 0 ≤ left) ns.length ⟨0, p, rfl, rfl, rfl, by simp, hp⟩ ?_
    rintro m σ' H' ⟨j, left, rfl, rfl, hm, hleft, h0⟩
    have hj : j < ns.length := lt_len (p := p) (by omega) hl
    have hx : ns[j]? = some ns[j] := List.getElem?_eq_getElem hj
    have hs := sum_take hx
    walk_at "z"
    refine Z.ixL hS (atM hx) ?_
    walk_at "z"
    refine Z.ite (fun h1 => ?_) (fun h1 => ?_)
    · refine Z.whb ?_
      walk_at "z"
      refine Z.ixL hS (atM hx) ?_
      walk_at "z"
      refine ⟨m - 1, by omega, j + 1, _, rfl, rfl, by omega, ?_, ?_⟩
      · omega
      · omega
    · walk_at "z"
      rw [nAt_spec hn (by omega) (by omega : p < (ns.take (j + 1)).sum)] at q
      exact q
/-! ### the tape -/
theorem ne_np : ¬ (("_numbers" : Str) = "_picks") := by decide +kernel
def tf (l : Addr) (k : Nat) : List (Str × V) := [("_numbers", .ref l), ("_picks", .int (k : Int))]
theorem tf_n (l : Addr) (k : Nat) : (tf l k).lookup ("_numbers" : Str) = some (.ref l) := rfl
theorem tf_p (l : Addr) (k : Nat) : (tf l k).lookup ("_picks" : Str) = some (.int (k : Int)) := rfl
theorem tf_mk (l : Addr) : putF "_picks" (.int 0) (putF "_numbers" (.ref l) []) = tf l 0 := by
  show (if ("_numbers" : Str) = "_picks" then _ else (("_numbers" : Str), V.ref l) :: [(("_picks" : Str), V.int 0)]) = _
  rw [if_neg ne_np]; rfl
theorem tf_put (l : Addr) (k : Nat) : putF "_picks" (.int ((k : Int) + 1)) (tf l k) = tf l (k + 1) := by
  show (if ("_numbers" : Str) = "_picks" then _ else (("_numbers" : Str), V.ref l) :: (if ("_picks" : Str) = "_picks" then [(("_picks" : Str), V.int ((k : Int) + 1))] else _)) = _
  rw [if_neg ne_np, if_pos rfl]; rfl
theorem tf_pick (l : Addr) (k : Nat) : (tf l k).lookup ("pick" : Str) = none := rfl
theorem tf_used (l : Addr) (k : Nat) : (tf l k).lookup ("used" : Str) = none := rfl
def TapeAt (C : Addr) (H : Hp) (x l : Addr) (ns : List Int) (k : Nat) : Prop := (∃ dx, H x = some (.ins C dx (tf l k))) ∧ H l = some (.lst (ns.map V.int))
def spTInit (K : PySem.W.Frag) (C : Addr) : Sp := fun vs H Q _ => ∃ (x b dx : Addr) (ns : List Int), vs = [.ref x, .ref b] ∧ H x = some (.ins C dx []) ∧ SqL K H b (ns.map V.int) ∧ ∀ H' l, H l = none → Kp [x] H H' → TapeAt C H' x l ns 0 → Q .non H'
theorem ok_Tape_init {P : Program} {w : World} {K : PySem.W.Frag} {mg : Str → Option Value} {base : Heap} (T : T P K mg) : FnOk P w K mg base CX0 1 T.a_Tape_init T.fd_Tape_init ["self", "numbers"] (spTInit K T.C_Tape) := by
  refine T.F_Tape_init.ok sc_Tape_init (fun vs H Q E h => ?_) (fun cdv A outer s H vs Q E hr h => ?_)
  · obtain ⟨x, b, dx, ns, rfl, _⟩ := h
    rfl
  · obtain ⟨x, b, dx, ns, rfl, hx, hS, q⟩ := h
    refine ⟨_, (pss_cons (ps_fld (pv 0) (pe_callTy c_list (by rfl) T.z_list (by decide +kernel) (pa_cons (pv 1) pa_nil)) rfl)
      (pss_one (ps_fld (pv 0) pe_int rfl))), ?_⟩
    walk_at "z0"
    walk_at "z"
    refine Z.listL hS fun l H1 nl k1 e1 => ?_
    have hx1 := k1.get nin0 hx
    have nxl : x ≠ l := ne_of_none hx nl
    walk_at "z"
    refine ⟨x, _, dx, [], rfl, hx1, T.cl_Tape, T.na_Tape__numbers, by decide, ?_⟩
    walk_at "z"
    refine ⟨x, _, dx, _, rfl, upd_same, T.cl_Tape, T.na_Tape__picks, by show 1 < 1000; decide, ?_⟩
    walk_at "z"
    rw [tf_mk, upd_upd]
    exact q _ l nl ((k1.sub (by simp)).trans (Kp.put (by simp))) ⟨⟨dx, upd_same⟩, (upd_ne nxl.symm).trans e1⟩
def spTPick (K : PySem.W.Frag) (C : Addr) : Sp := fun vs H Q _ => ∃ (x b l : Addr) (ns ws : List Int) (k : Nat), vs = [.ref x, .ref b] ∧ TapeAt C H x l ns k ∧ SqL K H b (ws.map V.int) ∧ WOk ws ∧ ∀ H', Kp [x] H H' → TapeAt C H' x l ns (k + 1) → Q (.int (nAt ws ((ns.getD k 0) % ws.sum))) H'
theorem ok_Tape_pick {P : Program} {w : World} {K : PySem.W.Frag} {mg : Str → Option Value} {base : Heap} (T : T P K mg) : FnOk P w K mg base CX0 2 T.a_Tape_pick T.fd_Tape_pick ["self", "weights"] (spTPick K T.C_Tape) := by
  refine T.F_Tape_pick.ok sc_Tape_pick (fun vs H Q E h => ?_) (fun cdv A outer s H vs Q E hr h => ?_)
  · obtain ⟨x, b, l, ns, ws, k, rfl, _⟩ := h
    rfl
  · obtain ⟨x, b, l, ns, ws, k, rfl, ⟨⟨dx, hx⟩, hl⟩, hS, hW, q⟩ := h
    have nlx : l ≠ x := ne_of hl hx (by intro e; cases e)
    refine ⟨_, (pss_cons (ps_set (i := 2) sc_Tape_pick.nd rfl (by first | exact Or.inl rfl | exact Or.inr rfl) pe_int)
      (Z.pss_consJ (ps_if (pt_cmpR op_lt (pe_fld (pv 0) rfl) (pe_callB c_len (by rfl) T.z_len (by decide +kernel) (pa_cons (pe_fld (pv 0) rfl) pa_nil)) (nomark _)) (pss_one (ps_set (i := 2) sc_Tape_pick.nd rfl (by first | exact Or.inl rfl | exact Or.inr rfl) (pe_ix ix_list (pe_fld (pv 0) rfl) (pe_fld (pv 0) rfl) (fun _ _ => rfl)))) pss_nil)
      (pss_cons (ps_set (i := 3) sc_Tape_pick.nd rfl (by first | exact Or.inl rfl | exact Or.inr rfl) (pe_call (ok_number_at T) (hr.mono (by decide)) (by rfl) T.g_number_at T.F_number_at.kp T.b_number_at .nil pass0 (pa_cons (pv 1) (pa_cons (pe_op op_mod (pv 2) (pe_callB (cr_sum rfl) (by rfl) T.z_sum (by decide +kernel) (pa_cons (pv 1) pa_nil))) pa_nil))))
      (pss_cons (ps_fldaug (pv 0) pe_int in_add)
      (pss_one (ps_ret (pv 3))))))), ?_⟩
    walk_at "z0"
    walk_at "z"
    refine Z.seqJ (fun σ' H' => σ' = [some (.ref x), some (.ref b), some (.int (ns.getD k 0)), none] ∧ H' = H) ?_ ?_
    · rintro σ' H' ⟨rfl, rfl⟩
      walk_at "z"
      refine Z.sumL hS ?_
      walk_at "z"
      refine Z.iC hW.sum ?_
      have hs := hW.sum
      refine ⟨b, ws, _, rfl, hS, Int.emod_nonneg _ (by omega), hW.pos, Int.emod_lt_of_pos _ hs, ?_⟩
      walk_at "z"
      refine ⟨x, _, dx, _, _, rfl, hx, T.cl_Tape, T.na_Tape__picks, tf_p l k, ?_⟩
      walk_at "z"
      refine ⟨dx, _, hx, by show 2 < 1000; decide, ?_⟩
      walk_at "z"
      rw [tf_put]
      exact q _ (Kp.put (by simp)) ⟨⟨dx, upd_same⟩, (upd_ne nlx).trans hl⟩
    · intro N jn
      walk_at "z"
      refine ⟨x, _, dx, _, _, rfl, hx, T.cl_Tape, T.na_Tape__picks, tf_p l k, ?_⟩
      walk_at "z"
      refine ⟨x, _, dx, _, _, rfl, hx, T.cl_Tape, T.na_Tape__numbers, tf_n l k, ?_⟩
      walk_at "z"
      refine Z.lenL (lstL hl) ?_
      walk_at "z"
      rw [List.length_map]
      refine Z.ite (fun h1 => ?_) (fun h1 => ?_)
      · walk_at "z"
        refine ⟨x, _, dx, _, _, rfl, hx, T.cl_Tape, T.na_Tape__numbers, tf_n l k, ?_⟩
        walk_at "z"
        refine ⟨x, _, dx, _, _, rfl, hx, T.cl_Tape, T.na_Tape__picks, tf_p l k, ?_⟩
        have hk : k < ns.length := by omega
        refine Z.ixL (lstL hl) (atM (List.getElem?_eq_getElem hk)) ?_
        walk_at "z"
        refine jn _ _ ⟨?_, rfl⟩
        rw [List.getD_eq_getElem?_getD, List.getElem?_eq_getElem hk]; rfl
      · walk_at "z"
        refine jn _ _ ⟨?_, rfl⟩
        rw [List.getD_eq_getElem?_getD, List.getElem?_eq_none (by omega)]; rfl

/-! ### uniform samples as objects -/
def uf (size seen : Int) (k : Addr) : List (Str × V) := [("size", .int size), ("total", .int seen), ("kept", .ref k)]
theorem uf_mk (size seen : Int) (k : Addr) : putF "kept" (.ref k) (putF "total" (.int seen) (putF "size" (.int size) [])) = uf size seen k := by
  have n1 : ¬ (("size" : Str) = "total") := by decide +kernel
  have n2 : ¬ (("size" : Str) = "kept") := by decide +kernel
  have n3 : ¬ (("total" : Str) = "kept") := by decide +kernel
  have e1 : putF "total" (.int seen) (putF "size" (.int size) []) = [(("size" : Str), V.int size), (("total" : Str), V.int seen)] := by
    show (if ("size" : Str) = "total" then _ else (("size" : Str), V.int size) :: [(("total" : Str), V.int seen)]) = _
    rw [if_neg n1]
  rw [e1]
  show (if ("size" : Str) = "kept" then _ else (("size" : Str), V.int size) :: (if ("total" : Str) = "kept" then _ else (("total" : Str), V.int seen) :: [(("kept" : Str), V.ref k)])) = _
  rw [if_neg n2, if_neg n3]; rfl
theorem uf_size (size seen : Int) (k : Addr) : (uf size seen k).lookup ("size" : Str) = some (.int size) := rfl
theorem uf_total (size seen : Int) (k : Addr) : (uf size seen k).lookup ("total" : Str) = some (.int seen) := rfl
theorem uf_kept (size seen : Int) (k : Addr) : (uf size seen k).lookup ("kept" : Str) = some (.ref k) := rfl
def UniAt (C : Addr) (H : Hp) (x k : Addr) (size seen : Int) (ps : List (Addr × Row)) : Prop := (∃ dx, H x = some (.ins C dx (uf size seen k))) ∧ H k = some (.lst (refs ps))
theorem UniAt.kp0 {C : Addr} {H H' : Hp} {x k : Addr} {size seen : Int} {ps : List (Addr × Row)} (h : UniAt C H x k size seen ps) (kk : Kp [] H H') : UniAt C H' x k size seen ps := let ⟨⟨dx, h1⟩, h2⟩ := h; ⟨⟨dx, kk.get nin0 h1⟩, kk.get nin0 h2⟩
def spUInit (K : PySem.W.Frag) (C : Addr) : Sp := fun vs H Q _ => ∃ (x b dx : Addr) (size seen : Int) (ps : List (Addr × Row)), vs = [.ref x, .int size, .int seen, .ref b] ∧ H x = some (.ins C dx []) ∧ H b = some (.lst (refs ps)) ∧ ∀ H' k, H k = none → Kp [x] H H' → UniAt C H' x k size seen ps → Q .non H'
theorem ok_Weighted_init {P : Program} {w : World} {K : PySem.W.Frag} {mg : Str → Option Value} {base : Heap} (T : T P K mg) : FnOk P w K mg base CX0 1 T.a_Weighted_init T.fd_Weighted_init ["self", "size", "total", "kept"] (spUInit K T.C_Weighted) := by
  refine T.F_Weighted_init.ok sc_Weighted_init (fun vs H Q E h => ?_) (fun cdv A outer s H vs Q E hr h => ?_)
  · obtain ⟨x, b, dx, size, seen, ps, rfl, _⟩ := h
    rfl
  · obtain ⟨x, b, dx, size, seen, ps, rfl, hx, hb, q⟩ := h
    refine ⟨_, (pss_cons (ps_fld (pv 0) (pv 1) rfl)
      (pss_cons (ps_fld (pv 0) (pv 2) rfl)
      (pss_one (ps_fld (pv 0) (pe_callTy c_list (by rfl) T.z_list (by decide +kernel) (pa_cons (pv 3) pa_nil)) rfl)))), ?_⟩
    have nbx : b ≠ x := fun z => by rw [z, hx] at hb; cases hb
    walk_at "z0"
    walk_at "z"
    refine ⟨x, _, dx, [], rfl, hx, T.cl_Weighted, T.na_Weighted_size, by decide, ?_⟩
    walk_at "z"
    refine ⟨x, _, dx, _, rfl, upd_same, T.cl_Weighted, T.na_Weighted_total, by show 1 < 1000; decide, ?_⟩
    walk_at "z"
    rw [upd_upd]
    refine Z.listL (lstL ((upd_ne nbx).trans hb)) fun k H1 nk k1 e1 => ?_
    have hx1 := k1.get nin0 (show upd H x _ x = some _ from upd_same)
    have nxk : x ≠ k := ne_of_none (show upd H x _ x = some _ from upd_same) nk
    have nk0 : H k = none := by rwa [upd_ne nxk.symm] at nk
    walk_at "z"
    refine ⟨x, _, dx, _, rfl, hx1, T.cl_Weighted, T.na_Weighted_kept, by show 2 < 1000; decide, ?_⟩
    walk_at "z"
    rw [uf_mk]
    exact q _ k nk0 (((Kp.put (by simp)).trans (k1.sub (by simp))).trans (Kp.put (by simp))) ⟨⟨dx, upd_same⟩, (upd_ne nxk.symm).trans e1⟩
theorem tyUni {P : Program} {K : PySem.W.Frag} {mg : Str → Option Value} (T : T P K mg) {H : Hp} {x k : Addr} {size seen : Int} {ps : List (Addr × Row)} (h : UniAt T.C_Weighted H x k size seen ps) : TyX K H (.ref x) (.ref T.C_Weighted) :=
  let ⟨⟨_, h1⟩, _⟩ := h
  .base (.ins h1 T.cl_Weighted T.isa_Weighted T.isg_Weighted T.ist_Weighted T.ism_Weighted)
theorem isU {P : Program} {K : PySem.W.Frag} {mg : Str → Option Value} (T : T P K mg) {H : Hp} {Q : VK} {x k : Addr} {size seen : Int} {ps : List (Addr × Row)} (h : UniAt T.C_Weighted H x k size seen ps) (q : Q (.bl true) H) : rIsi K [.ref x, .ref T.C_Weighted] H Q :=
  ⟨_, _, _, _, true, rfl, .own _, tyUni T h, T.kit_Weighted_Weighted, q⟩

/-! ### no key twice -/
theorem twice_mem : ∀ {l : List Str} {s : Str}, twice l = some s → s ∈ l
  | [], s, h => by cases h
  | [x], s, h => by cases h
  | x :: y :: r, s, h => by
    unfold twice at h
    by_cases e : y = x
    · rw [if_pos e] at h
      rw [← Option.some.inj h]; simp
    · rw [if_neg e] at h
      exact List.mem_cons_of_mem _ (twice_mem h)
theorem sortS_mem {l : List Str} {s : Str} (h : s ∈ sortS l) : s ∈ l := by
  unfold sortS at h
  obtain ⟨p, hp, rfl⟩ := List.mem_map.mp h
  obtain ⟨t, ht, rfl⟩ := List.mem_map.mp (List.mem_mergeSort.mp hp)
  exact ht
def keysOf (rs : List (List (Addr × Row))) : List Str := rs.flatMap fun ps => ps.map fun x => x.2.k
def spKeys (K : PySem.W.Frag) (C CS : Addr) : Sp := fun vs H Q E => ∃ (l x k y m : Addr) (size seen size2 seen2 : Int) (ps qs : List (Addr × Row)), vs = [.ref l] ∧ SqL K H l [.ref x, .ref y] ∧ UniAt C H x k size seen ps ∧ UniAt C H y m size2 seen2 qs ∧ RowsAt H ps ∧ RowsAt H qs ∧ (∀ z ∈ ps, RowS z.2) ∧ (∀ z ∈ qs, RowS z.2) ∧ ps.length ≤ 100 ∧ qs.length ≤ 100 ∧
  (twice (sortS (keysOf [ps, qs])) = none → ∀ H', Kp [] H H' → Q .non H') ∧ (∀ s, twice (sortS (keysOf [ps, qs])) = some s → ∀ H' d, Kp [] H H' → H' d = none → E (.ref CS) (some d) (upd H' d (.xd (flF "key" [.str s]))))
theorem ok_check_keys {P : Program} {w : World} {K : PySem.W.Frag} {mg : Str → Option Value} {base : Heap} (T : T P K mg) : FnOk P w K mg base (L2.CX P w) 3 T.a_check_keys T.fd_check_keys ["samples"] (spKeys K T.C_Weighted T.C_SharedKey) := by
  refine T.F_check_keys.okX sc_check_keys (fun vs H Q E h => ?_) (fun cdv A outer s H vs Q E hr h => ?_)
  · obtain ⟨_, _, _, _, _, _, _, _, _, _, _, rfl, _⟩ := h
    rfl
  · obtain ⟨l, x, k, y, m, size, seen, size2, seen2, ps, qs, rfl, hS, hU, hV, hps, hqs, hpS, hqS, hpn, hqn, q, e⟩ := h
    refine ⟨_, (pss_cons (ps_set (i := 1) sc_check_keys.nd rfl (by first | exact Or.inl rfl | exact Or.inr rfl) (pe_call (ok_least_twice T) (hr.mono (by decide)) (by rfl) T.g_least_twice T.F_least_twice.kp T.b_least_twice .nil pass0 (pa_cons (pe_lc2 (own := [("sample", 2), ("item", 3)]) (vs1 := [3]) (g := gName 2) (g1 := gName 3) rfl sc_check_keys.nd (pi_list (pv 0)) (blkOk_by (own := [("sample", 2), ("item", 3)]) (N := N_check_keys) (sc := defScope s_check_keys) (by decide +kernel)) (by decide) (fun _ _ _ _ _ => (pg_name (i := 2) sc_check_keys.nd rfl (by first | exact Or.inl rfl | exact Or.inr rfl))) (fun _ _ _ _ _ => pts_nil) (fun _ _ _ _ _ => ((pi_list ((pe_fld (pv 2) rfl) : PE _ _ (tFld K _ _))) : PI _ _ _ (iList K _))) (fun _ _ _ _ _ => (pg_name (i := 3) sc_check_keys.nd rfl (by first | exact Or.inl rfl | exact Or.inr rfl))) (fun _ _ _ _ _ => pts_nil) (fun _ _ _ _ _ => (pe_ix (ix_tup : IxR _ (rIxT K)) (pv 3) pe_int (fun _ _ => rfl)))) pa_nil)))
      (pss_one (ps_if (pt_cmpR o_notN (pv 1) pe_non (nomark _)) (pss_one (ps_raise rfl (takes_of rfl rfl rfl rfl) (pmk_oex T.x_SharedKey.S.T T.x_SharedKey.iC T.x_SharedKey.tI (ok_SharedKey_init T) (hr.mono (by decide)) (T.bx_SharedKey) .nil pass0 (by rfl) T.x_SharedKey.g (pa_cons (pv 1) pa_nil)))) pss_nil))), ?_⟩
    walk_at "z0"
    walk_at "z"
    refine Z.lc2 ?_
    walk_at "z"
    have key : ∀ (D : Addr) (i : Nat) (x0 k0 : Addr) (size0 seen0 : Int) (rs : List (Addr × Row)) (pre : List Str), UniAt T.C_Weighted H x0 k0 size0 seen0 rs → RowsAt H rs → rs.length ≤ 100 → pre.length ≤ 100 → True := fun _ _ _ _ _ _ _ _ _ _ _ _ => trivial
    refine Z.lc2l [.ref x, .ref y] hS (fun D i H' => H D = none ∧ Kp [] H H' ∧ H' D = some (.lst ((keysOf ([ps, qs].take i)).map V.str))) ?_ ?_ ?_ ?_
    · intro D H1 nD k1 e1
      exact ⟨nD, k1, e1⟩
    · rintro D i H1 nD hi ⟨_, k1, e1⟩
      exact k1.seq nin0 hS
    · rintro D i v H1 nD hv ⟨_, k1, e1⟩
      obtain ⟨x0, k0, size0, seen0, rs, rfl, hU0, hr0, hn0, hget⟩ : ∃ (x0 k0 : Addr) (size0 seen0 : Int) (rs : List (Addr × Row)), v = .ref x0 ∧ UniAt T.C_Weighted H x0 k0 size0 seen0 rs ∧ RowsAt H rs ∧ rs.length ≤ 100 ∧ [ps, qs][i]? = some rs := by
        match i, hv with
        | 0, hv => exact ⟨x, k, size, seen, ps, (Option.some.inj hv).symm, hU, hps, hpn, rfl⟩
        | 1, hv => exact ⟨y, m, size2, seen2, qs, (Option.some.inj hv).symm, hV, hqs, hqn, rfl⟩
        | i + 2, hv => simp at hv
      have hlen : (keysOf ([ps, qs].take i)).length ≤ 100 := by
        match i, hv with
        | 0, _ => simp [keysOf]
        | 1, _ => simp [keysOf]; omega
        | i + 2, hv => simp at hv
      obtain ⟨⟨dx, hx⟩, hk⟩ := hU0
      dsimp only [wipe, List.set]
      walk_at "z"
      refine ⟨rfl, ?_⟩
      walk_at "z"
      refine ⟨x0, _, dx, _, _, rfl, k1.get nin0 hx, T.cl_Weighted, T.na_Weighted_kept, uf_kept size0 seen0 k0, ?_⟩
      refine Z.in2l (refs rs) (lstL (k1.get nin0 hk)) (fun j H' => Kp [] H H' ∧ H' D = some (.lst ((keysOf ([ps, qs].take i) ++ (rs.take j).map fun z => z.2.k).map V.str))) ?_ ?_ ?_ ?_
      · exact ⟨k1, by rw [List.take_zero, List.map_nil, List.append_nil]; exact e1⟩
      · rintro j H2 hj ⟨k2, e2⟩
        exact lstL (k2.get nin0 hk)
      · rintro j v H2 hv2 ⟨k2, e2⟩
        obtain ⟨z, hz, rfl⟩ := refs_of hv2
        have hj : j < rs.length := (List.getElem?_eq_some_iff.mp hz).1
        dsimp only [wipe, List.set]
        walk_at "z"
        refine ⟨rfl, ?_⟩
        walk_at "z"
        refine RowAt.k0 ((hr0.kp0 k2) z (List.mem_of_getElem? hz)) ?_
        refine ⟨_, e2, Z.szl (m := 1000) (by rw [List.length_map, List.length_append, List.length_map, List.length_take]; omega), k2.mut nD rfl, ?_⟩
        rw [upd_same, List.take_add_one, hz]
        simp
      · rintro H2 ⟨k2, e2⟩
        rw [refs_len, List.take_length] at e2
        refine ⟨nD, k2, ?_⟩
        rw [e2, List.take_add_one, hget]
        unfold keysOf
        rw [List.flatMap_append]
        simp
    · rintro D H1 nD ⟨_, k1, e1⟩
      have hlen : (keysOf [ps, qs]).length ≤ 200 := by simp [keysOf]; omega
      have hkz : ∀ s ∈ keysOf [ps, qs], PyData.strOk s = true ∧ s.cps.size ≤ 20 := fun s hs => by
        obtain ⟨rs, hrs, hs2⟩ := List.mem_flatMap.mp hs
        obtain ⟨z, hz, rfl⟩ := List.mem_map.mp hs2
        rcases List.mem_cons.mp hrs with h | h
        · rw [h] at hz; exact ⟨(hpS z hz).k, (hpS z hz).kz⟩
        · rw [List.mem_singleton.mp h] at hz; exact ⟨(hqS z hz).k, (hqS z hz).kz⟩
      have hsz : ∀ s ∈ keysOf [ps, qs], s.cps.size ≤ 20 := fun s hs => (hkz s hs).2
      walk_at "z"
      refine ⟨D, keysOf [ps, qs], rfl, lstL e1, by omega, fun s hs => (hkz s hs).1, fun H2 k2 => ?_⟩
      walk_at "z"
      cases ht : twice (sortS (keysOf [ps, qs])) with
      | none =>
        walk_at "z"
        refine Z.noN rfl ?_
        walk_at "z"
        exact q ht H2 (k1.trans k2)
      | some s =>
        walk_at "z"
        refine Z.yesN (by simp [optV]) ?_
        refine mkErr ?_ (fun hRS h => ?_)
        · exact ⟨_, rfl, by simp, ⟨s, rfl, by have := hsz s (sortS_mem (twice_mem ht)); show s.cps.size ≤ 1000; omega⟩, fun d hd => e s ht H2 d (k1.trans k2) hd⟩
        · obtain ⟨v1, e1, h⟩ := h
          exact ⟨v1, e1, hRS _ _ h⟩

theorem del_upd {H : Hp} {a : Addr} {o : HO} (h : H a = none) : del (upd H a o) a = H := by
  funext b
  by_cases hb : b = a
  · rw [hb, del_same, h]
  · rw [del_ne hb, upd_ne hb]

/-! ### may they be merged -/
def spMay (K : PySem.W.Frag) (C CS CW : Addr) : Sp := fun vs H Q E => ∃ (x k y m : Addr) (size seen size2 seen2 : Int) (ps qs : List (Addr × Row)), vs = [.ref x, .ref y] ∧ UniAt C H x k size seen ps ∧ UniAt C H y m size2 seen2 qs ∧ RowsAt H ps ∧ RowsAt H qs ∧ (∀ z ∈ ps, RowS z.2) ∧ (∀ z ∈ qs, RowS z.2) ∧ ps.length ≤ 100 ∧ qs.length ≤ 100 ∧
  (size2 ≠ size → E (.ref CW) none H) ∧ (size2 = size → twice (sortS (keysOf [ps, qs])) = none → ∀ H', Kp [] H H' → Q .non H') ∧ (size2 = size → ∀ s, twice (sortS (keysOf [ps, qs])) = some s → ∀ H' d, Kp [] H H' → H' d = none → E (.ref CS) (some d) (upd H' d (.xd (flF "key" [.str s]))))
theorem ok_check_merge {P : Program} {w : World} {K : PySem.W.Frag} {mg : Str → Option Value} {base : Heap} (T : T P K mg) : FnOk P w K mg base (L2.CX P w) 4 T.a_check_merge T.fd_check_merge ["first", "second"] (spMay K T.C_Weighted T.C_SharedKey T.C_WrongKind) := by
  refine T.F_check_merge.okX sc_check_merge (fun vs H Q E h => ?_) (fun cdv A outer s H vs Q E hr h => ?_)
  · obtain ⟨_, _, _, _, _, _, _, _, _, _, rfl, _⟩ := h
    rfl
  · obtain ⟨x, k, y, m, size, seen, size2, seen2, ps, qs, rfl, hU, hV, hps, hqs, hpS, hqS, hpn, hqn, ew, q, ek⟩ := h
    obtain ⟨⟨dx, hx⟩, hk⟩ := id hU
    obtain ⟨⟨dy, hy⟩, hm⟩ := id hV
    refine ⟨_, (pss_cons (ps_if (PW.pt (pw_or (pt_not (pt_val (pe_callB call_isi (by rfl) T.z_isinstance (by decide +kernel) (pa_cons (pv 1) (pa_cons (pe_glob (v := .ref T.C_Weighted) (by rfl) T.mg_Weighted rfl) pa_nil))))) (pw_or1 (pt_cmpR op_ne (pe_fld (pv 1) rfl) (pe_fld (pv 0) rfl) (nomark _))))) (pss_one (ps_raise rfl (takes_of rfl rfl rfl rfl) (Sup.pmk_oexN T.x_WrongKind.S.T T.x_WrongKind.iC T.x_WrongKind.tI (ok_WrongKind_init T) (hr.mono (by decide)) (T.bx_WrongKind) pass0 (by rfl) T.x_WrongKind.g))) pss_nil)
      (pss_one (ps_expr (pe_call (ok_check_keys T) (hr.mono (by decide)) (by rfl) T.g_check_keys T.F_check_keys.kp T.b_check_keys .nil (passes_call (takes_of rfl rfl rfl rfl) (fun _ _ _ _ h => h)) (pa_cons (pe_lst (pa_cons (pv 0) (pa_cons (pv 1) pa_nil))) pa_nil))))), ?_⟩
    walk_at "z0"
    walk_at "z"
    refine isU T hV ?_
    walk_at "z"
    refine ⟨y, _, dy, _, _, rfl, hy, T.cl_Weighted, T.na_Weighted_size, uf_size size2 seen2 m, ?_⟩
    walk_at "z"
    refine ⟨x, _, dx, _, _, rfl, hx, T.cl_Weighted, T.na_Weighted_size, uf_size size seen k, ?_⟩
    walk_at "z"
    refine Z.iteN (fun h1 => ?_) (fun h1 => ?_)
    · refine Z.mkN fun a na => ⟨a, rfl, upd_same, rfl, upd_same, ?_⟩
      rw [del_upd na]
      exact ew h1
    · walk_at "z"
      refine Z.lstK (fun l H1 nl k1 e1 => ?_)
      refine ⟨l, x, k, y, m, size, seen, size2, seen2, ps, qs, rfl, lstL e1, hU.kp0 k1, hV.kp0 k1, hps.kp0 k1, hqs.kp0 k1, hpS, hqS, hpn, hqn, fun ht H2 k2 => ?_, fun s ht H2 d k2 hd => ek h1 s ht H2 d (k1.trans k2) hd⟩
      walk_at "z"
      exact q h1 ht H2 (k1.trans k2)

/-! ### the view -/
def spView (K : PySem.W.Frag) (C : Addr) : Sp := fun vs H Q _ => ∃ (x k : Addr) (size seen : Int) (ps : List (Addr × Row)), vs = [.ref x] ∧ UniAt C H x k size seen ps ∧ ps.length ≤ 1000 ∧ ∀ H' t u, H t = none → Kp [] H H' → H' t = some (.tup [.int size, .int seen, .ref u]) → H' u = some (.tup (refs ps)) → Q (.ref t) H'
theorem ok_Weighted_view {P : Program} {w : World} {K : PySem.W.Frag} {mg : Str → Option Value} {base : Heap} (T : T P K mg) : FnOk P w K mg base CX0 1 T.a_Weighted_view T.fd_Weighted_view ["self"] (spView K T.C_Weighted) := by
  refine T.F_Weighted_view.ok sc_Weighted_view (fun vs H Q E h => ?_) (fun cdv A outer s H vs Q E hr h => ?_)
  · obtain ⟨x, k, size, seen, ps, rfl, _⟩ := h
    rfl
  · obtain ⟨x, k, size, seen, ps, rfl, hU, hn, q⟩ := h
    obtain ⟨⟨dx, hx⟩, hk⟩ := id hU
    refine ⟨_, (pss_one (ps_ret (pe_tup (pa_cons (pe_fld (pv 0) rfl) (pa_cons (pe_fld (pv 0) rfl) (pa_cons (pe_callTy c_tuple (by rfl) T.z_tuple (by decide +kernel) (pa_cons (pe_fld (pv 0) rfl) pa_nil)) pa_nil)))))), ?_⟩
    walk_at "z0"
    walk_at "z"
    refine ⟨x, _, dx, _, _, rfl, hx, T.cl_Weighted, T.na_Weighted_size, uf_size size seen k, ?_⟩
    walk_at "z"
    refine ⟨x, _, dx, _, _, rfl, hx, T.cl_Weighted, T.na_Weighted_total, uf_total size seen k, ?_⟩
    walk_at "z"
    refine ⟨x, _, dx, _, _, rfl, hx, T.cl_Weighted, T.na_Weighted_kept, uf_kept size seen k, ?_⟩
    walk_at "z"
    refine ⟨k, refs ps, rfl, .inl ⟨lstL hk, fun u nu => ?_⟩⟩
    have k1 : Kp [] H (upd H u (.tup (refs ps))) := Kp.new nu
    have e1 : upd H u (.tup (refs ps)) u = some (.tup (refs ps)) := upd_same
    generalize upd H u (.tup (refs ps)) = H1 at k1 e1 ⊢
    walk_at "z"
    refine Z.tupK (fun t H2 nt k2 e2 => ?_)
    exact q H2 t u (k1.none nin0 nt) (k1.trans k2) e2 (k2.get nin0 e1)

/-! ### drawing from several lists, with numbers of a tape -/
section draw2
variable {α : Type}
theorem nAt_pos : ∀ {ns : List Int} {p : Int}, (∀ n ∈ ns, 0 ≤ n) → 0 ≤ p → p < ns.sum → ∃ l, ns[nAt ns p]? = some l ∧ 0 < l
  | [], p, _, h0, h1 => by simp at h1; omega
  | w :: r, p, h, h0, h1 => by
    rw [List.sum_cons] at h1
    unfold nAt
    by_cases c : p < w
    · rw [if_pos c]; exact ⟨w, rfl, by omega⟩
    · rw [if_neg c]
      obtain ⟨l, e, hl⟩ := nAt_pos (ns := r) (p := p - w) (fun n hn => h n (by simp [hn])) (by omega) (by omega)
      exact ⟨l, by simpa using e, hl⟩
theorem nAt_ones : ∀ {n : Nat} {v : Int}, 0 ≤ v → v < n → nAt (List.replicate n 1) v = v.toNat
  | 0, v, h0, h1 => by omega
  | n + 1, v, h0, h1 => by
    rw [List.replicate_succ]
    unfold nAt
    by_cases c : v < 1
    · rw [if_pos c]; omega
    · rw [if_neg c, nAt_ones (by omega) (by omega)]; omega
theorem sum_ones (n : Nat) : (List.replicate n (1 : Int)).sum = n := by
  induction n with
  | zero => rfl
  | succ n ih => rw [List.replicate_succ, List.sum_cons, ih]; omega
theorem sum_setI : ∀ {ls : List Int} {j : Nat} {l m : Int}, ls[j]? = some l → (ls.set j m).sum = ls.sum - l + m
  | [], j, l, m, h => by simp at h
  | a :: r, 0, l, m, h => by
    simp at h
    subst h
    show (m :: r).sum = _
    rw [List.sum_cons, List.sum_cons]; omega
  | a :: r, j + 1, l, m, h => by
    have ih := sum_setI (ls := r) (j := j) (l := l) (m := m) (by simpa using h)
    show (a :: r.set j m).sum = _
    rw [List.sum_cons, List.sum_cons, ih]; omega
theorem take_perm : ∀ {w : List α} {k : Nat} {x : α}, w[k]? = some x → (x :: w.eraseIdx k).Perm w
  | [], k, x, h => by simp at h
  | a :: r, 0, x, h => by
    simp at h
    subst h
    exact .refl _
  | a :: r, k + 1, x, h => by
    have ih := take_perm (w := r) (k := k) (x := x) (by simpa using h)
    show (x :: a :: r.eraseIdx k).Perm (a :: r)
    exact (List.Perm.swap a x _).trans (ih.cons a)
theorem take_perms : ∀ {ws : List (List α)} {j k : Nat} {w : List α} {x : α}, ws[j]? = some w → w[k]? = some x → (x :: (ws.set j (w.eraseIdx k)).flatten).Perm ws.flatten
  | [], j, k, w, x, h, _ => by simp at h
  | a :: r, 0, k, w, x, h, hx => by
    simp at h
    subst h
    show (x :: (a.eraseIdx k ++ r.flatten)).Perm (a ++ r.flatten)
    exact (take_perm hx).append_right _
  | a :: r, j + 1, k, w, x, h, hx => by
    have ih := take_perms (ws := r) (j := j) (k := k) (w := w) (x := x) (by simpa using h) hx
    show (x :: (a ++ (r.set j (w.eraseIdx k)).flatten)).Perm (a ++ r.flatten)
    exact (List.perm_middle.symm).trans (ih.append_left a)
structure SU (α : Type) where
  ls : List Int
  ws : List (List α)
  dr : List α
def sideU (u : Int) (s : SU α) : Nat := nAt s.ls (u % s.ls.sum)
def placeU (u v : Int) (s : SU α) : Nat := nAt (List.replicate (s.ws.getD (sideU u s) []).length 1) (v % ((s.ws.getD (sideU u s) []).length : Int))
def stepU (u v : Int) (s : SU α) : SU α :=
  ⟨s.ls.set (sideU u s) (s.ls.getD (sideU u s) 0 - 1), s.ws.set (sideU u s) ((s.ws.getD (sideU u s) []).eraseIdx (placeU u v s)), s.dr ++ ((s.ws.getD (sideU u s) [])[placeU u v s]?).toList⟩
def runU (ns : List Int) (p : Nat) (s0 : SU α) : Nat → SU α
  | 0 => s0
  | i + 1 => stepU (ns.getD (p + 2 * i) 0) (ns.getD (p + 2 * i + 1) 0) (runU ns p s0 i)
/-- what holds behind i turns -/
structure OkU (size tot : Int) (i : Nat) (all : List α) (s : SU α) : Prop where
  len : s.ls.length = 2 ∧ s.ws.length = 2
  each : ∀ (j : Nat) (l : Int) (w : List α), s.ls[j]? = some l → s.ws[j]? = some w → 0 ≤ l ∧ (l ≤ w.length ∨ size - i ≤ w.length)
  sum : s.ls.sum = tot - i
  dr : s.dr.length = i
  perm : (s.dr ++ s.ws.flatten).Perm all
theorem OkU.pos {size tot : Int} {i : Nat} {all : List α} {s : SU α} (h : OkU size tot i all s) : ∀ n ∈ s.ls, 0 ≤ n := fun n hn => by
  obtain ⟨j, hj, rfl⟩ := List.getElem_of_mem hn
  have hw : j < s.ws.length := by have := h.len; omega
  exact (h.each j _ _ (List.getElem?_eq_getElem hj) (List.getElem?_eq_getElem hw)).1
/-- one turn -/
structure TurnU (s : SU α) (u v : Int) (sd pl : Nat) (l : Int) (w : List α) (x : α) : Prop where
  side : nAt s.ls (u % s.ls.sum) = sd
  hl : s.ls[sd]? = some l
  lp : 0 < l
  hw : s.ws[sd]? = some w
  wp : 0 < w.length
  place : nAt (List.replicate w.length 1) (v % (w.length : Int)) = pl
  hx : w[pl]? = some x
  to : stepU u v s = ⟨s.ls.set sd (l - 1), s.ws.set sd (w.eraseIdx pl), s.dr ++ [x]⟩
theorem OkU.turn {size tot : Int} {i : Nat} {all : List α} {s : SU α} (h : OkU size tot i all s) (h1 : (i : Int) < size) (h2 : (i : Int) < tot) (u v : Int) : ∃ sd pl l w x, TurnU s u v sd pl l w x ∧ OkU size tot (i + 1) all (stepU u v s) := by
  have hs : 0 < s.ls.sum := by rw [h.sum]; omega
  obtain ⟨l, hl, hp⟩ := nAt_pos h.pos (Int.emod_nonneg u (by omega)) (Int.emod_lt_of_pos u hs)
  have hsd : sideU u s = nAt s.ls (u % s.ls.sum) := rfl
  generalize nAt s.ls (u % s.ls.sum) = sd at hl hsd
  have hsl : sd < s.ls.length := (List.getElem?_eq_some_iff.mp hl).1
  have hsw : sd < s.ws.length := by have := h.len; omega
  obtain ⟨w, hw⟩ : ∃ w, s.ws[sd]? = some w := ⟨_, List.getElem?_eq_getElem hsw⟩
  have he := h.each sd l w hl hw
  have hwl : 0 < w.length := by omega
  have hv0 := Int.emod_nonneg v (show (w.length : Int) ≠ 0 by omega)
  have hv1 := Int.emod_lt_of_pos v (show (0 : Int) < w.length by omega)
  have hpl : nAt (List.replicate w.length 1) (v % (w.length : Int)) < w.length := by rw [nAt_ones hv0 hv1]; omega
  have hgw : s.ws.getD sd [] = w := by rw [List.getD_eq_getElem?_getD, hw]; rfl
  have hgl : s.ls.getD sd 0 = l := by rw [List.getD_eq_getElem?_getD, hl]; rfl
  have hpu : placeU u v s = nAt (List.replicate w.length 1) (v % (w.length : Int)) := by unfold placeU; rw [hsd, hgw]
  generalize nAt (List.replicate w.length 1) (v % (w.length : Int)) = pl at hpl hpu
  obtain ⟨x, hx⟩ : ∃ x, w[pl]? = some x := ⟨_, List.getElem?_eq_getElem hpl⟩
  have hto : stepU u v s = ⟨s.ls.set sd (l - 1), s.ws.set sd (w.eraseIdx pl), s.dr ++ [x]⟩ := by
    unfold stepU
    rw [hsd, hpu, hgl, hgw, hx]; rfl
  refine ⟨sd, pl, l, w, x, ⟨hsd, hl, hp, hw, hwl, hpu ▸ ?_, hx, hto⟩, ?_⟩
  · unfold placeU
    rw [hsd, hgw]
  · rw [hto]
    refine ⟨⟨by rw [List.length_set]; exact h.len.1, by rw [List.length_set]; exact h.len.2⟩, fun j l' w' hl' hw' => ?_, ?_, ?_, ?_⟩
    · by_cases e : j = sd
      · subst e
        rw [List.getElem?_set_self hsl] at hl'
        rw [List.getElem?_set_self hsw] at hw'
        cases hl'
        cases hw'
        rw [List.length_eraseIdx_of_lt hpl]
        omega
      · rw [List.getElem?_set_ne (fun z => e z.symm)] at hl' hw'
        have := h.each j l' w' hl' hw'
        omega
    · show (s.ls.set sd (l - 1)).sum = _
      rw [sum_setI hl, h.sum]; omega
    · show (s.dr ++ [x]).length = _
      rw [List.length_append, h.dr]; rfl
    · show (s.dr ++ [x] ++ _).Perm all
      rw [List.append_assoc]
      exact ((take_perms hw hx).append_left s.dr).trans h.perm
theorem OkU.run {size tot : Int} {all : List α} {s0 : SU α} (ns : List Int) (p : Nat) (h : OkU size tot 0 all s0) : ∀ i : Nat, (i : Int) ≤ size → (i : Int) ≤ tot → OkU size tot i all (runU ns p s0 i)
  | 0, _, _ => h
  | i + 1, h1, h2 => by
    obtain ⟨_, _, _, _, _, _, o⟩ := (OkU.run ns p h i (by omega) (by omega)).turn (by omega) (by omega) (ns.getD (p + 2 * i) 0) (ns.getD (p + 2 * i + 1) 0)
    exact o
/-- a kept part of the first seen -/
structure KeptU (size seen : Int) (ps : List α) : Prop where
  s0 : 0 ≤ seen
  kept : seen ≤ ps.length ∨ size ≤ ps.length
theorem OkU.start {size s1 s2 : Int} {ps qs : List α} (h1 : KeptU size s1 ps) (h2 : KeptU size s2 qs) : OkU size (s1 + s2) 0 (ps ++ qs) ⟨[s1, s2], [ps, qs], []⟩ := by
  refine ⟨⟨rfl, rfl⟩, fun j l w hl hw => ?_, by simp, rfl, by simp⟩
  match j, hl, hw with
  | 0, hl, hw =>
    cases hl
    cases hw
    have := h1.s0
    have := h1.kept
    omega
  | 1, hl, hw =>
    cases hl
    cases hw
    have := h2.s0
    have := h2.kept
    omega
  | j + 2, hl, hw => simp at hl
def turnsU (size tot : Int) : Nat := (if tot < size then tot else size).toNat
def mrgU (ns : List Int) (p : Nat) (size s1 : Int) (ps : List α) (s2 : Int) (qs : List α) : List α := (runU ns p ⟨[s1, s2], [ps, qs], []⟩ (turnsU size (s1 + s2))).dr
theorem mrgU_len {ns : List Int} {p : Nat} {size s1 s2 : Int} {ps qs : List α} (h0 : 0 ≤ size) (h1 : KeptU size s1 ps) (h2 : KeptU size s2 qs) : (mrgU ns p size s1 ps s2 qs).length = turnsU size (s1 + s2) := by
  have a := h1.s0
  have b := h2.s0
  exact ((OkU.start h1 h2).run ns p _ (by unfold turnsU; split <;> omega) (by unfold turnsU; split <;> omega)).dr
theorem mrgU_sub {ns : List Int} {p : Nat} {size s1 s2 : Int} {ps qs : List α} (h0 : 0 ≤ size) (h1 : KeptU size s1 ps) (h2 : KeptU size s2 qs) : ∃ r, (mrgU ns p size s1 ps s2 qs ++ r).Perm (ps ++ qs) := by
  have a := h1.s0
  have b := h2.s0
  exact ⟨_, ((OkU.start h1 h2).run ns p _ (by unfold turnsU; split <;> omega) (by unfold turnsU; split <;> omega)).perm⟩
end draw2
theorem map_erase {α β : Type} (f : α → β) : ∀ (l : List α) (k : Nat), (l.map f).eraseIdx k = (l.eraseIdx k).map f
  | [], _ => rfl
  | _ :: _, 0 => rfl
  | a :: r, k + 1 => by
    show f a :: (r.map f).eraseIdx k = _
    rw [map_erase f r k]; rfl

/-! ### drawing by weights from several lists, in their order -/
section draw20
variable {α : Type} (wt : α → Int)
def stepW (u : Int) (s : SU α) : SU α :=
  match s.ws.getD (sideU u s) [] with
  | [] => s
  | x :: w => ⟨s.ls.set (sideU u s) (s.ls.getD (sideU u s) 0 - wt x), s.ws.set (sideU u s) w, s.dr ++ [x]⟩
def runW (ns : List Int) (p : Nat) (s0 : SU α) : Nat → SU α
  | 0 => s0
  | i + 1 => if 0 < (runW ns p s0 i).ls.sum then stepW wt (ns.getD (p + (runW ns p s0 i).dr.length) 0) (runW ns p s0 i) else runW ns p s0 i
structure OkW (size tot : Int) (all : List α) (s : SU α) : Prop where
  len : s.ls.length = 2 ∧ s.ws.length = 2
  each : ∀ (j : Nat) (l : Int) (w : List α), s.ls[j]? = some l → s.ws[j]? = some w → (w.map wt).sum ≤ l ∧ (l = (w.map wt).sum ∨ size - s.dr.length ≤ w.length)
  sum : s.ls.sum + (s.dr.map wt).sum = tot
  perm : (s.dr ++ s.ws.flatten).Perm all
variable {wt}
theorem wsum_pos {w : List α} (h : ∀ x ∈ w, 1 ≤ wt x) : (w.length : Int) ≤ (w.map wt).sum := by
  induction w with
  | nil => simp
  | cons x r ih =>
    have h1 := h x (by simp)
    have h2 := ih fun y hy => h y (by simp [hy])
    rw [List.map_cons, List.sum_cons, List.length_cons]
    omega
theorem OkW.wpos {size tot : Int} {all : List α} {s : SU α} (h : OkW wt size tot all s) (hw : ∀ x ∈ all, 1 ≤ wt x) {j : Nat} {w : List α} (e : s.ws[j]? = some w) : ∀ x ∈ w, 1 ≤ wt x := fun x hx =>
  hw x (h.perm.mem_iff.mp (List.mem_append_right _ (List.mem_flatten.mpr ⟨w, List.mem_of_getElem? e, hx⟩)))
theorem OkW.pos {size tot : Int} {all : List α} {s : SU α} (h : OkW wt size tot all s) (hw : ∀ x ∈ all, 1 ≤ wt x) : ∀ n ∈ s.ls, 0 ≤ n := fun n hn => by
  obtain ⟨j, hj, rfl⟩ := List.getElem_of_mem hn
  have hjw : j < s.ws.length := by have := h.len; omega
  have h1 := (h.each j _ _ (List.getElem?_eq_getElem hj) (List.getElem?_eq_getElem hjw)).1
  have h2 := wsum_pos (h.wpos hw (List.getElem?_eq_getElem hjw))
  omega
theorem sum_nn20 {ls : List Int} (h : ∀ n ∈ ls, 0 ≤ n) : 0 ≤ ls.sum := by
  induction ls with
  | nil => simp
  | cons a r ih =>
    have h1 := h a (by simp)
    have h2 := ih fun n hn => h n (by simp [hn])
    rw [List.sum_cons]; omega
structure TurnW (s : SU α) (u : Int) (sd : Nat) (l : Int) (x : α) (w : List α) : Prop where
  side : nAt s.ls (u % s.ls.sum) = sd
  hl : s.ls[sd]? = some l
  hw : s.ws[sd]? = some (x :: w)
  to : stepW wt u s = ⟨s.ls.set sd (l - wt x), s.ws.set sd w, s.dr ++ [x]⟩
theorem OkW.turn {size tot : Int} {all : List α} {s : SU α} (h : OkW wt size tot all s) (hpos : ∀ x ∈ all, 1 ≤ wt x) (h1 : (s.dr.length : Int) < size) (hs : 0 < s.ls.sum) (u : Int) : ∃ sd l x w, TurnW (wt := wt) s u sd l x w ∧ OkW wt size tot all (stepW wt u s) := by
  obtain ⟨l, hl, hp⟩ := nAt_pos (h.pos hpos) (Int.emod_nonneg u (by omega)) (Int.emod_lt_of_pos u hs)
  have hsd : sideU u s = nAt s.ls (u % s.ls.sum) := rfl
  generalize nAt s.ls (u % s.ls.sum) = sd at hl hsd
  have hsl : sd < s.ls.length := (List.getElem?_eq_some_iff.mp hl).1
  have hsw : sd < s.ws.length := by have := h.len; omega
  obtain ⟨w0, hw0⟩ : ∃ w, s.ws[sd]? = some w := ⟨_, List.getElem?_eq_getElem hsw⟩
  have he := h.each sd l w0 hl hw0
  cases w0 with
  | nil =>
    rw [List.map_nil, List.sum_nil, List.length_nil] at he
    omega
  | cons x w =>
    have hgw : s.ws.getD sd [] = x :: w := by rw [List.getD_eq_getElem?_getD, hw0]; rfl
    have hgl : s.ls.getD sd 0 = l := by rw [List.getD_eq_getElem?_getD, hl]; rfl
    have hto : stepW wt u s = ⟨s.ls.set sd (l - wt x), s.ws.set sd w, s.dr ++ [x]⟩ := by
      unfold stepW
      rw [hsd, hgw, hgl]
    refine ⟨sd, l, x, w, ⟨hsd, hl, hw0, hto⟩, ?_⟩
    rw [hto]
    rw [List.map_cons, List.sum_cons, List.length_cons] at he
    refine ⟨⟨by rw [List.length_set]; exact h.len.1, by rw [List.length_set]; exact h.len.2⟩, fun j l' w' hl' hw' => ?_, ?_, ?_⟩
    · rw [List.length_append, List.length_singleton]
      by_cases e : j = sd
      · subst e
        rw [List.getElem?_set_self hsl] at hl'
        rw [List.getElem?_set_self hsw] at hw'
        cases hl'
        cases hw'
        omega
      · rw [List.getElem?_set_ne (fun z => e z.symm)] at hl' hw'
        have := h.each j l' w' hl' hw'
        omega
    · show (s.ls.set sd (l - wt x)).sum + ((s.dr ++ [x]).map wt).sum = tot
      rw [sum_setI hl, List.map_append, List.sum_append]
      have := h.sum
      simp
      omega
    · show (s.dr ++ [x] ++ _).Perm all
      rw [List.append_assoc]
      exact ((take_perms (k := 0) hw0 rfl).append_left s.dr).trans h.perm
theorem OkW.run {size tot : Int} {all : List α} {s0 : SU α} (ns : List Int) (p : Nat) (h : OkW wt size tot all s0) (h0 : s0.dr.length = 0) (hpos : ∀ x ∈ all, 1 ≤ wt x) : ∀ i : Nat, (i : Int) ≤ size → OkW wt size tot all (runW wt ns p s0 i) ∧ (runW wt ns p s0 i).dr.length ≤ i ∧ (0 < (runW wt ns p s0 i).ls.sum → (runW wt ns p s0 i).dr.length = i)
  | 0, _ => ⟨h, Nat.le_of_eq h0, fun _ => h0⟩
  | i + 1, h1 => by
    obtain ⟨o, hd, hs⟩ := OkW.run ns p h h0 hpos i (by omega)
    by_cases c : 0 < (runW wt ns p s0 i).ls.sum
    · obtain ⟨sd, l, x, w, tn, o'⟩ := o.turn hpos (by omega) c (ns.getD (p + (runW wt ns p s0 i).dr.length) 0)
      have e : runW wt ns p s0 (i + 1) = stepW wt (ns.getD (p + (runW wt ns p s0 i).dr.length) 0) (runW wt ns p s0 i) := if_pos c
      rw [e]
      refine ⟨o', ?_, fun _ => ?_⟩
      · rw [tn.to, List.length_append, List.length_singleton]; omega
      · rw [tn.to, List.length_append, List.length_singleton, hs c]
    · have e : runW wt ns p s0 (i + 1) = runW wt ns p s0 i := if_neg c
      rw [e]
      exact ⟨o, by omega, fun c' => absurd c' c⟩
theorem runW_idle {ns : List Int} {p : Nat} {s0 : SU α} {i : Nat} (h : ¬ 0 < (runW wt ns p s0 i).ls.sum) : ∀ k, runW wt ns p s0 (i + k) = runW wt ns p s0 i
  | 0 => rfl
  | k + 1 => by
    have ih := runW_idle h k
    show (if 0 < (runW wt ns p s0 (i + k)).ls.sum then _ else runW wt ns p s0 (i + k)) = _
    rw [ih, if_neg h]
variable (wt) in
/-- a kept part by weights -/
structure KeptW (size total : Int) (ps : List α) : Prop where
  le : (ps.map wt).sum ≤ total
  kept : total = (ps.map wt).sum ∨ size ≤ ps.length
theorem OkW.start {size t1 t2 : Int} {ps qs : List α} (h1 : KeptW wt size t1 ps) (h2 : KeptW wt size t2 qs) : OkW wt size (t1 + t2) (ps ++ qs) ⟨[t1, t2], [ps, qs], []⟩ := by
  refine ⟨⟨rfl, rfl⟩, fun j l w hl hw => ?_, by simp, by simp⟩
  match j, hl, hw with
  | 0, hl, hw =>
    cases hl
    cases hw
    have := h1.le
    have := h1.kept
    simp
    omega
  | 1, hl, hw =>
    cases hl
    cases hw
    have := h2.le
    have := h2.kept
    simp
    omega
  | j + 2, hl, hw => simp at hl
variable (wt) in
def mrgW (ns : List Int) (p : Nat) (size t1 : Int) (ps : List α) (t2 : Int) (qs : List α) : List α := (runW wt ns p ⟨[t1, t2], [ps, qs], []⟩ size.toNat).dr
theorem mrgW_all {ns : List Int} {p : Nat} {size t1 t2 : Int} {ps qs : List α} (h0 : 0 ≤ size) (h1 : KeptW wt size t1 ps) (h2 : KeptW wt size t2 qs) (hpos : ∀ x ∈ ps ++ qs, 1 ≤ wt x) :
    ((mrgW wt ns p size t1 ps t2 qs).length : Int) ≤ size ∧ KeptW wt size (t1 + t2) (mrgW wt ns p size t1 ps t2 qs) ∧ ∃ r, (mrgW wt ns p size t1 ps t2 qs ++ r).Perm (ps ++ qs) := by
  obtain ⟨o, hd, hs⟩ := (OkW.start h1 h2).run ns p rfl hpos size.toNat (by omega)
  have hn := sum_nn20 (o.pos hpos)
  have hsum := o.sum
  unfold mrgW
  refine ⟨by omega, ⟨by omega, ?_⟩, _, o.perm⟩
  by_cases c : 0 < (runW wt ns p ⟨[t1, t2], [ps, qs], []⟩ size.toNat).ls.sum
  · right
    rw [hs c]
    omega
  · left
    omega
end draw20

/-! ### rows in order -/
def leR (x y : Addr × Row) : Bool := PySem.W.dataLe false (fun z : Addr × Row => rowD z.2) x y
def sortR (ps : List (Addr × Row)) : List (Addr × Row) := ps.mergeSort leR
theorem sortR_perm (ps : List (Addr × Row)) : (sortR ps).Perm ps := List.mergeSort_perm _ _
theorem sortR_len (ps : List (Addr × Row)) : (sortR ps).length = ps.length := (sortR_perm ps).length_eq
theorem sortR_refs (ps : List (Addr × Row)) : ((ps.map fun x => (V.ref x.1, rowD x.2)).mergeSort (PySem.W.dataLe false Prod.snd)).map Prod.fst = refs (sortR ps) := by
  rw [← List.map_mergeSort (r := leR) (s := PySem.W.dataLe false Prod.snd) (f := fun x : Addr × Row => (V.ref x.1, rowD x.2)) (fun _ _ _ _ => rfl), List.map_map]
  rfl
theorem RowsAt.perm {H : Hp} {ps qs : List (Addr × Row)} (h : qs.Perm ps) (r : RowsAt H ps) : RowsAt H qs := fun x hx => r x (h.mem_iff.mp hx)
theorem sortedRows {K : PySem.W.Frag} {H : Hp} {Q : VK} {a : Addr} {ps : List (Addr × Row)} (h : SqL K H a (refs ps)) (r : RowsAt H ps) (q : ∀ p H1, H p = none → Kp [] H H1 → H1 p = some (.lst (refs (sortR ps))) → Q (.ref p) H1) : RL.rSortedD K [.ref a] H Q := by
  refine ⟨a, ps.map fun x => (V.ref x.1, rowD x.2), rfl, by rw [List.map_map]; exact h, ?_, ?_, ?_, ?_, fun p np => ?_⟩
  · intro b hb
    obtain ⟨x, hx, rfl⟩ := List.mem_map.mp hb
    exact dpRow (r x hx)
  · rw [List.map_map]
    exact PySem.W.AllAlike.of fun _ _ => by simp [PySem.W.alike, PySem.W.alikeAll, rowD]
  · rw [List.map_map]
    exact PySem.W.Sortable.tuples fun _ => ⟨_, _, rfl⟩
  · intro b hb
    obtain ⟨x, hx, rfl⟩ := List.mem_map.mp hb
    show (rowD x.2).depth ≤ 60
    rw [rowD_depth]; decide
  · rw [sortR_refs]
    exact q p _ np (Kp.new np) upd_same

theorem made_new {H H7 H8 : Hp} {C z dz kk : Addr} (k7 : Kp [] H H7) (nz : H7 z = none) (ndz : H7 dz = none) (hdz : dz ≠ z) (nkk : (upd (upd H7 dz (.own z)) z (.ins C dz [])) kk = none) (k8 : Kp [z] (upd (upd H7 dz (.own z)) z (.ins C dz [])) H8) : H z = none ∧ H kk = none ∧ Kp [] H7 H8 := by
  have kz : Kp [] H7 (upd (upd H7 dz (.own z)) z (.ins C dz [])) := Kp.made nz ndz
  refine ⟨k7.none nin0 nz, k7.none nin0 ?_, fun b o _ e => k8 b o (by
    intro q
    rw [List.mem_singleton.mp q, nz] at e
    cases e) (kz b o (by simp) e)⟩
  rw [upd_ne (fun e => by rw [e, upd_same] at nkk; cases nkk), upd_ne (fun e => by rw [e, upd_same] at nkk; cases nkk)] at nkk
  exact nkk

/-! ### Weighted.merge -/
def wR (x : Addr × Row) : Int := x.2.w
def spMerge (K : PySem.W.Frag) (C CT CS CW : Addr) : Sp := fun vs H Q E => ∃ (x k y m t l : Addr) (size s1 size2 s2 : Int) (ps qs : List (Addr × Row)) (ns : List Int) (p : Nat), vs = [.ref x, .ref y, .ref t] ∧ UniAt C H x k size s1 ps ∧ UniAt C H y m size2 s2 qs ∧ RowsAt H ps ∧ RowsAt H qs ∧ (∀ z ∈ ps, RowS z.2) ∧ (∀ z ∈ qs, RowS z.2) ∧ ps.length ≤ 100 ∧ qs.length ≤ 100 ∧
  (size2 ≠ size → E (.ref CW) none H) ∧ (size2 = size → ∀ s, twice (sortS (keysOf [ps, qs])) = some s → ∀ H' d, Kp [] H H' → H' d = none → E (.ref CS) (some d) (upd H' d (.xd (flF "key" [.str s])))) ∧
  (size2 = size → twice (sortS (keysOf [ps, qs])) = none → TapeAt CT H t l ns p ∧ 1 ≤ size ∧ size ≤ 30 ∧ KeptW wR size s1 ps ∧ KeptW wR size s2 qs ∧ (∀ z ∈ ps ++ qs, 1 ≤ wR z) ∧ ∀ H' z kz, H z = none → H kz = none → Kp [t] H H' → TapeAt CT H' t l ns (p + (mrgW wR ns p size s1 ps s2 qs).length) → UniAt C H' z kz size (s1 + s2) (mrgW wR ns p size s1 ps s2 qs) → Q (.ref z) H')
theorem TapeAt.kp0 {C : Addr} {H H' : Hp} {x l : Addr} {ns : List Int} {k : Nat} (h : TapeAt C H x l ns k) (kk : Kp [] H H') : TapeAt C H' x l ns k := let ⟨⟨dx, h1⟩, h2⟩ := h; ⟨⟨dx, kk.get nin0 h1⟩, kk.get nin0 h2⟩
theorem TapeAt.put {C : Addr} {H : Hp} {x l b : Addr} {o : HO} {ns : List Int} {k : Nat} (h : TapeAt C H x l ns k) (h1 : b ≠ x) (h2 : b ≠ l) : TapeAt C (upd H b o) x l ns k := let ⟨⟨dx, e1⟩, e2⟩ := h; ⟨⟨dx, (upd_ne h1.symm).trans e1⟩, (upd_ne h2.symm).trans e2⟩
theorem TapeAt.ne {C : Addr} {H : Hp} {x l b : Addr} {ns : List Int} {k : Nat} (h : TapeAt C H x l ns k) (n : H b = none) : b ≠ x ∧ b ≠ l := by
  obtain ⟨⟨dx, e1⟩, e2⟩ := h
  exact ⟨(ne_of_none e1 n).symm, (ne_of_none e2 n).symm⟩
theorem ok_Weighted_merge {P : Program} {w : World} {K : PySem.W.Frag} {mg : Str → Option Value} {base : Heap} (T : T P K mg) : FnOk P w K mg base (L2.CX P w) 5 T.a_Weighted_merge T.fd_Weighted_merge ["self", "other", "dice"] (spMerge K T.C_Weighted T.C_Tape T.C_SharedKey T.C_WrongKind) := by
  refine T.F_Weighted_merge.okX sc_Weighted_merge (fun vs H Q E h => ?_) (fun cdv A outer s H vs Q E hr h => ?_)
  · obtain ⟨_, _, _, _, _, _, _, _, _, _, _, _, _, _, rfl, _⟩ := h
    rfl
  · obtain ⟨x, k, y, m, t, l, size, s1, size2, s2, ps, qs, ns, p, rfl, hU, hV, hps, hqs, hpS, hqS, hpn, hqn, ew, ek, q⟩ := h
    refine ⟨_, (pss_cons (ps_expr (pe_call (ok_check_merge T) (hr.mono (by decide)) (by rfl) T.g_check_merge T.F_check_merge.kp T.b_check_merge .nil (passes_call (takes_of rfl rfl rfl rfl) (fun _ _ _ _ h => h)) (pa_cons (pv 0) (pa_cons (pv 1) pa_nil))))
      (pss_cons (ps_set (i := 3) sc_Weighted_merge.nd rfl (by first | exact Or.inl rfl | exact Or.inr rfl) (pe_lst (pa_cons (pe_fld (pv 0) rfl) (pa_cons (pe_fld (pv 1) rfl) pa_nil))))
      (pss_cons (ps_set (i := 4) sc_Weighted_merge.nd rfl (by first | exact Or.inl rfl | exact Or.inr rfl) (pe_lst (pa_cons (pe_callTy c_list (by rfl) T.z_list (by decide +kernel) (pa_cons (pe_fld (pv 0) rfl) pa_nil)) (pa_cons (pe_callTy c_list (by rfl) T.z_list (by decide +kernel) (pa_cons (pe_fld (pv 1) rfl) pa_nil)) pa_nil))))
      (pss_cons (ps_set (i := 5) sc_Weighted_merge.nd rfl (by first | exact Or.inl rfl | exact Or.inr rfl) (pe_lst pa_nil))
      (pss_cons (ps_while (passes_of rfl) (PW.pt (pw_and (pt_cmpR op_lt (pe_callB c_len (by rfl) T.z_len (by decide +kernel) (pa_cons (pv 5) pa_nil)) (pe_fld (pv 0) rfl) (nomark _)) (pw_and1 (pt_cmpR op_gt (pe_callB (cr_sum rfl) (by rfl) T.z_sum (by decide +kernel) (pa_cons (pv 3) pa_nil)) pe_int (nomark _))))) (pss_cons (ps_set (i := 6) sc_Weighted_merge.nd rfl (by first | exact Or.inl rfl | exact Or.inr rfl) (pe_meth (pv 2) T.cl_Tape T.me_Tape_pick (ok_Tape_pick T) (hr.mono (by decide)) T.b_Tape_pick .nil pass0 (pa_cons (pe_callTy c_list (by rfl) T.z_list (by decide +kernel) (pa_cons (pv 3) pa_nil)) pa_nil)))
      (pss_cons (ps_set (i := 7) sc_Weighted_merge.nd rfl (by first | exact Or.inl rfl | exact Or.inr rfl) (pe_bm PySem.F.plainAttrs_list PySem.F.slot_list_pop PySem.F.type_list_pop mt_popAt (pe_ix ix_list (pv 4) (pv 6) (fun _ _ => rfl)) (pa_cons pe_int pa_nil)))
      (pss_cons (ps_augS (pv 3) (pv 6) Z.pget_list (pe_ix ix_tup (pv 7) pe_int (fun _ _ => rfl)) ip_sub set_list)
      (pss_one (ps_expr (pe_bm PySem.F.plainAttrs_list PySem.F.slot_list_append PySem.F.type_list_append mt_append (pv 5) (pa_cons (pv 7) pa_nil))))))))
      (pss_one (ps_ret (pe_make T.mk_Weighted (ok_Weighted_init T) (hr.mono (by decide)) (by rfl) T.mg_Weighted T.b_Weighted_init .nil pass0 (pa_cons (pe_fld (pv 0) rfl) (pa_cons (pe_op op_add (pe_fld (pv 0) rfl) (pe_fld (pv 1) rfl)) (pa_cons (pv 5) pa_nil))))))))))), ?_⟩
    walk_at "z0"
    walk_at "z"
    refine ⟨x, k, y, m, size, s1, size2, s2, ps, qs, rfl, hU, hV, hps, hqs, hpS, hqS, hpn, hqn, ew, fun h2 ht H1 k1 => ?_, ek⟩
    obtain ⟨hT, hz0, hz1, hK1, hK2, hpos, q⟩ := q h2 ht
    subst h2
    replace hU := hU.kp0 k1
    replace hV := hV.kp0 k1
    replace hps := hps.kp0 k1
    replace hqs := hqs.kp0 k1
    replace hT := hT.kp0 k1
    obtain ⟨⟨dx, hx⟩, hk⟩ := id hU
    obtain ⟨⟨dy, hy⟩, hm⟩ := id hV
    walk_at "z"
    refine ⟨x, _, dx, _, _, rfl, hx, T.cl_Weighted, T.na_Weighted_total, uf_total size2 s1 k, ?_⟩
    walk_at "z"
    refine ⟨y, _, dy, _, _, rfl, hy, T.cl_Weighted, T.na_Weighted_total, uf_total size2 s2 m, ?_⟩
    walk_at "z"
    refine Z.lstK (fun L H2 nL k2 eL => ?_)
    walk_at "z"
    refine ⟨x, _, dx, _, _, rfl, k2.get nin0 hx, T.cl_Weighted, T.na_Weighted_kept, uf_kept size2 s1 k, ?_⟩
    walk_at "z"
    refine Z.listL (lstL (k2.get nin0 hk)) (fun A0 H3 n0 k3 e0 => ?_)
    walk_at "z"
    refine ⟨y, _, dy, _, _, rfl, (k2.trans k3).get nin0 hy, T.cl_Weighted, T.na_Weighted_kept, uf_kept size2 s2 m, ?_⟩
    walk_at "z"
    refine Z.listL (lstL ((k2.trans k3).get nin0 hm)) (fun A1 H4 n1 k4 e1 => ?_)
    walk_at "z"
    refine Z.lstK (fun W H5 nW k5 eW => ?_)
    walk_at "z"
    refine Z.lstK (fun D H6 nD k6 eD => ?_)
    have k26 := ((k2.trans k3).trans (k4.trans k5)).trans k6
    have k16 := k1.trans k26
    have hT6 := hT.kp0 k26
    have eL6 := ((k3.trans k4).trans (k5.trans k6)).get nin0 eL
    have e06 := ((k4.trans k5).trans k6).get nin0 e0
    have e16 := (k5.trans k6).get nin0 e1
    have eW6 := k6.get nin0 eW
    have tL := (hT.ne nL)
    have t0 := ((hT.kp0 k2).ne n0)
    have t1 := ((hT.kp0 (k2.trans k3)).ne n1)
    have tW := ((hT.kp0 ((k2.trans k3).trans k4)).ne nW)
    have tD := ((hT.kp0 ((k2.trans k3).trans (k4.trans k5))).ne nD)
    have d0L : A0 ≠ L := (ne_of_none eL n0).symm
    have d1L : A1 ≠ L := (ne_of_none (k3.get nin0 eL) n1).symm
    have dWL : W ≠ L := (ne_of_none ((k3.trans k4).get nin0 eL) nW).symm
    have dDL : D ≠ L := (ne_of_none (((k3.trans k4).trans k5).get nin0 eL) nD).symm
    have d10 : A1 ≠ A0 := (ne_of_none e0 n1).symm
    have dW0 : W ≠ A0 := (ne_of_none (k4.get nin0 e0) nW).symm
    have dD0 : D ≠ A0 := (ne_of_none ((k4.trans k5).get nin0 e0) nD).symm
    have dW1 : W ≠ A1 := (ne_of_none e1 nW).symm
    have dD1 : D ≠ A1 := (ne_of_none (k5.get nin0 e1) nD).symm
    have dDW : D ≠ W := (ne_of_none eW nD).symm
    have st : OkW wR size2 (s1 + s2) (ps ++ qs) ⟨[s1, s2], [ps, qs], []⟩ := OkW.start hK1 hK2
    have oz0 : H L = none := k1.none nin0 nL
    obtain ⟨sz, hsz⟩ : ∃ n : Nat, size2 = (n : Int) := ⟨size2.toNat, by omega⟩
    have hx6 := k26.get nin0 hx
    have hxt : x ≠ t := by
      intro z
      obtain ⟨⟨dt, e⟩, _⟩ := hT6
      rw [← z, hx6] at e
      simp [uf, tf] at e
    have nlx : ∀ b, (∃ o, H6 b = some (.lst o)) → b ≠ x := fun b ⟨o, e⟩ z => by rw [z, hx6] at e; cases e
    walk_at "z"
    refine Z.wh (fun mm σ' H' => ∃ (s : SU (Addr × Row)) (j : Nat) (y1 y2 : Option V), s = runW wR ns p ⟨[s1, s2], [ps, qs], []⟩ j ∧ s.dr.length = j ∧ j ≤ sz ∧ mm = sz - j ∧ OkW wR size2 (s1 + s2) (ps ++ qs) s ∧ σ' = [some (.ref x), some (.ref y), some (.ref t), some (.ref L), some (.ref W), some (.ref D), y1, y2] ∧ Kp [t, L, A0, A1, W, D] H6 H' ∧ TapeAt T.C_Tape H' t l ns (p + j) ∧ H' L = some (.lst (s.ls.map V.int)) ∧ H' W = some (.lst [.ref A0, .ref A1]) ∧ (∀ (j : Nat) (A : Addr) (w : List (Addr × Row)), [A0, A1][j]? = some A → s.ws[j]? = some w → H' A = some (.lst (refs w))) ∧ H' D = some (.lst (refs s.dr))) sz ?_ ?_
    · refine ⟨_, 0, none, none, rfl, rfl, by omega, by omega, st, rfl, Kp.refl _, hT6, eL6, eW6, fun j A w hA hw => ?_, eD⟩
      match j, hA, hw with
      | 0, hA, hw => cases hA; cases hw; exact e06
      | 1, hA, hw => cases hA; cases hw; exact e16
      | j + 2, hA, hw => simp at hA
    · rintro mm σ' Hi ⟨s, j, y1, y2, hs, hdr, hj, rfl, ok, rfl, ki, Ti, eLi, eWi, eAi, eDi⟩
      have hxi : Hi x = some (.ins T.C_Weighted dx (uf size2 s1 k)) := ki.get (by simp [hxt, (nlx L ⟨_, eL6⟩).symm, (nlx A0 ⟨_, e06⟩).symm, (nlx A1 ⟨_, e16⟩).symm, (nlx W ⟨_, eW6⟩).symm, (nlx D ⟨_, eD⟩).symm]) hx6
      have hy6 := k26.get nin0 hy
      have hyt : y ≠ t := by
        intro z
        obtain ⟨⟨dt, e⟩, _⟩ := hT6
        rw [← z, hy6] at e
        simp [uf, tf] at e
      have nly : ∀ b, (∃ o, H6 b = some (.lst o)) → b ≠ y := fun b ⟨o, e⟩ z => by rw [z, hy6] at e; cases e
      have hyi : Hi y = some (.ins T.C_Weighted dy (uf size2 s2 m)) := ki.get (by simp [hyt, (nly L ⟨_, eL6⟩).symm, (nly A0 ⟨_, e06⟩).symm, (nly A1 ⟨_, e16⟩).symm, (nly W ⟨_, eW6⟩).symm, (nly D ⟨_, eD⟩).symm]) hy6
      have fin : (¬ ((j : Int) < size2) ∨ ¬ 0 < s.ls.sum) → (∃ kz : Unit, True) → s.dr = mrgW wR ns p size2 s1 ps s2 qs := fun h _ => by
        unfold mrgW
        rw [hs]
        have hn : size2.toNat = sz := by omega
        rw [hn]
        rcases h with h | h
        · have : j = sz := by omega
          rw [this]
        · rw [hs] at h
          rw [show sz = j + (sz - j) by omega, runW_idle h]
      walk_at "z"
      refine Z.lenL (lstL eDi) ?_
      rw [refs_len, hdr]
      walk_at "z"
      refine ⟨x, _, dx, _, _, rfl, hxi, T.cl_Weighted, T.na_Weighted_size, uf_size size2 s1 k, ?_⟩
      walk_at "z"
      have done : ∀ (hd : s.dr = mrgW wR ns p size2 s1 ps s2 qs), tRet (tMake T.C_Weighted (spUInit K T.C_Weighted) [] E0 (tCons (tFld K (tVar 0) ("size" : Str)) (tCons (tOp (rI0 fun i j => V.int (i + j)) (tFld K (tVar 0) ("total" : Str)) (tFld K (tVar 1) ("total" : Str))) (tCons (tVar 5) tNil)))) { nx := fun x H' => Q V.non H', rt := Q } [some (.ref x), some (.ref y), some (.ref t), some (.ref L), some (.ref W), some (.ref D), y1, y2] Hi := by
        intro hd
        walk_at "z"
        refine ⟨x, _, dx, _, _, rfl, hxi, T.cl_Weighted, T.na_Weighted_size, uf_size size2 s1 k, ?_⟩
        walk_at "z"
        refine ⟨x, _, dx, _, _, rfl, hxi, T.cl_Weighted, T.na_Weighted_total, uf_total size2 s1 k, ?_⟩
        walk_at "z"
        refine ⟨y, _, dy, _, _, rfl, hyi, T.cl_Weighted, T.na_Weighted_total, uf_total size2 s2 m, ?_⟩
        walk_at "z"
        have k6i : Kp [t, L, A0, A1, W, D] H Hi := (k16.sub (by simp)).trans ki
        have nH : ∀ {b : Addr}, Hi b = none → H b = none := fun {b} hb => k6i.none (by
          intro z
          simp at z
          obtain ⟨⟨dt, et⟩, _⟩ := Ti
          rcases z with z | z | z | z | z | z
          · rw [z, et] at hb; cases hb
          · rw [z, eLi] at hb; cases hb
          · rw [z, eAi 0 A0 _ rfl (List.getElem?_eq_getElem (show 0 < s.ws.length by have := ok.len; omega))] at hb; cases hb
          · rw [z, eAi 1 A1 _ rfl (List.getElem?_eq_getElem (show 1 < s.ws.length by have := ok.len; omega))] at hb; cases hb
          · rw [z, eWi] at hb; cases hb
          · rw [z, eDi] at hb; cases hb) hb
        intro z dz nz ndz hdz
        refine ⟨z, D, dz, size2, s1 + s2, s.dr, rfl, upd_same, (Kp.made (M := []) nz ndz).get nin0 eDi, fun H8 kk nkk k8 hU8 => ⟨rfl, ?_⟩⟩
        obtain ⟨hz1, hk1, kzz⟩ := made_new (Kp.refl _) nz ndz hdz nkk k8
        have kf : Kp [t, L, A0, A1, W, D] H H8 := k6i.trans (kzz.sub (by simp))
        have kf2 : Kp [t] H H8 := fun b o nb e => kf b o (by
          intro z
          simp at z nb
          rcases z with z | z | z | z | z | z
          · exact nb z
          · rw [z, oz0] at e; cases e
          · rw [z, k1.none nin0 (k2.none nin0 n0)] at e; cases e
          · rw [z, k1.none nin0 ((k2.trans k3).none nin0 n1)] at e; cases e
          · rw [z, k1.none nin0 (((k2.trans k3).trans k4).none nin0 nW)] at e; cases e
          · rw [z, k1.none nin0 (((k2.trans k3).trans (k4.trans k5)).none nin0 nD)] at e; cases e) e
        rw [hd] at hU8
        have hj2 : j = (mrgW wR ns p size2 s1 ps s2 qs).length := by rw [← hd, hdr]
        rw [hj2] at Ti
        exact q H8 z kk (nH hz1) (nH hk1) kf2 (Ti.kp0 kzz) hU8
      refine Z.ite (fun c1 => ?_) (fun c1 => ?_)
      · walk_at "z"
        refine Z.sumL (lstL eLi) ?_
        walk_at "z"
        refine Z.ite (fun c2 => ?_) (fun c2 => ?_)
        · refine Z.whb ?_
          have hj1 : (s.dr.length : Int) < size2 := by rw [hdr]; exact c1
          obtain ⟨sd, lf, z, w, tn, ok'⟩ := ok.turn hpos hj1 c2 (ns.getD (p + j) 0)
          have hsl := (List.getElem?_eq_some_iff.mp tn.hl).1
          have hl2 := ok.len
          obtain ⟨A, hA⟩ : ∃ A, [A0, A1][sd]? = some A := ⟨_, List.getElem?_eq_getElem (show sd < 2 by omega)⟩
          have eA := eAi sd A (z :: w) hA tn.hw
          have hAm : A = A0 ∨ A = A1 := by
            have := List.mem_of_getElem? hA
            simpa using this
          have hAt : A ≠ t := by rcases hAm with e | e <;> rw [e]; exact t0.1; exact t1.1
          have hDA : D ≠ A := by rcases hAm with e | e <;> rw [e]; exact dD0; exact dD1
          have hAL : A ≠ L := by rcases hAm with e | e <;> rw [e]; exact d0L; exact d1L
          have hWA : W ≠ A := by rcases hAm with e | e <;> rw [e]; exact dW0; exact dW1
          have hAl : A ≠ l := by rcases hAm with e | e <;> rw [e]; exact t0.2; exact t1.2
          have hWx : atI [V.ref A0, V.ref A1] (sd : Int) = some (.ref A) := atI_nat (by match sd, hA with | 0, hA => (cases hA; rfl) | 1, hA => (cases hA; rfl) | j + 2, hA => simp at hA)
          have hzm : z ∈ ps ++ qs := ok.perm.mem_iff.mp (List.mem_append_right _ (List.mem_flatten.mpr ⟨z :: w, List.mem_of_getElem? tn.hw, by simp⟩))
          have hz6 : RowAt H6 z.1 z.2 := by
            rcases List.mem_append.mp hzm with h | h
            · exact (hps.kp0 k26) z h
            · exact (hqs.kp0 k26) z h
          have hzi : RowAt Hi z.1 z.2 := ki.get (by
            have this := hz6
            unfold RowAt at this
            intro y
            simp at y
            rcases y with y | y | y | y | y | y
            · obtain ⟨⟨dt, e⟩, _⟩ := hT6
              rw [y, e] at this; cases this
            · rw [y, eL6] at this; cases this
            · rw [y, e06] at this; cases this
            · rw [y, e16] at this; cases this
            · rw [y, eW6] at this; cases this
            · rw [y, eD] at this; cases this) hz6
          obtain ⟨⟨dt, et⟩, el⟩ := id Ti
          walk_at "z"
          refine ⟨t, dt, _, rfl, et, tf_pick _ _, ?_⟩
          walk_at "z"
          refine Z.listL (lstL eLi) (fun P1 G1 nP1 j1 f1 => ?_)
          walk_at "z"
          refine ⟨t, P1, l, ns, s.ls, p + j, rfl, Ti.kp0 j1, lstL f1, ⟨ok.pos hpos, c2⟩, fun G2 j2 T2 => ?_⟩
          rw [tn.side]
          have jall : Kp [t] Hi G2 := (j1.sub (by simp)).trans j2
          have jT : ∀ {b : Addr} {o : HO}, b ≠ t → Hi b = some o → G2 b = some o := fun hb e => jall.get (nin1 hb) e
          walk_at "z"
          refine Z.ixL (lstL (jT tW.1 eWi)) hWx ?_
          have eA2 := jT hAt eA
          refine ⟨Z.tyL eA2, ?_⟩
          walk_at "z"
          refine ⟨A, refs (z :: w), 0, 0, .ref z.1, rfl, rfl, eA2, by decide, by decide, ?_, rfl, ?_⟩
          · rw [PySem.seqIndex_of (by decide) (by rw [refs_len, List.length_cons]; omega)]; rfl
          rw [show (refs (z :: w)).eraseIdx 0 = refs w from rfl]
          have eL3 : (upd G2 A (.lst (refs w))) L = some (.lst (s.ls.map V.int)) := (upd_ne hAL.symm).trans (jT tL.1 eLi)
          walk_at "z"
          refine Z.ixL (lstL eL3) (atM tn.hl) ?_
          walk_at "z"
          have hz2 : RowAt (upd G2 A (.lst (refs w))) z.1 z.2 := by
            have hzt : z.1 ≠ t := fun y => by
              have this := hzi
              unfold RowAt at this
              rw [y, et] at this; cases this
            have hzA : z.1 ≠ A := fun y => by
              have this := hzi
              unfold RowAt at this
              rw [y, eA] at this; cases this
            unfold RowAt
            rw [upd_ne hzA]
            exact jT hzt hzi
          refine hz2.w2 ?_
          walk_at "z"
          refine Z.setL eL3 (ixN_nat (by rw [List.length_map]; exact hsl)) ?_
          walk_at "z"
          have eD4 : (upd (upd G2 A (.lst (refs w))) L (.lst ((s.ls.map V.int).set sd (.int (lf - z.2.w))))) D = some (.lst (refs s.dr)) := by
            rw [upd_ne dDL, upd_ne hDA]; exact jT tD.1 eDi
          refine ⟨Z.tyL eD4, ?_⟩
          walk_at "z"
          refine Z.app (xs := refs s.dr) eD4 (Z.szl (m := 1000) (by rw [refs_len]; omega)) ?_
          rw [← refs_snoc]
          have kA : Kp [A, L, D] G2 (upd (upd (upd G2 A (.lst (refs w))) L (.lst ((s.ls.map V.int).set sd (.int (lf - z.2.w))))) D (.lst (refs (s.dr ++ [z])))) := ((Kp.put (by simp)).trans (Kp.put (by simp))).trans (Kp.put (by simp))
          have hnext : stepW wR (ns.getD (p + j) 0) s = runW wR ns p ⟨[s1, s2], [ps, qs], []⟩ (j + 1) := by
            show _ = (if 0 < (runW wR ns p ⟨[s1, s2], [ps, qs], []⟩ j).ls.sum then _ else _)
            rw [← hs, if_pos c2, hdr]
          refine ⟨sz - (j + 1), by omega, stepW wR (ns.getD (p + j) 0) s, j + 1, _, _, hnext, ?_, by omega, rfl, ok', rfl, ?_, ?_, ?_, ?_, ?_, ?_⟩
          · rw [tn.to, List.length_append, hdr]; rfl
          · refine ki.trans ((jall.sub (by simp)).trans (kA.sub ?_))
            intro b hb
            rcases hAm with e | e
            · rw [e] at hb
              simp at hb ⊢
              rcases hb with h | h | h <;> simp [h]
            · rw [e] at hb
              simp at hb ⊢
              rcases hb with h | h | h <;> simp [h]
          · exact ((T2.put hAt hAl).put tL.1 tL.2).put tD.1 tD.2
          · rw [tn.to, upd_ne dDL.symm, upd_same, List.map_set]; rfl
          · rw [upd_ne dDW.symm, upd_ne dWL, upd_ne hWA]
            exact jT tW.1 eWi
          · intro i B w' hB hw'
            rw [tn.to] at hw'
            have hBm : B = A0 ∨ B = A1 := by
              have := List.mem_of_getElem? hB
              simpa using this
            have hBL : B ≠ L := by rcases hBm with e | e <;> rw [e]; exact d0L; exact d1L
            have hDB : D ≠ B := by rcases hBm with e | e <;> rw [e]; exact dD0; exact dD1
            have hBt : B ≠ t := by rcases hBm with e | e <;> rw [e]; exact t0.1; exact t1.1
            rw [upd_ne hDB.symm, upd_ne hBL]
            by_cases hj : i = sd
            · subst hj
              rw [hA] at hB
              cases hB
              rw [List.getElem?_set_self (by omega)] at hw'
              cases hw'
              exact upd_same
            · rw [List.getElem?_set_ne (fun z => hj z.symm)] at hw'
              have hBA : B ≠ A := by
                intro e
                apply hj
                subst e
                have nd : ([A0, A1] : List Addr).Nodup := by simp [d10.symm]
                obtain ⟨hj1, ej⟩ := List.getElem?_eq_some_iff.mp hB
                obtain ⟨hs1, es⟩ := List.getElem?_eq_some_iff.mp hA
                exact (List.getElem_inj nd).mp (ej.trans es.symm)
              rw [upd_ne hBA]
              exact jT hBt (eAi i B w' hB hw')
          · rw [tn.to, upd_same]
        · exact done (fin (.inr c2) ⟨(), trivial⟩)
      · exact done (fin (.inl c1) ⟨(), trivial⟩)

/-! ### Weighted.empty, Weighted.single -/
def spEmpty (C CI : Addr) : Sp := fun vs H Q E => ∃ (z : Int), vs = [.ref C, .int z] ∧ -5 ≤ z ∧ z ≤ 30 ∧ (1 ≤ z ∧ z ≤ 20 → ∀ H' x k, H x = none → H k = none → Kp [] H H' → UniAt C H' x k z 0 [] → Q (.ref x) H') ∧ (¬ (1 ≤ z ∧ z ≤ 20) → ∀ d, H d = none → E (.ref CI) (some d) (upd H d (.xd (flF "size" [.int z]))))
theorem ok_Weighted_empty {P : Program} {w : World} {K : PySem.W.Frag} {mg : Str → Option Value} {base : Heap} (T : T P K mg) : FnOk P w K mg base (L2.CX P w) 4 T.a_Weighted_empty T.fd_Weighted_empty ["cls", "size"] (spEmpty T.C_Weighted T.C_InvalidSize) := by
  refine T.F_Weighted_empty.okX sc_Weighted_empty (fun vs H Q E h => ?_) (fun cdv A outer s H vs Q E hr h => ?_)
  · obtain ⟨z, rfl, _⟩ := h
    rfl
  · obtain ⟨z, rfl, hz0, hz1, q, e⟩ := h
    refine ⟨_, (pss_cons (ps_expr (pe_call (ok_check_size T) (hr.mono (by decide)) (by rfl) T.g_check_size T.F_check_size.kp T.b_check_size .nil (passes_call (takes_of rfl rfl rfl rfl) (fun _ _ _ _ h => h)) (pa_cons (pv 1) pa_nil)))
      (pss_one (ps_ret (ClsM.pe_makeL (i := 0) T.mk_Weighted (ok_Weighted_init T) (hr.mono (by decide)) rfl (by first | exact Or.inl rfl | exact Or.inr (Or.inl rfl)) T.b_Weighted_init pass0 (pa_cons (pv 1) (pa_cons pe_int (pa_cons (pe_lst pa_nil) pa_nil))))))), ?_⟩
    walk_at "z0"
    walk_at "z"
    refine ⟨z, rfl, hz0, hz1, fun hz => ?_, e⟩
    walk_at "z"
    refine ClsM.makeL rfl ?_
    walk_at "z"
    refine Z.lstK (fun b H1 nb k1 e1 => ?_)
    walk_at "z"
    intro x dx nx ndx hdx
    refine ⟨x, b, dx, z, 0, [], rfl, upd_same, (Kp.made nx ndx).get nin0 e1, fun H8 kk nkk k8 hU8 => ⟨rfl, ?_⟩⟩
    obtain ⟨h1, h2, h3⟩ := made_new k1 nx ndx hdx nkk k8
    exact q hz H8 x kk h1 h2 (k1.trans h3) hU8
def spSingle (C CI : Addr) : Sp := fun vs H Q E => ∃ (z : Int) (it : Addr) (r : Row), vs = [.ref C, .ref it, .int z] ∧ RowAt H it r ∧ -5 ≤ z ∧ z ≤ 30 ∧ (1 ≤ z ∧ z ≤ 20 → ∀ H' x k, H x = none → H k = none → Kp [] H H' → UniAt C H' x k z r.w [(it, r)] → Q (.ref x) H') ∧ (¬ (1 ≤ z ∧ z ≤ 20) → ∀ d, H d = none → E (.ref CI) (some d) (upd H d (.xd (flF "size" [.int z]))))
theorem ok_Weighted_single {P : Program} {w : World} {K : PySem.W.Frag} {mg : Str → Option Value} {base : Heap} (T : T P K mg) : FnOk P w K mg base (L2.CX P w) 4 T.a_Weighted_single T.fd_Weighted_single ["cls", "item", "size"] (spSingle T.C_Weighted T.C_InvalidSize) := by
  refine T.F_Weighted_single.okX sc_Weighted_single (fun vs H Q E h => ?_) (fun cdv A outer s H vs Q E hr h => ?_)
  · obtain ⟨z, it, r, rfl, _⟩ := h
    rfl
  · obtain ⟨z, it, r, rfl, hR, hz0, hz1, q, e⟩ := h
    refine ⟨_, (pss_cons (ps_expr (pe_call (ok_check_size T) (hr.mono (by decide)) (by rfl) T.g_check_size T.F_check_size.kp T.b_check_size .nil (passes_call (takes_of rfl rfl rfl rfl) (fun _ _ _ _ h => h)) (pa_cons (pv 2) pa_nil)))
      (pss_one (ps_ret (ClsM.pe_makeL (i := 0) T.mk_Weighted (ok_Weighted_init T) (hr.mono (by decide)) rfl (by first | exact Or.inl rfl | exact Or.inr (Or.inl rfl)) T.b_Weighted_init pass0 (pa_cons (pv 2) (pa_cons (pe_ix ix_tup (pv 1) pe_int (fun _ _ => rfl)) (pa_cons (pe_lst (pa_cons (pv 1) pa_nil)) pa_nil))))))), ?_⟩
    walk_at "z0"
    walk_at "z"
    refine ⟨z, rfl, hz0, hz1, fun hz => ?_, e⟩
    walk_at "z"
    refine ClsM.makeL rfl ?_
    walk_at "z"
    refine RowAt.w2 hR ?_
    walk_at "z"
    refine Z.lstK (fun b H1 nb k1 e1 => ?_)
    walk_at "z"
    intro x dx nx ndx hdx
    refine ⟨x, b, dx, z, r.w, [(it, r)], rfl, upd_same, (Kp.made nx ndx).get nin0 e1, fun H8 kk nkk k8 hU8 => ⟨rfl, ?_⟩⟩
    obtain ⟨h1, h2, h3⟩ := made_new k1 nx ndx hdx nkk k8
    exact q hz H8 x kk h1 h2 (k1.trans h3) hU8

/-! ### the law's items, tapes -/
def key15 (k i : Nat) : Str := (⟨#[97 + k]⟩ : Str) ++ Str.ofString (toString (i : Int))
theorem key15_all : ∀ (k : Fin 5) (i : Fin 6), (PyData.strOk (key15 k.val i.val) = true ∧ (key15 k.val i.val).cps.size = 2) ∧ ∀ (k' : Fin 5) (i' : Fin 6), key15 k.val i.val = key15 k'.val i'.val → k = k' ∧ i = i' := by decide +kernel
theorem key15_inj {k i k' i' : Nat} (hk : k < 5) (hi : i < 6) (hk' : k' < 5) (hi' : i' < 6) (h : key15 k i = key15 k' i') : k = k' ∧ i = i' := by
  have := (key15_all ⟨k, hk⟩ ⟨i, hi⟩).2 ⟨k', hk'⟩ ⟨i', hi'⟩ h
  exact ⟨congrArg Fin.val this.1, congrArg Fin.val this.2⟩
structure Row15 (k i : Nat) (r : Row) : Prop where
  k : r.k = key15 k i
  g : r.g ∈ (["g", "h"] : List Str)
  w0 : 1 ≤ r.w
  w1 : r.w ≤ 40
theorem g15_small : smallS ["g", "h"] = true := by decide +kernel
theorem Row15.s {k i : Nat} {r : Row} (h : Row15 k i r) (hk : k < 5) (hi : i < 6) : RowS r := by
  have h1 := (key15_all ⟨k, hk⟩ ⟨i, hi⟩).1
  have h2 := smallS_of g15_small h.g
  refine ⟨?_, h2.1, ?_, h2.2⟩
  · rw [h.k]; exact h1.1
  · rw [h.k]; exact Nat.le_trans (Nat.le_of_eq h1.2) (by decide)
theorem pick2 {a b : Int} {p : Prop} [Decidable p] : atI [V.int a, V.int b] (if decide p = true then 1 else 0) = some (.int (if p then b else a)) := by
  by_cases h : p
  · rw [decide_eq_true h, if_pos rfl, if_pos h]; rfl
  · rw [decide_eq_false h, if_neg Bool.false_ne_true, if_neg h]; rfl
structure Things (H H' : Hp) (a d : Addr) (k : Nat) (ps : List (Addr × Row)) : Prop where
  kp : Kp [a] H H'
  dr : DrawsAt H' a
  at_ : H' d = some (.lst (refs ps))
  rows : RowsAt H' ps
  ok : ∀ (i : Nat) (x : Addr × Row), ps[i]? = some x → Row15 k i x.2
def spThings (K : PySem.W.Frag) : Sp := fun vs H Q _ => ∃ (a : Addr) (k : Nat), vs = [.ref a, .int 6, .str ⟨#[97 + k]⟩] ∧ DrawsAt H a ∧ k < 5 ∧ ∀ (H' : Hp) (d : Addr) (ps : List (Addr × Row)), H d = none → ps.length ≤ 6 → Things H H' a d k ps → Q (.ref d) H'
theorem ok__law_things {P : Program} {w : World} {K : PySem.W.Frag} {mg : Str → Option Value} {base : Heap} (T : T P K mg) : FnOk P w K mg base CX0 2 T.a__law_things T.fd__law_things ["row", "most", "letters"] (spThings K) := by
  refine T.F__law_things.ok sc__law_things (fun vs H Q E h => ?_) (fun cdv A outer s H vs Q E hr h => ?_)
  · obtain ⟨a, k, rfl, _⟩ := h
    rfl
  · obtain ⟨a, k, rfl, hd, hk, q⟩ := h
    refine ⟨_, (pss_cons (ps_set (i := 3) sc__law_things.nd rfl (by first | exact Or.inl rfl | exact Or.inr rfl) (pe_lst pa_nil))
      (pss_cons (ps_for PassesOwn.never rfl (pi_range1 (by rfl) T.z_range (pa_cons (pe_call (ok__law_take T) (hr.mono (by decide)) (by rfl) T.g__law_take T.F__law_take.kp T.b__law_take .nil pass0 (pa_cons (pv 0) (pa_cons (pe_op op_add (pv 1) pe_int) pa_nil))) pa_nil)) (pg_name (i := 4) sc__law_things.nd rfl (by first | exact Or.inl rfl | exact Or.inr rfl)) (pss_cons (ps_set (i := 5) sc__law_things.nd rfl (by first | exact Or.inl rfl | exact Or.inr rfl) (pe_ix ix_list (pe_lst (pa_cons (pe_op op_add pe_int (pe_call (ok__law_take T) (hr.mono (by decide)) (by rfl) T.g__law_take T.F__law_take.kp T.b__law_take .nil pass0 (pa_cons (pv 0) (pa_cons pe_int pa_nil)))) (pa_cons (pe_op op_add pe_int (pe_call (ok__law_take T) (hr.mono (by decide)) (by rfl) T.g__law_take T.F__law_take.kp T.b__law_take .nil pass0 (pa_cons (pv 0) (pa_cons pe_int pa_nil)))) pa_nil))) (pe_callTy c_int (by rfl) T.z_int (by decide +kernel) (pa_cons (pe_cmpR op_eq (pe_call (ok__law_take T) (hr.mono (by decide)) (by rfl) T.g__law_take T.F__law_take.kp T.b__law_take .nil pass0 (pa_cons (pv 0) (pa_cons pe_int pa_nil))) pe_int (nomark _)) pa_nil)) (fun _ _ => rfl)))
      (pss_one (ps_expr (pe_bm PySem.F.plainAttrs_list PySem.F.slot_list_append PySem.F.type_list_append mt_append (pv 3) (pa_cons (pe_tup (pa_cons (pe_op o_addS (pv 2) (pe_callTy call_str_int (by rfl) T.z_str (by decide +kernel) (pa_cons (pv 4) pa_nil))) (pa_cons (pe_ix ix_list (pe_lst (pa_cons pe_str (pa_cons pe_str pa_nil))) (pe_call (ok__law_take T) (hr.mono (by decide)) (by rfl) T.g__law_take T.F__law_take.kp T.b__law_take .nil pass0 (pa_cons (pv 0) (pa_cons pe_int pa_nil))) (fun _ _ => rfl)) (pa_cons (pv 5) (pa_cons (pe_op op_sub (pe_call (ok__law_take T) (hr.mono (by decide)) (by rfl) T.g__law_take T.F__law_take.kp T.b__law_take .nil pass0 (pa_cons (pv 0) (pa_cons pe_int pa_nil))) pe_int) pa_nil))))) pa_nil))))))
      (pss_one (ps_ret (pv 3))))), ?_⟩
    walk_at "z0"
    walk_at "z"
    refine Z.lstK (fun F H1 nF k1 e1 => ?_)
    have d1 := hd.kp0 k1
    have naF : a ≠ F := hd.ne nF
    walk_at "z"
    refine ⟨a, 7, rfl, d1, by decide, by decide, fun H2 n hn0 hn1 k2 d2 => ?_⟩
    obtain ⟨n, rfl⟩ : ∃ m : Nat, n = (m : Int) := ⟨n.toNat, by omega⟩
    have e2 := k2.get (nin1 naF.symm) e1
    walk_at "z"
    refine Z.forr n rfl (by omega) (fun i σ' H' => ∃ y4 y5, ∃ ps : List (Addr × Row), σ' = [some (.ref a), some (.int 6), some (.str ⟨#[97 + k]⟩), some (.ref F), y4, y5] ∧ Kp [a] H H' ∧ DrawsAt H' a ∧ H' F = some (.lst (refs ps)) ∧ RowsAt H' ps ∧ ps.length = i ∧ ∀ (j : Nat) (x : Addr × Row), ps[j]? = some x → Row15 k j x.2) ?_ ?_ ?_
    · exact ⟨_, _, [], rfl, (k1.sub (by simp)).trans k2, d2, e2, fun x hx => by simp at hx, rfl, fun j x hx => by simp at hx⟩
    · rintro i σ' H3 hi ⟨y4, y5, ps, rfl, k3, d3, e3, r3, hl3, hok⟩
      walk_at "z"
      refine ⟨a, 6, rfl, d3, by decide, by decide, fun H4 v hv0 hv1 k4 d4 => ?_⟩
      have e4 := k4.get (nin1 naF.symm) e3
      have r4 := r3.kpd k4 d3
      walk_at "z"
      refine ⟨a, 40, rfl, d4, by decide, by decide, fun H5 u hu0 hu1 k5 d5 => ?_⟩
      have e5 := k5.get (nin1 naF.symm) e4
      have r5 := r4.kpd k5 d4
      walk_at "z"
      refine Z.lstK (fun b H6 nb k6 e6 => ?_)
      have d6 := d5.kp0 k6
      have nab : a ≠ b := d5.ne nb
      walk_at "z"
      refine ⟨a, 4, rfl, d6, by decide, by decide, fun H7 c hc0 hc1 k7 d7 => ?_⟩
      walk_at "z"
      refine Z.ixL (lstL (k7.get (nin1 nab.symm) e6)) pick2 ?_
      have hw : 1 ≤ (if c = 0 then 1 + u else 1 + v) ∧ (if c = 0 then 1 + u else 1 + v) ≤ 40 := by split <;> omega
      generalize (if c = 0 then 1 + u else 1 + v) = w at hw ⊢
      have e7 := k7.get (nin1 naF.symm) (k6.get nin0 e5)
      have r7 := (r5.kp0 k6).kpd k7 d6
      walk_at "z"
      refine ⟨Z.tyL e7, ?_⟩
      walk_at "z"
      refine ⟨_, rfl, Nat.lt_of_lt_of_le (PySem.Flt.log2_lt_of (k := 30) (by decide) (Nat.lt_of_le_of_lt (show ((i : Nat) : Int).natAbs ≤ 30 by omega) (by decide))) (by decide), ?_⟩
      have hi6 : i < 6 := by omega
      have hsz := (key15_all ⟨k, hk⟩ ⟨i, hi6⟩).1.2
      refine Z.addS (by rw [← app_len]; exact Nat.le_trans (Nat.le_of_eq hsz) (by decide)) ?_
      walk_at "z"
      refine Z.lstK (fun b2 H8 nb2 k8 e8 => ?_)
      have d8 := d7.kp0 k8
      have nab2 : a ≠ b2 := d7.ne nb2
      walk_at "z"
      refine ⟨a, 2, rfl, d8, by decide, by decide, fun H9 v6 hv60 hv61 k9 d9 => ?_⟩
      obtain ⟨s, hs, es⟩ := pickS ["g", "h"] hv60 hv61
      refine Z.ixL (lstL (k9.get (nin1 nab2.symm) e8)) es ?_
      walk_at "z"
      refine ⟨a, 9, rfl, d9, by decide, by decide, fun H10 v7 hv70 hv71 k10 d10 => ?_⟩
      walk_at "z"
      refine Z.tupK (fun t H11 nt k11 e11 => ?_)
      have e10F := k10.get (nin1 naF.symm) (k9.get (nin1 naF.symm) (k8.get nin0 e7))
      have e11F := k11.get nin0 e10F
      have r11 := (((r7.kp0 k8).kpd k9 d8).kpd k10 d9).kp0 k11
      have d11 := d10.kp0 k11
      have ntF : t ≠ F := fun z => by rw [z, e11F] at e11; cases e11
      have kF : Kp [F] H11 (upd H11 F (.lst (refs ps ++ [.ref t]))) := Kp.put (by simp)
      have kall : Kp [a] H H11 := (((k3.trans k4).trans k5).trans ((k6.sub (by simp)).trans k7)).trans (((k8.sub (by simp)).trans k9).trans (k10.trans (k11.sub (by simp))))
      walk_at "z"
      refine Z.app e11F (Z.szl (m := 1000) (by rw [refs_len]; omega)) ?_
      refine ⟨_, _, ps ++ [(t, ⟨key15 k i, s, w, v7 - 4⟩)], rfl, kall.mut nF rfl, d11.put naF, by rw [upd_same, refs_snoc], (r11.kp1 kF e11F).snoc (show RowAt _ t ⟨key15 k i, s, w, v7 - 4⟩ from kF.get (nin1 ntF) e11), by simp [hl3], fun j x hx => ?_⟩
      rw [List.getElem?_append] at hx
      split at hx
      · exact hok j x hx
      · have hj : j - ps.length = 0 := by
          have := (List.getElem?_eq_some_iff.mp hx).1
          simp at this
          exact this
        rw [hj] at hx
        have e : j = i := by omega
        subst e
        cases hx
        exact ⟨rfl, hs, hw.1, hw.2⟩
    · rintro σ' H3 ⟨y4, y5, ps, rfl, k3, d3, e3, r3, hl3, hok⟩
      walk_at "z"
      exact q H3 F ps nF (by omega) ⟨k3, d3, e3, r3, hok⟩
theorem neNil {K : PySem.W.Frag} {H : Hp} {Q : VK} {a b : Addr} {ps : List (Addr × Row)} (h1 : H a = some (.lst (refs ps))) (h2 : H b = some (.lst [])) (r : RowsAt H ps) (s : ∀ x ∈ ps, RowS x.2) (q : Q (.bl (!ps.isEmpty)) H) : rNeD K (.ref a) (.ref b) H Q :=
  ⟨_, _, dpRows h1 r, .lst (ds := []) (lstL h2) .nil, shRows s, shNil, by
    rw [PyData.eqv, eqvAll_nil]
    have e : (rowsD ps).isEmpty = ps.isEmpty := by cases ps <;> rfl
    rw [e]; exact q⟩
def spShuffled (K : PySem.W.Frag) : Sp := fun vs H Q _ => ∃ (a b : Addr) (ps : List (Addr × Row)), vs = [.ref a, .ref b] ∧ DrawsAt H a ∧ H b = some (.lst (refs ps)) ∧ RowsAt H ps ∧ (∀ x ∈ ps, RowS x.2) ∧ ps.length ≤ 100 ∧ ∀ (H' : Hp) (d : Addr) (qs : List (Addr × Row)), H d = none → Kp [a] H H' → DrawsAt H' a → H' d = some (.lst (refs qs)) → RowsAt H' qs → qs.Perm ps → Q (.ref d) H'
theorem ok__law_shuffled {P : Program} {w : World} {K : PySem.W.Frag} {mg : Str → Option Value} {base : Heap} (T : T P K mg) : FnOk P w K mg base CX0 2 T.a__law_shuffled T.fd__law_shuffled ["row", "things"] (spShuffled K) := by
  refine T.F__law_shuffled.ok sc__law_shuffled (fun vs H Q E h => ?_) (fun cdv A outer s H vs Q E hr h => ?_)
  · obtain ⟨a, b, ps, rfl, _⟩ := h
    rfl
  · obtain ⟨a, b, ps, rfl, hd, hb, hR, hS, hn, q⟩ := h
    refine ⟨_, (pss_cons (ps_set (i := 1) sc__law_shuffled.nd rfl (by first | exact Or.inl rfl | exact Or.inr rfl) (pe_callTy c_list (by rfl) T.z_list (by decide +kernel) (pa_cons (pv 1) pa_nil)))
      (pss_cons (ps_set (i := 2) sc__law_shuffled.nd rfl (by first | exact Or.inl rfl | exact Or.inr rfl) (pe_lst pa_nil))
      (pss_cons (ps_while PassesOwn.never (pt_cmpR (op_neD hr.units) (pv 1) (pe_lst pa_nil) (nomark _)) (pss_one (ps_expr (pe_bm PySem.F.plainAttrs_list PySem.F.slot_list_append PySem.F.type_list_append mt_append (pv 2) (pa_cons (pe_bm PySem.F.plainAttrs_list PySem.F.slot_list_pop PySem.F.type_list_pop mt_popAt (pv 1) (pa_cons (pe_call (ok__law_take T) (hr.mono (by decide)) (by rfl) T.g__law_take T.F__law_take.kp T.b__law_take .nil pass0 (pa_cons (pv 0) (pa_cons (pe_callB c_len (by rfl) T.z_len (by decide +kernel) (pa_cons (pv 1) pa_nil)) pa_nil))) pa_nil)) pa_nil)))))
      (pss_one (ps_ret (pv 2)))))), ?_⟩
    walk_at "z0"
    walk_at "z"
    refine Z.listL (lstL hb) (fun L H1 nL k1 e1 => ?_)
    walk_at "z"
    refine Z.lstK (fun F H2 nF k2 e2 => ?_)
    have naL : a ≠ L := hd.ne nL
    have naF : a ≠ F := (hd.kp0 k1).ne nF
    have nLF : L ≠ F := ne_of_none e1 nF
    walk_at "z"
    refine Z.wh (fun m σ' H' => ∃ (ws fs : List (Addr × Row)), σ' = [some (.ref a), some (.ref L), some (.ref F)] ∧ m = ws.length ∧ (fs ++ ws).Perm ps ∧ Kp [a, L, F] H2 H' ∧ DrawsAt H' a ∧ H' L = some (.lst (refs ws)) ∧ H' F = some (.lst (refs fs)) ∧ RowsAt H' ps) ps.length ⟨ps, [], rfl, rfl, .refl _, Kp.refl _, (hd.kp0 k1).kp0 k2, k2.get nin0 e1, e2, (hR.kp0 k1).kp0 k2⟩ ?_
    rintro m σ' H3 ⟨ws, fs, rfl, rfl, hp, k3, d3, e3L, e3F, r3⟩
    have hsub : ∀ x ∈ ws, x ∈ ps := fun x hx => hp.mem_iff.mp (List.mem_append_right _ hx)
    walk_at "z"
    refine Z.lstK (fun N H4 nN k4 e4 => ?_)
    refine neNil (ps := ws) (k4.get nin0 e3L) e4 (fun x hx => (r3.kp0 k4) x (hsub x hx)) (fun x hx => hS x (hsub x hx)) ?_
    have d4 := d3.kp0 k4
    have e4L := k4.get nin0 e3L
    have e4F := k4.get nin0 e3F
    walk_at "z"
    cases ws with
    | nil =>
      refine Z.noNB ?_
      walk_at "z"
      have kk : Kp [a] H H4 := fun c o n e => (k4.get nin0 (k3 c o (by
        intro z
        simp at z n
        rcases z with z | z | z
        · exact n z
        · rw [z, nL] at e; cases e
        · rw [z, k1.none nin0 nF] at e; cases e) (k2.get nin0 (k1.get nin0 e))))
      rw [List.append_nil] at hp
      exact q H4 F fs (k1.none nin0 nF) kk d4 e4F (fun x hx => (r3.kp0 k4) x (hp.mem_iff.mp hx)) hp
    | cons w0 wr =>
      refine Z.yesNB ?_
      refine Z.whb ?_
      walk_at "z"
      refine ⟨Z.tyL e4F, ?_⟩
      walk_at "z"
      refine ⟨Z.tyL e4L, ?_⟩
      walk_at "z"
      refine Z.lenL (lstL e4L) ?_
      rw [refs_len]
      walk_at "z"
      have hwl : (w0 :: wr).length ≤ 100 := by
        have := hp.length_eq
        rw [List.length_append] at this
        omega
      have hw1 : 0 < (w0 :: wr).length := by simp
      generalize hws : w0 :: wr = ws at hwl hw1 hp hsub e4L e3L ⊢
      refine ⟨a, (ws.length : Int), rfl, d4, by omega, by omega, fun H5 v hv0 hv1 k5 d5 => ?_⟩
      obtain ⟨j, rfl⟩ : ∃ j : Nat, v = (j : Int) := ⟨v.toNat, by omega⟩
      have hj : j < ws.length := by omega
      obtain ⟨x, hx⟩ : ∃ x, ws[j]? = some x := ⟨_, List.getElem?_eq_getElem hj⟩
      have e5L := k5.get (nin1 naL.symm) e4L
      have e5F := k5.get (nin1 naF.symm) e4F
      have r5 := (r3.kp0 k4).kpd k5 d4
      refine ⟨L, refs ws, (j : Nat), j, .ref x.1, rfl, rfl, e5L, by omega, by omega, ?_, refs_at hx, ?_⟩
      · rw [refs_len, PySem.seqIndex_of (by omega) (by omega), Int.toNat_natCast]
      rw [show (refs ws).eraseIdx j = refs (ws.eraseIdx j) from map_erase _ _ _]
      walk_at "z"
      refine Z.app (xs := refs fs) ((upd_ne nLF.symm).trans e5F) (Z.szl (m := 1000) (by
        have := hp.length_eq
        rw [List.length_append] at this
        rw [refs_len]; omega)) ?_
      rw [← refs_snoc]
      have kLF : Kp [L, F] H5 (upd (upd H5 L (.lst (refs (ws.eraseIdx j)))) F (.lst (refs (fs ++ [x])))) := (Kp.put (by simp)).trans (Kp.put (by simp))
      refine ⟨(ws.eraseIdx j).length, by rw [List.length_eraseIdx_of_lt hj]; omega, ws.eraseIdx j, fs ++ [x], rfl, rfl, ?_, ?_, ?_, ?_, ?_, ?_⟩
      · rw [List.append_assoc]
        exact ((take_perm hx).append_left fs).trans hp
      · exact k3.trans ((k4.sub (by simp)).trans ((k5.sub (by simp)).trans (kLF.sub (by simp))))
      · exact (d5.put naL).put naF
      · rw [upd_ne nLF, upd_same]
      · exact upd_same
      · exact r5.kp kLF fun y hy => by
          simp at hy
          rcases hy with h | h <;> rw [h]
          · exact ⟨_, e5L⟩
          · exact ⟨_, e5F⟩
def spTapeL (K : PySem.W.Frag) : Sp := fun vs H Q _ => ∃ (a : Addr) (n : Nat), vs = [.ref a, .int (n : Int)] ∧ DrawsAt H a ∧ n ≤ 1000 ∧ ∀ (H' : Hp) (d : Addr) (ns : List Int), H d = none → Kp [a] H H' → DrawsAt H' a → H' d = some (.lst (ns.map V.int)) → Q (.ref d) H'
theorem pick2n {a b v : Int} (h0 : 0 ≤ v) (h1 : v < 2) : ∃ x : Int, atI [V.int a, V.int b] v = some (.int x) := by
  obtain ⟨j, rfl⟩ : ∃ j : Nat, v = (j : Int) := ⟨v.toNat, by omega⟩
  match j, h1 with
  | 0, _ => exact ⟨a, rfl⟩
  | 1, _ => exact ⟨b, rfl⟩
  | j + 2, h1 => omega
theorem ok__law_tape {P : Program} {w : World} {K : PySem.W.Frag} {mg : Str → Option Value} {base : Heap} (T : T P K mg) : FnOk P w K mg base CX0 2 T.a__law_tape T.fd__law_tape ["row", "many"] (spTapeL K) := by
  refine T.F__law_tape.ok sc__law_tape (fun vs H Q E h => ?_) (fun cdv A outer s H vs Q E hr h => ?_)
  · obtain ⟨a, n, rfl, _⟩ := h
    rfl
  · obtain ⟨a, n, rfl, hd, hn, q⟩ := h
    refine ⟨_, (pss_one (ps_ret (pe_lc (own := [("k", 2)]) (g := gName 2) rfl sc__law_tape.nd (pi_range1 (by rfl) T.z_range (pa_cons (pv 1) pa_nil)) (blkOk_by (own := [("k", 2)]) (N := N__law_tape) (sc := defScope s__law_tape) (by decide +kernel)) (fun _ _ _ _ _ => (pg_name (i := 2) sc__law_tape.nd rfl (by first | exact Or.inl rfl | exact Or.inr rfl))) (fun _ _ _ _ _ => pts_nil) (fun _ _ _ _ _ => (pe_ix (ix_list : IxR _ (rIxL K)) (pe_lst (pa_cons (pe_call (ok__law_take T) (hr.mono (by decide)) (by rfl) T.g__law_take T.F__law_take.kp T.b__law_take .nil pass0 (pa_cons (pv 0) (pa_cons pe_int pa_nil))) (pa_cons (pe_op op_add (pe_op op_mul (pe_call (ok__law_take T) (hr.mono (by decide)) (by rfl) T.g__law_take T.F__law_take.kp T.b__law_take .nil pass0 (pa_cons (pv 0) (pa_cons pe_int pa_nil))) pe_int) pe_int) pa_nil))) (pe_call (ok__law_take T) (hr.mono (by decide)) (by rfl) T.g__law_take T.F__law_take.kp T.b__law_take .nil pass0 (pa_cons (pv 0) (pa_cons pe_int pa_nil))) (fun _ _ => rfl)))))), ?_⟩
    walk_at "z0"
    walk_at "z"
    refine Z.lcr n rfl (by omega) (fun D i H' => ∃ ns : List Int, Kp [a] H H' ∧ DrawsAt H' a ∧ H' D = some (.lst (ns.map V.int)) ∧ ns.length = i) ?_ ?_ ?_
    · intro D H1 nD k1 e1
      exact ⟨[], k1.sub (by simp), hd.kp0 k1, e1, rfl⟩
    · rintro D i H1 nD hi ⟨ns, k1, d1, e1, l1⟩
      have naD : a ≠ D := hd.ne nD
      dsimp only [wipe, List.set]
      walk_at "z"
      refine ⟨rfl, ?_⟩
      walk_at "z"
      refine ⟨a, 840, rfl, d1, by decide, by decide, fun H2 v hv0 hv1 k2 d2 => ?_⟩
      walk_at "z"
      refine ⟨a, 840, rfl, d2, by decide, by decide, fun H3 u hu0 hu1 k3 d3 => ?_⟩
      walk_at "z"
      refine Z.iC (.inr (by decide)) ?_
      walk_at "z"
      refine Z.lstK (fun b H4 nb k4 e4 => ?_)
      have d4 := d3.kp0 k4
      have nab : a ≠ b := d3.ne nb
      walk_at "z"
      refine ⟨a, 2, rfl, d4, by decide, by decide, fun H5 c hc0 hc1 k5 d5 => ?_⟩
      obtain ⟨x, ex⟩ := pick2n (a := v) (b := u * 7919 + 3) hc0 hc1
      refine Z.ixL (lstL (k5.get (nin1 nab.symm) e4)) ex ?_
      have k15 : Kp [a] H1 H5 := (k2.trans k3).trans ((k4.sub (by simp)).trans k5)
      have e5 := k15.get (nin1 naD.symm) e1
      refine ⟨_, e5, Z.szl (m := 10000) (by rw [List.length_map]; omega), ns ++ [x], (k1.trans k15).mut nD rfl, d5.put naD, by rw [upd_same, List.map_append]; rfl, by simp [l1]⟩
    · rintro D H1 nD ⟨ns, k1, d1, e1, l1⟩
      exact q H1 D ns nD k1 d1 e1

/-! ### the law's own merge -/
def BoxAt (H : Hp) (b l : Addr) (ns : List Int) (p : Nat) : Prop := H b = some (.lst [.ref l, .int (p : Int)]) ∧ H l = some (.lst (ns.map V.int))
theorem BoxAt.kp0 {H H' : Hp} {b l : Addr} {ns : List Int} {p : Nat} (h : BoxAt H b l ns p) (k : Kp [] H H') : BoxAt H' b l ns p := ⟨k.get nin0 h.1, k.get nin0 h.2⟩
theorem BoxAt.put {H : Hp} {b l c : Addr} {o : HO} {ns : List Int} {p : Nat} (h : BoxAt H b l ns p) (h1 : c ≠ b) (h2 : c ≠ l) : BoxAt (upd H c o) b l ns p := ⟨(upd_ne h1.symm).trans h.1, (upd_ne h2.symm).trans h.2⟩
theorem BoxAt.ne {H : Hp} {b l c : Addr} {ns : List Int} {p : Nat} (h : BoxAt H b l ns p) (n : H c = none) : c ≠ b ∧ c ≠ l := ⟨(ne_of_none h.1 n).symm, (ne_of_none h.2 n).symm⟩
theorem BoxAt.lb {H : Hp} {b l : Addr} {ns : List Int} {p : Nat} (h : BoxAt H b l ns p) : l ≠ b := fun z => by
  have h1 := h.1
  rw [← z, h.2] at h1
  match ns, h1 with
  | [], h1 => cases h1
  | [x], h1 => cases h1
  | x :: y :: r, h1 => cases h1
def spPick (K : PySem.W.Frag) : Sp := fun vs H Q _ => ∃ (b l wa : Addr) (ns ws : List Int) (p : Nat), vs = [.ref b, .ref wa] ∧ BoxAt H b l ns p ∧ H wa = some (.lst (ws.map V.int)) ∧ WOk ws ∧ ws.length ≤ 1000 ∧ ∀ H', Kp [b] H H' → BoxAt H' b l ns (p + 1) → Q (.int (nAt ws ((ns.getD p 0) % ws.sum))) H'
theorem ok__law_pick {P : Program} {w : World} {K : PySem.W.Frag} {mg : Str → Option Value} {base : Heap} (T : T P K mg) : FnOk P w K mg base CX0 1 T.a__law_pick T.fd__law_pick ["box", "weights"] (spPick K) := by
  refine T.F__law_pick.ok sc__law_pick (fun vs H Q E h => ?_) (fun cdv A outer s H vs Q E hr h => ?_)
  · obtain ⟨b, l, wa, ns, ws, p, rfl, _⟩ := h
    rfl
  · obtain ⟨b, l, wa, ns, ws, p, rfl, hB, hW, hO, hn, q⟩ := h
    have nlb := hB.lb
    have nwb : wa ≠ b := fun z => by
      have h1 := hB.1
      rw [← z, hW] at h1
      match ws, h1 with
      | [], h1 => cases h1
      | [x], h1 => cases h1
      | x :: y :: r, h1 => cases h1
    refine ⟨_, (pss_cons (ps_set (i := 2) sc__law_pick.nd rfl (by first | exact Or.inl rfl | exact Or.inr rfl) pe_int)
      (Z.pss_consJ (ps_if (pt_cmpR op_lt (pe_ix ix_list (pv 0) pe_int (fun _ _ => rfl)) (pe_callB c_len (by rfl) T.z_len (by decide +kernel) (pa_cons (pe_ix ix_list (pv 0) pe_int (fun _ _ => rfl)) pa_nil)) (nomark _)) (pss_one (ps_set (i := 2) sc__law_pick.nd rfl (by first | exact Or.inl rfl | exact Or.inr rfl) (pe_op op_mod (pe_callTy c_int (by rfl) T.z_int (by decide +kernel) (pa_cons (pe_ix ix_list (pe_ix ix_list (pv 0) pe_int (fun _ _ => rfl)) (pe_ix ix_list (pv 0) pe_int (fun _ _ => rfl)) (fun _ _ => rfl)) pa_nil)) (pe_callB (cr_sum rfl) (by rfl) T.z_sum (by decide +kernel) (pa_cons (pv 1) pa_nil))))) pss_nil)
      (pss_cons (ps_asg (pe_op op_add (pe_ix ix_list (pv 0) pe_int (fun _ _ => rfl)) pe_int) (pg_sub (pv 0) pe_int set_list))
      (pss_cons (ps_for PassesOwn.never rfl (pi_range1 (by rfl) T.z_range (pa_cons (pe_callB c_len (by rfl) T.z_len (by decide +kernel) (pa_cons (pv 1) pa_nil)) pa_nil)) (pg_name (i := 3) sc__law_pick.nd rfl (by first | exact Or.inl rfl | exact Or.inr rfl)) (pss_cons (ps_if (pt_cmpR op_lt (pv 2) (pe_ix ix_list (pv 1) (pv 3) (fun _ _ => rfl)) (nomark _)) (pss_one (ps_ret (pv 3))) pss_nil)
      (pss_one (ps_set (i := 2) sc__law_pick.nd rfl (by first | exact Or.inl rfl | exact Or.inr rfl) (pe_op op_sub (pv 2) (pe_ix ix_list (pv 1) (pv 3) (fun _ _ => rfl)))))))
      (pss_one (ps_ret pe_int)))))), ?_⟩
    walk_at "z0"
    walk_at "z"
    have hs := hO.sum
    refine Z.seqJ (fun σ' H' => σ' = [some (.ref b), some (.ref wa), some (.int ((ns.getD p 0) % ws.sum)), none] ∧ H' = H) ?_ ?_
    · rintro σ' H' ⟨rfl, rfl⟩
      walk_at "z"
      refine Z.ixL (lstL hB.1) (v := .int (p : Int)) rfl ?_
      walk_at "z"
      refine Z.setL hB.1 (ixN_nat (j := 1) (show 1 < 2 by decide)) ?_
      have kb : Kp [b] H' (upd H' b (.lst ([V.ref l, V.int (p : Int)].set 1 (V.int ((p : Int) + 1))))) := Kp.put (by simp)
      have eb : BoxAt (upd H' b (.lst ([V.ref l, V.int (p : Int)].set 1 (V.int ((p : Int) + 1))))) b l ns (p + 1) := ⟨upd_same, (upd_ne nlb).trans hB.2⟩
      have eW := kb.get (nin1 nwb) hW
      generalize upd H' b (.lst ([V.ref l, V.int (p : Int)].set 1 (V.int ((p : Int) + 1)))) = H1 at kb eb eW ⊢
      walk_at "z"
      refine Z.lenL (lstL eW) ?_
      rw [List.length_map]
      have hv0 := Int.emod_nonneg (ns.getD p 0) (show ws.sum ≠ 0 by omega)
      have hv1 := Int.emod_lt_of_pos (ns.getD p 0) hs
      generalize (ns.getD p 0) % ws.sum = v at hv0 hv1 q ⊢
      refine Z.forr ws.length rfl (by omega) (fun i σ' H2 => ∃ y, σ' = [some (.ref b), some (.ref wa), some (.int (v - (ws.take i).sum)), y] ∧ H2 = H1 ∧ (ws.take i).sum ≤ v) ⟨none, by simp, rfl, by simpa using hv0⟩ ?_ ?_
      · rintro i σ' H2 hi ⟨y, rfl, rfl, hle⟩
        have hx : ws[i]? = some ws[i] := List.getElem?_eq_getElem hi
        have hst := sum_take hx
        walk_at "z"
        refine Z.ixL (lstL eW) (atM hx) ?_
        walk_at "z"
        refine Z.ite (fun h1 => ?_) (fun h1 => ?_)
        · walk_at "z"
          have := q _ kb eb
          rw [nAt_spec hO.pos hle (by omega : v < (ws.take (i + 1)).sum)] at this
          exact this
        · walk_at "z"
          refine Z.ixL (lstL eW) (atM hx) ?_
          walk_at "z"
          refine ⟨some (.int (i : Int)), ?_, rfl, by omega⟩
          rw [show v - (ws.take i).sum - ws[i] = v - (ws.take (i + 1)).sum by omega]
      · rintro σ' H2 ⟨y, rfl, rfl, hle⟩
        rw [List.take_length] at hle
        omega
    · intro N jn
      walk_at "z"
      refine Z.ixL (lstL hB.1) (v := .int (p : Int)) rfl ?_
      walk_at "z"
      refine Z.ixL (lstL hB.1) (v := .ref l) rfl ?_
      walk_at "z"
      refine Z.lenL (lstL hB.2) ?_
      rw [List.length_map]
      walk_at "z"
      refine Z.ite (fun h1 => ?_) (fun h1 => ?_)
      · have hp : p < ns.length := by omega
        walk_at "z"
        refine Z.ixL (lstL hB.1) (v := .ref l) rfl ?_
        walk_at "z"
        refine Z.ixL (lstL hB.1) (v := .int (p : Int)) rfl ?_
        refine Z.ixL (lstL hB.2) (atM (List.getElem?_eq_getElem hp)) ?_
        walk_at "z"
        refine Z.sumL (lstL hW) ?_
        walk_at "z"
        refine Z.iC hs ?_
        walk_at "z"
        refine jn _ _ ⟨?_, rfl⟩
        rw [List.getD_eq_getElem?_getD, List.getElem?_eq_getElem hp]; rfl
      · walk_at "z"
        refine jn _ _ ⟨?_, rfl⟩
        rw [List.getD_eq_getElem?_getD, List.getElem?_eq_none (by omega)]
        show _ = [some (V.ref b), some (V.ref wa), some (V.int (0 % ws.sum)), none]
        rw [Int.zero_emod]

def spLMerge (K : PySem.W.Frag) : Sp := fun vs H Q _ => ∃ (b l f g c1 c2 : Addr) (size s1 s2 : Int) (ps qs : List (Addr × Row)) (ns : List Int) (p : Nat), vs = [.ref b, .int size, .ref f, .ref g] ∧ BoxAt H b l ns p ∧ H f = some (.tup [.int s1, .ref c1]) ∧ H c1 = some (.lst (refs ps)) ∧ H g = some (.tup [.int s2, .ref c2]) ∧ H c2 = some (.lst (refs qs)) ∧ RowsAt H ps ∧ RowsAt H qs ∧ ps.length ≤ 100 ∧ qs.length ≤ 100 ∧ 1 ≤ size ∧ size ≤ 30 ∧ KeptW wR size s1 ps ∧ KeptW wR size s2 qs ∧ (∀ z ∈ ps ++ qs, 1 ≤ wR z) ∧
  ∀ H' d c, H d = none → H c = none → Kp [b] H H' → BoxAt H' b l ns (p + (mrgW wR ns p size s1 ps s2 qs).length) → H' d = some (.tup [.int (s1 + s2), .ref c]) → H' c = some (.lst (refs (mrgW wR ns p size s1 ps s2 qs))) → Q (.ref d) H'
theorem ok__law_merge {P : Program} {w : World} {K : PySem.W.Frag} {mg : Str → Option Value} {base : Heap} (T : T P K mg) : FnOk P w K mg base CX0 2 T.a__law_merge T.fd__law_merge ["box", "size", "first", "second"] (spLMerge K) := by
  refine T.F__law_merge.ok sc__law_merge (fun vs H Q E h => ?_) (fun cdv A outer s H vs Q E hr h => ?_)
  · obtain ⟨_, _, _, _, _, _, _, _, _, _, _, _, _, rfl, _⟩ := h
    rfl
  · obtain ⟨b, l, f, g, c1, c2, size, s1, s2, ps, qs, ns, p, rfl, hB, hf, hc1, hg, hc2, hps, hqs, hpn, hqn, hz0, hz1, hK1, hK2, hpos, q⟩ := h
    refine ⟨_, (pss_cons (ps_set (i := 4) sc__law_merge.nd rfl (by first | exact Or.inl rfl | exact Or.inr rfl) (pe_lst (pa_cons (pe_ix ix_tup (pv 2) pe_int (fun _ _ => rfl)) (pa_cons (pe_ix ix_tup (pv 3) pe_int (fun _ _ => rfl)) pa_nil))))
      (pss_cons (ps_set (i := 5) sc__law_merge.nd rfl (by first | exact Or.inl rfl | exact Or.inr rfl) (pe_lst (pa_cons (pe_callTy c_list (by rfl) T.z_list (by decide +kernel) (pa_cons (pe_ix ix_tup (pv 2) pe_int (fun _ _ => rfl)) pa_nil)) (pa_cons (pe_callTy c_list (by rfl) T.z_list (by decide +kernel) (pa_cons (pe_ix ix_tup (pv 3) pe_int (fun _ _ => rfl)) pa_nil)) pa_nil))))
      (pss_cons (ps_set (i := 6) sc__law_merge.nd rfl (by first | exact Or.inl rfl | exact Or.inr rfl) (pe_lst pa_nil))
      (pss_cons (ps_for PassesOwn.never rfl (pi_range1 (by rfl) T.z_range (pa_cons (pv 1) pa_nil)) (pg_name (i := 7) sc__law_merge.nd rfl (by first | exact Or.inl rfl | exact Or.inr rfl)) (pss_one (ps_if (pt_cmpR op_gt (pe_callB (cr_sum rfl) (by rfl) T.z_sum (by decide +kernel) (pa_cons (pv 4) pa_nil)) pe_int (nomark _)) (pss_cons (ps_set (i := 8) sc__law_merge.nd rfl (by first | exact Or.inl rfl | exact Or.inr rfl) (pe_call (ok__law_pick T) (hr.mono (by decide)) (by rfl) T.g__law_pick T.F__law_pick.kp T.b__law_pick .nil pass0 (pa_cons (pv 0) (pa_cons (pv 4) pa_nil))))
      (pss_cons (ps_set (i := 9) sc__law_merge.nd rfl (by first | exact Or.inl rfl | exact Or.inr rfl) (pe_bm PySem.F.plainAttrs_list PySem.F.slot_list_pop PySem.F.type_list_pop mt_popAt (pe_ix ix_list (pv 5) (pv 8) (fun _ _ => rfl)) (pa_cons pe_int pa_nil)))
      (pss_cons (ps_expr (pe_bm PySem.F.plainAttrs_list PySem.F.slot_list_append PySem.F.type_list_append mt_append (pv 6) (pa_cons (pv 9) pa_nil)))
      (pss_one (ps_asg (pe_op op_sub (pe_ix ix_list (pv 4) (pv 8) (fun _ _ => rfl)) (pe_ix ix_tup (pv 9) pe_int (fun _ _ => rfl))) (pg_sub (pv 4) (pv 8) set_list)))))) pss_nil)))
      (pss_one (ps_ret (pe_tup (pa_cons (pe_op op_add (pe_ix ix_tup (pv 2) pe_int (fun _ _ => rfl)) (pe_ix ix_tup (pv 3) pe_int (fun _ _ => rfl))) (pa_cons (pv 6) pa_nil))))))))), ?_⟩
    walk_at "z0"
    walk_at "z"
    refine Z.ixT (tupT hf) (v := .int s1) rfl ?_
    walk_at "z"
    refine Z.ixT (tupT hg) (v := .int s2) rfl ?_
    walk_at "z"
    refine Z.lstK (fun L H2 nL k2 eL => ?_)
    walk_at "z"
    refine Z.ixT (tupT (k2.get nin0 hf)) (v := .ref c1) rfl ?_
    walk_at "z"
    refine Z.listL (lstL (k2.get nin0 hc1)) (fun A0 H3 n0 k3 e0 => ?_)
    walk_at "z"
    refine Z.ixT (tupT ((k2.trans k3).get nin0 hg)) (v := .ref c2) rfl ?_
    walk_at "z"
    refine Z.listL (lstL ((k2.trans k3).get nin0 hc2)) (fun A1 H4 n1 k4 e1 => ?_)
    walk_at "z"
    refine Z.lstK (fun W H5 nW k5 eW => ?_)
    walk_at "z"
    refine Z.lstK (fun D H6 nD k6 eD => ?_)
    have k26 := ((k2.trans k3).trans (k4.trans k5)).trans k6
    have hB6 := hB.kp0 k26
    have eL6 := ((k3.trans k4).trans (k5.trans k6)).get nin0 eL
    have e06 := ((k4.trans k5).trans k6).get nin0 e0
    have e16 := (k5.trans k6).get nin0 e1
    have eW6 := k6.get nin0 eW
    have tL := (hB.ne nL)
    have t0 := ((hB.kp0 k2).ne n0)
    have t1 := ((hB.kp0 (k2.trans k3)).ne n1)
    have tW := ((hB.kp0 ((k2.trans k3).trans k4)).ne nW)
    have tD := ((hB.kp0 ((k2.trans k3).trans (k4.trans k5))).ne nD)
    have d0L : A0 ≠ L := (ne_of_none eL n0).symm
    have d1L : A1 ≠ L := (ne_of_none (k3.get nin0 eL) n1).symm
    have dWL : W ≠ L := (ne_of_none ((k3.trans k4).get nin0 eL) nW).symm
    have dDL : D ≠ L := (ne_of_none (((k3.trans k4).trans k5).get nin0 eL) nD).symm
    have d10 : A1 ≠ A0 := (ne_of_none e0 n1).symm
    have dW0 : W ≠ A0 := (ne_of_none (k4.get nin0 e0) nW).symm
    have dD0 : D ≠ A0 := (ne_of_none ((k4.trans k5).get nin0 e0) nD).symm
    have dW1 : W ≠ A1 := (ne_of_none e1 nW).symm
    have dD1 : D ≠ A1 := (ne_of_none (k5.get nin0 e1) nD).symm
    have dDW : D ≠ W := (ne_of_none eW nD).symm
    have st : OkW wR size (s1 + s2) (ps ++ qs) ⟨[s1, s2], [ps, qs], []⟩ := OkW.start hK1 hK2
    obtain ⟨sz, hsz⟩ : ∃ n : Nat, size = (n : Int) := ⟨size.toNat, by omega⟩
    walk_at "z"
    refine Z.forr sz hsz (by omega) (fun i σ' H' => ∃ (s : SU (Addr × Row)) (y1 y2 y3 : Option V), s = runW wR ns p ⟨[s1, s2], [ps, qs], []⟩ i ∧ σ' = [some (.ref b), some (.int size), some (.ref f), some (.ref g), some (.ref L), some (.ref W), some (.ref D), y1, y2, y3] ∧ Kp [b, L, A0, A1, W, D] H6 H' ∧ BoxAt H' b l ns (p + s.dr.length) ∧ H' L = some (.lst (s.ls.map V.int)) ∧ H' W = some (.lst [.ref A0, .ref A1]) ∧ (∀ (j : Nat) (A : Addr) (w : List (Addr × Row)), [A0, A1][j]? = some A → s.ws[j]? = some w → H' A = some (.lst (refs w))) ∧ H' D = some (.lst (refs s.dr))) ?_ ?_ ?_
    · refine ⟨_, none, none, none, rfl, rfl, Kp.refl _, hB6, eL6, eW6, fun j A w hA hw => ?_, eD⟩
      match j, hA, hw with
      | 0, hA, hw => cases hA; cases hw; exact e06
      | 1, hA, hw => cases hA; cases hw; exact e16
      | j + 2, hA, hw => simp at hA
    · rintro i σ' Hi hi ⟨s, y1, y2, y3, hs, rfl, ki, Bi, eLi, eWi, eAi, eDi⟩
      obtain ⟨ok, hdl, hds⟩ := st.run ns p rfl hpos i (by omega)
      rw [← hs] at ok hdl hds
      walk_at "z"
      refine Z.sumL (lstL eLi) ?_
      walk_at "z"
      refine Z.ite (fun c2 => ?_) (fun c2 => ?_)
      · have hdr := hds c2
        obtain ⟨sd, lf, z, w, tn, ok'⟩ := ok.turn hpos (by omega) c2 (ns.getD (p + s.dr.length) 0)
        have hsl := (List.getElem?_eq_some_iff.mp tn.hl).1
        have hl2 := ok.len
        obtain ⟨A, hA⟩ : ∃ A, [A0, A1][sd]? = some A := ⟨_, List.getElem?_eq_getElem (show sd < 2 by omega)⟩
        have eA := eAi sd A (z :: w) hA tn.hw
        have hAm : A = A0 ∨ A = A1 := by
          have := List.mem_of_getElem? hA
          simpa using this
        have hAt : A ≠ b := by rcases hAm with e | e <;> rw [e]; exact t0.1; exact t1.1
        have hDA : D ≠ A := by rcases hAm with e | e <;> rw [e]; exact dD0; exact dD1
        have hAL : A ≠ L := by rcases hAm with e | e <;> rw [e]; exact d0L; exact d1L
        have hWA : W ≠ A := by rcases hAm with e | e <;> rw [e]; exact dW0; exact dW1
        have hAl : A ≠ l := by rcases hAm with e | e <;> rw [e]; exact t0.2; exact t1.2
        have hWx : atI [V.ref A0, V.ref A1] (sd : Int) = some (.ref A) := atI_nat (by match sd, hA with | 0, hA => (cases hA; rfl) | 1, hA => (cases hA; rfl) | j + 2, hA => simp at hA)
        have hzm : z ∈ ps ++ qs := ok.perm.mem_iff.mp (List.mem_append_right _ (List.mem_flatten.mpr ⟨z :: w, List.mem_of_getElem? tn.hw, by simp⟩))
        have hz6 : RowAt H6 z.1 z.2 := by
          rcases List.mem_append.mp hzm with h | h
          · exact (hps.kp0 k26) z h
          · exact (hqs.kp0 k26) z h
        have hzi : RowAt Hi z.1 z.2 := ki.get (by
          have this := hz6
          unfold RowAt at this
          intro y
          simp at y
          rcases y with y | y | y | y | y | y
          · rw [y, hB6.1] at this; cases this
          · rw [y, eL6] at this; cases this
          · rw [y, e06] at this; cases this
          · rw [y, e16] at this; cases this
          · rw [y, eW6] at this; cases this
          · rw [y, eD] at this; cases this) hz6
        walk_at "z"
        refine ⟨b, l, L, ns, s.ls, p + s.dr.length, rfl, Bi, eLi, ⟨ok.pos hpos, c2⟩, by omega, fun G2 j2 B2 => ?_⟩
        rw [tn.side]
        have jT : ∀ {x : Addr} {o : HO}, x ≠ b → Hi x = some o → G2 x = some o := fun hb e => j2.get (nin1 hb) e
        walk_at "z"
        refine Z.ixL (lstL (jT tW.1 eWi)) hWx ?_
        have eA2 := jT hAt eA
        refine ⟨Z.tyL eA2, ?_⟩
        walk_at "z"
        refine ⟨A, refs (z :: w), 0, 0, .ref z.1, rfl, rfl, eA2, by decide, by decide, ?_, rfl, ?_⟩
        · rw [PySem.seqIndex_of (by decide) (by rw [refs_len, List.length_cons]; omega)]; rfl
        rw [show (refs (z :: w)).eraseIdx 0 = refs w from rfl]
        have eD3 : (upd G2 A (.lst (refs w))) D = some (.lst (refs s.dr)) := (upd_ne hDA).trans (jT tD.1 eDi)
        walk_at "z"
        refine ⟨Z.tyL eD3, ?_⟩
        walk_at "z"
        refine Z.app (xs := refs s.dr) eD3 (Z.szl (m := 1000) (by rw [refs_len]; omega)) ?_
        rw [← refs_snoc]
        have eL4 : (upd (upd G2 A (.lst (refs w))) D (.lst (refs (s.dr ++ [z])))) L = some (.lst (s.ls.map V.int)) := by
          rw [upd_ne dDL.symm, upd_ne hAL.symm]; exact jT tL.1 eLi
        walk_at "z"
        refine Z.ixL (lstL eL4) (atM tn.hl) ?_
        walk_at "z"
        have hz4 : RowAt (upd (upd G2 A (.lst (refs w))) D (.lst (refs (s.dr ++ [z])))) z.1 z.2 := by
          have hzt : z.1 ≠ b := fun y => by
            have this := hzi
            unfold RowAt at this
            rw [y, Bi.1] at this; cases this
          have hzA : z.1 ≠ A := fun y => by
            have this := hzi
            unfold RowAt at this
            rw [y, eA] at this; cases this
          have hzD : z.1 ≠ D := fun y => by
            have this := hzi
            unfold RowAt at this
            rw [y, eDi] at this; cases this
          unfold RowAt
          rw [upd_ne hzD, upd_ne hzA]
          exact jT hzt hzi
        refine hz4.w2 ?_
        walk_at "z"
        refine Z.setL eL4 (ixN_nat (by rw [List.length_map]; exact hsl)) ?_
        walk_at "z"
        have kA : Kp [A, D, L] G2 (upd (upd (upd G2 A (.lst (refs w))) D (.lst (refs (s.dr ++ [z])))) L (.lst ((s.ls.map V.int).set sd (.int (lf - z.2.w))))) := ((Kp.put (by simp)).trans (Kp.put (by simp))).trans (Kp.put (by simp))
        have hnext : stepW wR (ns.getD (p + s.dr.length) 0) s = runW wR ns p ⟨[s1, s2], [ps, qs], []⟩ (i + 1) := by
          show _ = (if 0 < (runW wR ns p ⟨[s1, s2], [ps, qs], []⟩ i).ls.sum then _ else _)
          rw [← hs, if_pos c2]
        refine ⟨stepW wR (ns.getD (p + s.dr.length) 0) s, _, _, _, hnext, rfl, ?_, ?_, ?_, ?_, ?_, ?_⟩
        · refine ki.trans ((j2.sub (by simp)).trans (kA.sub ?_))
          intro x hx
          rcases hAm with e | e
          · rw [e] at hx
            simp at hx ⊢
            rcases hx with h | h | h <;> simp [h]
          · rw [e] at hx
            simp at hx ⊢
            rcases hx with h | h | h <;> simp [h]
        · rw [show p + (stepW wR (ns.getD (p + s.dr.length) 0) s).dr.length = p + s.dr.length + 1 by rw [tn.to, List.length_append]; rfl]
          exact ((B2.put hAt hAl).put tD.1 tD.2).put tL.1 tL.2
        · rw [tn.to, upd_same, List.map_set]; rfl
        · rw [upd_ne dWL, upd_ne dDW.symm, upd_ne hWA]
          exact jT tW.1 eWi
        · intro j B w' hB hw'
          rw [tn.to] at hw'
          have hBm : B = A0 ∨ B = A1 := by
            have := List.mem_of_getElem? hB
            simpa using this
          have hBL : B ≠ L := by rcases hBm with e | e <;> rw [e]; exact d0L; exact d1L
          have hDB : D ≠ B := by rcases hBm with e | e <;> rw [e]; exact dD0; exact dD1
          have hBt : B ≠ b := by rcases hBm with e | e <;> rw [e]; exact t0.1; exact t1.1
          rw [upd_ne hBL, upd_ne hDB.symm]
          by_cases hj : j = sd
          · subst hj
            rw [hA] at hB
            cases hB
            rw [List.getElem?_set_self (by omega)] at hw'
            cases hw'
            exact upd_same
          · rw [List.getElem?_set_ne (fun z => hj z.symm)] at hw'
            have hBA : B ≠ A := by
              intro e
              apply hj
              subst e
              have nd : ([A0, A1] : List Addr).Nodup := by simp [d10.symm]
              obtain ⟨hj1, ej⟩ := List.getElem?_eq_some_iff.mp hB
              obtain ⟨hs1, es⟩ := List.getElem?_eq_some_iff.mp hA
              exact (List.getElem_inj nd).mp (ej.trans es.symm)
            rw [upd_ne hBA]
            exact jT hBt (eAi j B w' hB hw')
        · rw [tn.to, upd_ne dDL, upd_same]
      · walk_at "z"
        have hnext : s = runW wR ns p ⟨[s1, s2], [ps, qs], []⟩ (i + 1) := by
          show _ = (if 0 < (runW wR ns p ⟨[s1, s2], [ps, qs], []⟩ i).ls.sum then _ else _)
          rw [← hs, if_neg c2]
        exact ⟨s, _, _, _, hnext, rfl, ki, Bi, eLi, eWi, eAi, eDi⟩
    · rintro σ' Hi ⟨s, y1, y2, y3, hs, rfl, ki, Bi, eLi, eWi, eAi, eDi⟩
      obtain ⟨ok, hdl, hds⟩ := st.run ns p rfl hpos sz (by omega)
      rw [← hs] at ok
      have notM : ∀ {a : Addr} {o : HO}, H6 a = some o → (∀ xs, o ≠ .lst xs) → a ∉ [b, L, A0, A1, W, D] := fun {a o} e no z => by
        simp at z
        rcases z with z | z | z | z | z | z
        · rw [z, hB6.1] at e; cases e; exact no _ rfl
        · rw [z, eL6] at e; cases e; exact no _ rfl
        · rw [z, e06] at e; cases e; exact no _ rfl
        · rw [z, e16] at e; cases e; exact no _ rfl
        · rw [z, eW6] at e; cases e; exact no _ rfl
        · rw [z, eD] at e; cases e; exact no _ rfl
      have hfi := ki.get (notM (k26.get nin0 hf) (fun _ z => by cases z)) (k26.get nin0 hf)
      have hgi := ki.get (notM (k26.get nin0 hg) (fun _ z => by cases z)) (k26.get nin0 hg)
      walk_at "z"
      refine Z.ixT (tupT hfi) (v := .int s1) rfl ?_
      walk_at "z"
      refine Z.ixT (tupT hgi) (v := .int s2) rfl ?_
      walk_at "z"
      refine Z.tupK (fun d H8 nd k8 e8 => ?_)
      have k6i : Kp [b, L, A0, A1, W, D] H Hi := (k26.sub (by simp)).trans ki
      have nH : ∀ {x : Addr}, Hi x = none → H x = none := fun {x} hb => k6i.none (by
        intro z
        simp at z
        rcases z with z | z | z | z | z | z
        · rw [z, Bi.1] at hb; cases hb
        · rw [z, eLi] at hb; cases hb
        · rw [z, eAi 0 A0 _ rfl (List.getElem?_eq_getElem (show 0 < s.ws.length by have := ok.len; omega))] at hb; cases hb
        · rw [z, eAi 1 A1 _ rfl (List.getElem?_eq_getElem (show 1 < s.ws.length by have := ok.len; omega))] at hb; cases hb
        · rw [z, eWi] at hb; cases hb
        · rw [z, eDi] at hb; cases hb) hb
      have kf : Kp [b, L, A0, A1, W, D] H H8 := k6i.trans (k8.sub (by simp))
      have kf2 : Kp [b] H H8 := fun x o nb e => kf x o (by
        intro z
        simp at z nb
        rcases z with z | z | z | z | z | z
        · exact nb z
        · rw [z, nL] at e; cases e
        · rw [z, k2.none nin0 n0] at e; cases e
        · rw [z, (k2.trans k3).none nin0 n1] at e; cases e
        · rw [z, ((k2.trans k3).trans k4).none nin0 nW] at e; cases e
        · rw [z, ((k2.trans k3).trans (k4.trans k5)).none nin0 nD] at e; cases e) e
      have hdr : s.dr = mrgW wR ns p size s1 ps s2 qs := by
        unfold mrgW
        rw [show size.toNat = sz by omega, hs]
      rw [hdr] at eDi Bi
      exact q H8 d D (nH nd) (((k2.trans k3).trans (k4.trans k5)).none nin0 nD) kf2 (Bi.kp0 k8) e8 (k8.get nin0 eDi)

/-! ### the law's looks at samples -/
theorem sh3 {a b : Int} {ps : List (Addr × Row)} (h : ∀ x ∈ ps, RowS x.2) : SeqAt.shaped (.tuple [.int a, .int b, .list (rowsD ps)]) = true := by
  have := depthRows ps
  simp [SeqAt.shaped, PyData.canLay0, PyData.canLayAll0, PyData.depth, PyData.depthAll, layRows h]
  omega
theorem sh3t {a b : Int} {ps : List (Addr × Row)} (h : ∀ x ∈ ps, RowS x.2) : SeqAt.shaped (.tuple [.int a, .int b, .tuple (rowsD ps)]) = true := by
  have := depthRows ps
  simp [SeqAt.shaped, PyData.canLay0, PyData.canLayAll0, PyData.depth, PyData.depthAll, layRows h]
  omega
theorem lay3 {a b : Int} {ps : List (Addr × Row)} (h : ∀ x ∈ ps, RowS x.2) : PyData.canLay0 (.tuple [.int a, .int b, .list (rowsD ps)]) = true := by
  simp [PyData.canLay0, PyData.canLayAll0, layRows h]
theorem lay3t {a b : Int} {ps : List (Addr × Row)} (h : ∀ x ∈ ps, RowS x.2) : PyData.canLay0 (.tuple [.int a, .int b, .tuple (rowsD ps)]) = true := by
  simp [PyData.canLay0, PyData.canLayAll0, layRows h]
def spSameU (K : PySem.W.Frag) (C : Addr) : Sp := fun vs H Q _ => ∃ (x k d c : Addr) (size seen : Int) (ps : List (Addr × Row)), vs = [.ref x, .int size, .ref d] ∧ UniAt C H x k size seen ps ∧ H d = some (.tup [.int seen, .ref c]) ∧ H c = some (.lst (refs ps)) ∧ RowsAt H ps ∧ (∀ z ∈ ps, RowS z.2) ∧ ps.length ≤ 1000 ∧ ∀ H', Kp [] H H' → Q (.bl true) H'
theorem ok__law_same {P : Program} {w : World} {K : PySem.W.Frag} {mg : Str → Option Value} {base : Heap} (T : T P K mg) : FnOk P w K mg base CX0 3 T.a__law_same T.fd__law_same ["sample", "size", "data"] (spSameU K T.C_Weighted) := by
  refine T.F__law_same.ok sc__law_same (fun vs H Q E h => ?_) (fun cdv A outer s H vs Q E hr h => ?_)
  · obtain ⟨x, k, d, c, size, seen, ps, rfl, _⟩ := h
    rfl
  · obtain ⟨x, k, d, c, size, seen, ps, rfl, hU, hd, hc, hR, hS, hn, q⟩ := h
    obtain ⟨⟨dx, hx⟩, hk⟩ := id hU
    refine ⟨_, (pss_cons (ps_if (PW.pt (pw_or (pt_not (pt_val (pe_callB call_isi (by rfl) T.z_isinstance (by decide +kernel) (pa_cons (pv 0) (pa_cons (pe_glob (v := .ref T.C_Weighted) (by rfl) T.mg_Weighted rfl) pa_nil))))) (pw_or1 (pt_cmpR (op_neD hr.units) (pe_tup (pa_cons (pe_fld (pv 0) rfl) (pa_cons (pe_fld (pv 0) rfl) (pa_cons (pe_fld (pv 0) rfl) pa_nil)))) (pe_tup (pa_cons (pv 1) (pa_cons (pe_ix ix_tup (pv 2) pe_int (fun _ _ => rfl)) (pa_cons (pe_ix ix_tup (pv 2) pe_int (fun _ _ => rfl)) pa_nil)))) (nomark _))))) (pss_one (ps_ret pe_bl)) pss_nil)
      (pss_one (ps_ret (pe_cmpR (op_eqD hr.units) (pe_meth0 (pv 0) T.cl_Weighted T.me_Weighted_view (ok_Weighted_view T) (hr.mono (by decide)) T.b_Weighted_view .nil pass0) (pe_tup (pa_cons (pv 1) (pa_cons (pe_ix ix_tup (pv 2) pe_int (fun _ _ => rfl)) (pa_cons (pe_callTy c_tuple (by rfl) T.z_tuple (by decide +kernel) (pa_cons (pe_ix ix_tup (pv 2) pe_int (fun _ _ => rfl)) pa_nil)) pa_nil)))) (nomark _))))), ?_⟩
    walk_at "z0"
    walk_at "z"
    refine isU T hU ?_
    walk_at "z"
    refine ⟨x, _, dx, _, _, rfl, hx, T.cl_Weighted, T.na_Weighted_size, uf_size size seen k, ?_⟩
    walk_at "z"
    refine ⟨x, _, dx, _, _, rfl, hx, T.cl_Weighted, T.na_Weighted_total, uf_total size seen k, ?_⟩
    walk_at "z"
    refine ⟨x, _, dx, _, _, rfl, hx, T.cl_Weighted, T.na_Weighted_kept, uf_kept size seen k, ?_⟩
    walk_at "z"
    refine Z.tupK (fun t1 H1 n1 k1 e1 => ?_)
    walk_at "z"
    refine Z.ixT (tupT (k1.get nin0 hd)) (v := .int seen) rfl ?_
    walk_at "z"
    refine Z.ixT (tupT (k1.get nin0 hd)) (v := .ref c) rfl ?_
    walk_at "z"
    refine Z.tupK (fun t2 H2 n2 k2 e2 => ?_)
    have hR2 := hR.kp0 (k1.trans k2)
    refine ⟨.tuple [.int size, .int seen, .list (rowsD ps)], .tuple [.int size, .int seen, .list (rowsD ps)], .tup (tupT (k2.get nin0 e1)) (.cons (.int _) (.cons (.int _) (.cons (dpRows ((k1.trans k2).get nin0 hk) hR2) .nil))), .tup (tupT e2) (.cons (.int _) (.cons (.int _) (.cons (dpRows ((k1.trans k2).get nin0 hc) hR2) .nil))), sh3 hS, sh3 hS, ?_⟩
    rw [SeqAt.eqv_refl _ (lay3 hS)]
    have k12 := k1.trans k2
    walk_at "z"
    refine ⟨x, dx, _, rfl, k12.get nin0 hx, rfl, ?_⟩
    walk_at "z"
    refine ⟨x, k, size, seen, ps, rfl, hU.kp0 k12, hn, fun H3 t u nt k3 et eu => ?_⟩
    walk_at "z"
    refine Z.ixT (tupT ((k12.trans k3).get nin0 hd)) (v := .int seen) rfl ?_
    walk_at "z"
    refine Z.ixT (tupT ((k12.trans k3).get nin0 hd)) (v := .ref c) rfl ?_
    walk_at "z"
    refine ⟨c, refs ps, rfl, .inl ⟨lstL ((k12.trans k3).get nin0 hc), fun u2 nu2 => ?_⟩⟩
    have k4 : Kp [] H3 (upd H3 u2 (.tup (refs ps))) := Kp.new nu2
    have e4 : upd H3 u2 (.tup (refs ps)) u2 = some (.tup (refs ps)) := upd_same
    generalize upd H3 u2 (.tup (refs ps)) = H4 at k4 e4 ⊢
    walk_at "z"
    refine Z.tupK (fun t5 H5 n5 k5 e5 => ?_)
    have k35 := k4.trans k5
    have hR5 := hR2.kp0 (k3.trans k35)
    refine ⟨.tuple [.int size, .int seen, .tuple (rowsD ps)], .tuple [.int size, .int seen, .tuple (rowsD ps)], .tup (tupT (k35.get nin0 et)) (.cons (.int _) (.cons (.int _) (.cons (.tup (tupT (k35.get nin0 eu)) (dpRowsAll hR5)) .nil))), .tup (tupT e5) (.cons (.int _) (.cons (.int _) (.cons (.tup (tupT (k5.get nin0 e4)) (dpRowsAll hR5)) .nil))), sh3t hS, sh3t hS, ?_⟩
    rw [SeqAt.eqv_refl _ (lay3t hS)]
    exact q H5 (k12.trans (k3.trans k35))
/-! ### refusals -/
def spRefused (K : PySem.W.Frag) (C : Addr) : Sp := fun vs H Q _ => ∃ (x k y m : Addr) (size s1 size2 s2 : Int) (ps qs : List (Addr × Row)), vs = [.ref x, .ref y] ∧ UniAt C H x k size s1 ps ∧ UniAt C H y m size2 s2 qs ∧ RowsAt H ps ∧ RowsAt H qs ∧ (∀ z ∈ ps, RowS z.2) ∧ (∀ z ∈ qs, RowS z.2) ∧ ps.length ≤ 100 ∧ qs.length ≤ 100 ∧ 1 ≤ size ∧ size ≤ 30 ∧
  (size2 ≠ size → ∀ H' t, H t = none → Kp [] H H' → H' t = some (.tup [.str "kind", .str ""]) → Q (.ref t) H') ∧
  (size2 = size → ∀ s, twice (sortS (keysOf [ps, qs])) = some s → ∀ H' t, H t = none → Kp [] H H' → H' t = some (.tup [.str "key", .str s]) → Q (.ref t) H') ∧
  (size2 = size → twice (sortS (keysOf [ps, qs])) = none → KeptW wR size s1 ps ∧ KeptW wR size s2 qs ∧ (∀ z ∈ ps ++ qs, 1 ≤ wR z) ∧ ∀ H', Kp [] H H' → Q .non H')
theorem ok__law_refused {P : Program} {w : World} {K : PySem.W.Frag} {mg : Str → Option Value} {base : Heap} (T : T P K mg) : FnOk P w K mg base CX0 6 T.a__law_refused T.fd__law_refused ["first", "second"] (spRefused K T.C_Weighted) := by
  refine T.F__law_refused.ok sc__law_refused (fun vs H Q E h => ?_) (fun cdv A outer s H vs Q E hr h => ?_)
  · obtain ⟨_, _, _, _, _, _, _, _, _, _, rfl, _⟩ := h
    rfl
  · obtain ⟨x, k, y, m, size, s1, size2, s2, ps, qs, rfl, hU, hV, hps, hqs, hpS, hqS, hpn, hqn, hz0, hz1, q1, q2, q3⟩ := h
    obtain ⟨⟨dx, hx⟩, hk⟩ := id hU
    refine ⟨_, (pss_cons (Many.ps_try_named rfl rfl takes0 (fun W pn xe tk po => (pss_one (ps_expr (ClsM.pe_methA (pv 0) T.cl_Weighted T.me_Weighted_merge (ok_Weighted_merge T) (hr.mono (by decide)) T.b_Weighted_merge (fun σ => passAt tk σ) (pa_cons (pv 1) (pa_cons (pe_make T.mk_Tape (ok_Tape_init T) (hr.mono (by decide)) (by rfl) T.mg_Tape T.b_Tape_init .nil pass0 (pa_cons (pe_lst pa_nil) pa_nil)) pa_nil)))))) (.bare ⟨by rfl, by decide, .inl T.x_WrongKind.g⟩ (fun a oe cls d pn hz hf => (pss_one (ps_ret (pe_tup (pa_cons pe_str (pa_cons pe_str pa_nil)))))) (.named (i := 2) sc__law_refused.nd rfl rfl ⟨by rfl, by decide, .inl T.x_SharedKey.g⟩ (fun a oe cls d pn hz hf => (pss_one (ps_ret (pe_tup (pa_cons pe_str (pa_cons (pe_xf T.x_SharedKey.xf T.nf_SharedKey_key hz hf (pv 2)) pa_nil)))))) (.bare ⟨by rfl, by decide, .inl T.mg_SamphireError⟩ (fun a oe cls d pn hz hf => (pss_one (ps_ret (pe_tup (pa_cons pe_str (pa_cons pe_str pa_nil)))))) .nil))))
      (pss_one (ps_ret pe_non))), ?_⟩
    walk_at "z0"
    walk_at "z"
    refine ClsM.methA ?_
    walk_at "z"
    refine ⟨x, dx, _, rfl, hx, rfl, ?_⟩
    walk_at "z"
    refine Z.lstK (fun b H1 nb k1 e1 => ?_)
    walk_at "z"
    intro z dz nz ndz hdz
    refine ⟨z, b, dz, [], rfl, upd_same, .inl (.inl ((Kp.made nz ndz).get nin0 e1)), fun H8 l nl k8 hT => ⟨rfl, ?_⟩⟩
    have k3 : Kp [] H1 H8 := fun b o _ e => k8 b o (by
      intro q
      rw [List.mem_singleton.mp q, nz] at e
      cases e) ((Kp.made (M := []) nz ndz) b o (by simp) e)
    have k13 := k1.trans k3
    walk_at "z"
    refine ⟨x, k, y, m, z, l, size, s1, size2, s2, ps, qs, [], 0, rfl, hU.kp0 k13, hV.kp0 k13, hps.kp0 k13, hqs.kp0 k13, hpS, hqS, hpn, hqn, fun hne => ?_, fun heq s hs H9 d k9 nd => ?_, fun heq hno => ?_⟩
    · refine Many.wish_yes T.x_WrongKind.te fun a na => ?_
      simp only [Many.ends, Many.bound]
      walk_at "z"
      refine Z.tupK (fun t H2 nt k2 e2 => ?_)
      exact q1 hne H2 t (k13.none nin0 nt) (k13.trans k2) e2
    · refine Many.wish_no T.exm_SharedKey_WrongKind (Many.wish_yes T.x_SharedKey.te fun a na => ?_)
      simp only [Many.ends, Many.bound, List.set]
      walk_at "z"
      refine ⟨_, rfl, rfl, rfl, d, _, .str s, rfl, upd_same, rfl, ?_⟩
      walk_at "z"
      refine Z.tupK (fun t H2 nt k2 e2 => ?_)
      have kd : Kp [] H9 (upd H9 d (.xd (flF "key" [.str s]))) := Kp.new nd
      have kk := (k13.trans k9).trans kd
      exact q2 heq s hs H2 t (kk.none nin0 nt) (kk.trans k2) e2
    · obtain ⟨hK1, hK2, hpos, q3⟩ := q3 heq hno
      refine ⟨hT, hz0, hz1, hK1, hK2, hpos, fun H9 u ku nu nku k9 T9 U9 => ?_⟩
      walk_at "z"
      refine q3 H9 (k1.trans fun c o _ e => k9 c o (by
        intro y
        rw [List.mem_singleton.mp y, nz] at e
        cases e) (k3 c o (by simp) e))
/-! ### sizes that are refused -/
def spSizes (K : PySem.W.Frag) : Sp := fun vs H Q _ => ∃ (it : Addr) (r : Row), vs = [.ref it] ∧ RowAt H it r ∧ ∀ H' t, H t = none → Kp [] H H' → H' t = some (.lst [.int 0, .int 0, .int 21, .int 21, .int (-3), .int (-3)]) → Q (.ref t) H'
def sz3 : List Int := [0, 21, -3]
def szs : Nat → List V
  | 0 => []
  | i + 1 => szs i ++ [.int (sz3.getD i 0), .int (sz3.getD i 0)]
theorem ok__law_sizes {P : Program} {w : World} {K : PySem.W.Frag} {mg : Str → Option Value} {base : Heap} (T : T P K mg) : FnOk P w K mg base CX0 5 T.a__law_sizes T.fd__law_sizes ["item"] (spSizes K) := by
  refine T.F__law_sizes.ok sc__law_sizes (fun vs H Q E h => ?_) (fun cdv A outer s H vs Q E hr h => ?_)
  · obtain ⟨it, r, rfl, _⟩ := h
    rfl
  · obtain ⟨it, r, rfl, hR, q⟩ := h
    refine ⟨_, (pss_cons (ps_set (i := 1) sc__law_sizes.nd rfl (by first | exact Or.inl rfl | exact Or.inr rfl) (pe_lst pa_nil))
      (pss_cons (ps_for PassesOwn.never rfl (pi_list (pe_lst (pa_cons pe_int (pa_cons pe_int (pa_cons (pe_un un_neg pe_int) pa_nil))))) (pg_name (i := 2) sc__law_sizes.nd rfl (by first | exact Or.inl rfl | exact Or.inr rfl)) (pss_one (ps_for PassesOwn.never rfl (pi_range1 (by rfl) T.z_range (pa_cons pe_int pa_nil)) (pg_name (i := 3) sc__law_sizes.nd rfl (by first | exact Or.inl rfl | exact Or.inr rfl)) (pss_one (ps_try_as (i := 4) rfl rfl sc__law_sizes.nd rfl rfl ⟨by rfl, by decide, .inl T.x_InvalidSize.g⟩ takes0 (fun W pn xe tk po => (pss_one (ps_if (pt_cmpR op_eq (pv 3) pe_int (nomark _)) (pss_one (ps_expr (ClsM.pe_cm (pe_glob (v := .ref T.C_Weighted) (by rfl) T.mg_Weighted rfl) T.cr_Weighted T.cm_Weighted_empty (ok_Weighted_empty T) T.b_Weighted_empty (hr.mono (by decide)) (fun σ => passAt tk σ) (pa_cons (pv 2) pa_nil)))) (pss_one (ps_expr (ClsM.pe_cm (pe_glob (v := .ref T.C_Weighted) (by rfl) T.mg_Weighted rfl) T.cr_Weighted T.cm_Weighted_single (ok_Weighted_single T) T.b_Weighted_single (hr.mono (by decide)) (fun σ => passAt tk σ) (pa_cons (pv 0) (pa_cons (pv 2) pa_nil)))))))) (fun a oe cls d pn hz hf => (pss_one (ps_expr ((pe_bm PySem.F.plainAttrs_list PySem.F.slot_list_append PySem.F.type_list_append mt_append (pv 1) (pa_cons (pe_xf T.x_InvalidSize.xf T.nf_InvalidSize_size hz hf (pv 4)) pa_nil)) : PE _ _ (tBM K "list" _ _ _))))))))))
      (pss_one (ps_ret (pv 1))))), ?_⟩
    walk_at "z0"
    walk_at "z"
    refine Z.lstK (fun F H1 nF k1 e1 => ?_)
    walk_at "z"
    refine Z.lstK (fun S H2 nS k2 e2 => ?_)
    have nFS : F ≠ S := ne_of_none e1 nS
    have hit : it ≠ F := fun z => by
      have := hR
      unfold RowAt at this
      rw [z, nF] at this
      cases this
    walk_at "z"
    refine Z.forl [.int 0, .int 21, .int (-3)] (lstL e2) (fun i σ' H' => ∃ y2 y3, σ' = [some (.ref it), some (.ref F), y2, y3, none] ∧ Kp [F] H2 H' ∧ H' F = some (.lst (szs i))) ⟨none, none, rfl, Kp.refl _, k2.get nin0 e1⟩ ?_ ?_ ?_
    · rintro i σ' H3 hi ⟨y2, y3, rfl, k3, e3⟩
      exact lstL (k3.get (nin1 nFS.symm) e2)
    · rintro i v σ' H3 hv ⟨y2, y3, rfl, k3, e3⟩
      have hi : i < 3 := (List.getElem?_eq_some_iff.mp hv).1
      obtain ⟨n, rfl, hn, hn0, hn1, hn2⟩ : ∃ n : Int, v = .int n ∧ sz3.getD i 0 = n ∧ -5 ≤ n ∧ n ≤ 30 ∧ ¬ (1 ≤ n ∧ n ≤ 20) := by
        match i, hv with
        | 0, hv => exact ⟨0, (Option.some.inj hv).symm, rfl, by decide, by decide, by decide⟩
        | 1, hv => exact ⟨21, (Option.some.inj hv).symm, rfl, by decide, by decide, by decide⟩
        | 2, hv => exact ⟨-3, (Option.some.inj hv).symm, rfl, by decide, by decide, by decide⟩
        | i + 3, hv => omega
      have hsl : ∀ i : Nat, i ≤ 3 → (szs i).length ≤ 6 := fun i hi => by
        match i, hi with
        | 0, _ => decide
        | 1, _ => decide
        | 2, _ => decide
        | 3, _ => decide
      walk_at "z"
      refine Z.forr 2 rfl (by omega) (fun j σ' H' => ∃ y3, σ' = [some (.ref it), some (.ref F), some (.int n), y3, none] ∧ Kp [F] H2 H' ∧ H' F = some (.lst (szs i ++ List.replicate j (.int n)))) ⟨_, rfl, k3, by rw [List.replicate_zero, List.append_nil]; exact e3⟩ ?_ ?_
      · rintro j σ' H4 hj ⟨y3, rfl, k4, e4⟩
        walk_at "z"
        have fin : ∀ (D : Ends) (d : Addr), (∀ H', Kp [F] H2 H' → H' F = some (.lst (szs i ++ List.replicate (j + 1) (.int n))) → D.nx [some (.ref it), some (.ref F), some (.int n), some (.int (j : Int)), none] H') → H4 d = none → wAs K (.ref T.C_InvalidSize) 4 (fun a cls d => tDrop (tBM K "list" rAppend (tVar 1) (tCons (tXf a cls d T.C_InvalidSize ("size" : Str) (tVar 4)) tNil))) (fun _ _ _ _ => False) D (.ref T.C_InvalidSize) (some d) [some (.ref it), some (.ref F), some (.int n), some (.int (j : Int)), none] (upd H4 d (.xd (flF "size" [.int n]))) := by
          intro D d hD nd
          have kd : Kp [] H4 (upd H4 d (.xd (flF "size" [.int n]))) := Kp.new nd
          refine ⟨true, T.x_InvalidSize.te, fun _ a na => ?_, fun z => by cases z⟩
          dsimp only [List.set]
          walk_at "z"
          have e5 := kd.get nin0 e4
          refine ⟨Z.tyL e5, ?_⟩
          walk_at "z"
          refine ⟨_, rfl, rfl, rfl, d, _, .int n, rfl, upd_same, rfl, ?_⟩
          walk_at "z"
          have hl := hsl i (by omega)
          refine Z.app e5 (Z.szl (m := 1000) (by rw [List.length_append, List.length_replicate]; omega)) ?_
          have hst : [some (V.ref it), some (V.ref F), some (V.int n), some (V.int (j : Int)), some (V.ref a)].set 4 none = [some (V.ref it), some (V.ref F), some (V.int n), some (V.int (j : Int)), none] := rfl
          rw [hst]
          refine hD _ ((k4.trans (kd.sub (by simp))).trans (Kp.put (by simp))) ?_
          rw [upd_same, List.replicate_succ', List.append_assoc]
        refine Z.ite (fun h1 => ?_) (fun h1 => ?_)
        · walk_at "z"
          refine ClsM.cm ?_
          walk_at "z"
          refine ⟨rfl, ?_⟩
          walk_at "z"
          exact ⟨n, rfl, hn0, hn1, fun h => absurd h hn2, fun _ d nd => fin _ d (fun H' k e => ⟨_, rfl, k, e⟩) nd⟩
        · walk_at "z"
          refine ClsM.cm ?_
          walk_at "z"
          refine ⟨rfl, ?_⟩
          walk_at "z"
          exact ⟨n, it, r, rfl, (k4.get (nin1 hit) (k2.get nin0 (k1.get nin0 hR)) : RowAt H4 it r), hn0, hn1, fun h => absurd h hn2, fun _ d nd => fin _ d (fun H' k e => ⟨_, rfl, k, e⟩) nd⟩
      · rintro σ' H4 ⟨y3, rfl, k4, e4⟩
        refine ⟨_, _, rfl, k4, ?_⟩
        rw [e4]
        show _ = some (HO.lst (szs i ++ [V.int (sz3.getD i 0), V.int (sz3.getD i 0)]))
        rw [hn]; rfl
    · rintro σ' H3 ⟨y2, y3, rfl, k3, e3⟩
      walk_at "z"
      exact q H3 F nF (fun b o _ e => k3 b o (by
        intro z
        rw [List.mem_singleton.mp z, nF] at e
        cases e) (k2.get nin0 (k1.get nin0 e))) e3

/-! ### keys in order -/
open PyProof.Rows in
def leS (a b : Str) : Bool := !lexLt PyProof.Rows.itemOrd [.inr b.cps.toList] [.inr a.cps.toList]
theorem sortS_is (l : List Str) : sortS l = l.mergeSort leS := by
  have e := List.map_mergeSort (r := leS) (s := PySem.W.dataLe false Prod.snd) (f := fun s : Str => (V.str s, PyData.str s)) (l := l) (fun _ _ _ _ => rfl)
  unfold sortS strP
  rw [← e, List.map_map]
  exact List.map_id' _
theorem leS_ord : (∀ a b c, leS a b = true → leS b c = true → leS a c = true) ∧ (∀ a b, leS a b = true ∨ leS b a = true) := by
  have T := PySem.W.sortLe_total (PyProof.Rows.listOrd PyProof.Rows.itemOrd) false fun k : Str => PySem.W.keyToks (.str k)
  exact ⟨T.trans, T.total⟩
theorem leS_anti {a b : Str} (h1 : leS a b = true) (h2 : leS b a = true) : a = b := by
  unfold leS at h1 h2
  rw [Bool.not_eq_true'] at h1 h2
  have e := PyProof.Rows.lex_total (O := PyProof.Rows.itemOrd) _ _ h2 h1
  have e2 : a.cps.toList = b.cps.toList := Sum.inr.inj (List.cons.inj e).1
  have e3 : a.cps = b.cps := Array.toList_inj.mp e2
  obtain ⟨c⟩ := a
  obtain ⟨d⟩ := b
  cases e3
  rfl
theorem leR_key {x y : Addr × Row} (h : leR x y = true) : leS x.2.k y.2.k = true := by
  have h1 : (!PyProof.Rows.lexLt PyProof.Rows.itemOrd (PySem.W.keyToks (rowD y.2)) (PySem.W.keyToks (rowD x.2))) = true := h
  simp only [rowD, PySem.W.keyToks, PySem.W.keyToksAll, List.cons_append, List.nil_append] at h1
  rw [Bool.not_eq_true', PyProof.Rows.lex_self (O := PyProof.Rows.itemOrd)] at h1
  have h2 := (PyProof.Rows.lex_false (O := PyProof.Rows.itemOrd).mp h1).1
  unfold leS
  rw [Bool.not_eq_true', PyProof.Rows.lex_cons (O := PyProof.Rows.itemOrd), h2]
  simp [PyProof.Rows.lexLt]
theorem leR_ord : (∀ a b c, leR a b = true → leR b c = true → leR a c = true) ∧ (∀ a b, leR a b = true ∨ leR b a = true) := by
  have T := PySem.W.sortLe_total (PyProof.Rows.listOrd PyProof.Rows.itemOrd) false fun x : Addr × Row => PySem.W.keyToks (rowD x.2)
  exact ⟨T.trans, T.total⟩
theorem sortR_pw (ps : List (Addr × Row)) : (sortR ps).Pairwise fun a b => leR a b = true := List.pairwise_mergeSort (le := leR) leR_ord.1 (fun a b => Bool.or_eq_true_iff.mpr (leR_ord.2 a b)) ps
theorem sortR_sort (ps : List (Addr × Row)) : sortR (sortR ps) = sortR ps := List.mergeSort_of_pairwise (sortR_pw ps)
theorem sortS_perm (l : List Str) : (sortS l).Perm l := by rw [sortS_is]; exact List.mergeSort_perm _ _
theorem sortS_pw (l : List Str) : (sortS l).Pairwise fun a b => leS a b = true := by
  rw [sortS_is]
  exact List.pairwise_mergeSort (le := leS) leS_ord.1 (fun a b => Bool.or_eq_true_iff.mpr (leS_ord.2 a b)) l
theorem twice_nodup {l : List Str} (h : l.Nodup) : twice (sortS l) = none := twice_none fun i c d hc hd e => by
  have nd := (sortS_perm l).nodup_iff.mpr h
  obtain ⟨h1, e1⟩ := List.getElem?_eq_some_iff.mp hc
  obtain ⟨h2, e2⟩ := List.getElem?_eq_some_iff.mp hd
  have := (List.getElem_inj nd).mp (e2.trans (e.trans e1.symm))
  omega
theorem least_first {m k0 : Str} {l' r : List Str} (pw : (m :: l').Pairwise fun a b => leS a b = true) (hk : k0 ∈ m :: l') (hm : leS k0 m = true) : m = k0 := by
  rcases List.mem_cons.mp hk with h | h
  · exact h.symm
  · exact leS_anti ((List.pairwise_cons.mp pw).1 k0 h) hm
theorem twice_double {ks r : List Str} {k0 : Str} (e : ks = k0 :: r) (hle : ∀ k ∈ ks, leS k0 k = true) : twice (sortS (ks ++ ks)) = some k0 := by
  have hp := sortS_perm (ks ++ ks)
  have pw := sortS_pw (ks ++ ks)
  generalize sortS (ks ++ ks) = l at hp pw
  have hmem : ∀ x ∈ l, x ∈ ks := fun x hx => by
    have := hp.mem_iff.mp hx
    rcases List.mem_append.mp this with h | h <;> exact h
  cases l with
  | nil =>
    have := hp.length_eq
    rw [e] at this
    simp at this
  | cons m l' =>
    have hk0 : k0 ∈ m :: l' := hp.mem_iff.mpr (by rw [e]; simp)
    have e1 : m = k0 := least_first (r := r) pw hk0 (hle m (hmem m (by simp)))
    subst e1
    have hp' : l'.Perm (r ++ m :: r) := by
      rw [e] at hp
      exact (List.perm_cons m).mp hp
    cases l' with
    | nil =>
      have := hp'.length_eq
      simp at this
    | cons m' l'' =>
      have hk1 : m ∈ m' :: l'' := hp'.mem_iff.mpr (by simp)
      have e2 : m' = m := least_first (r := r) (List.pairwise_cons.mp pw).2 hk1 (hle m' (hmem m' (by simp)))
      subst e2
      unfold twice
      rw [if_pos rfl]
theorem twice_least {ks : List Str} {m : Str} (hm : m ∈ ks) (hle : ∀ k ∈ ks, leS m k = true) : twice (sortS (ks ++ ks)) = some m := by
  have e : sortS (ks ++ ks) = sortS ((m :: ks.erase m) ++ (m :: ks.erase m)) := by
    have hp : (ks ++ ks).Perm ((m :: ks.erase m) ++ (m :: ks.erase m)) := (List.perm_cons_erase hm).append (List.perm_cons_erase hm)
    rw [sortS_is, sortS_is]
    exact List.Perm.eq_of_pairwise (le := fun a b => leS a b = true) (fun a b _ _ h1 h2 => leS_anti h1 h2) (List.pairwise_mergeSort (le := leS) leS_ord.1 (fun a b => Bool.or_eq_true_iff.mpr (leS_ord.2 a b)) _) (List.pairwise_mergeSort (le := leS) leS_ord.1 (fun a b => Bool.or_eq_true_iff.mpr (leS_ord.2 a b)) _) (((List.mergeSort_perm _ _).trans hp).trans (List.mergeSort_perm _ _).symm)
  rw [e]
  exact twice_double (r := ks.erase m) rfl fun k hk => hle k ((List.perm_cons_erase hm).mem_iff.mpr hk)
theorem minS_spec : ∀ (r : List Str) (k : Str), MinS.minS k r ∈ k :: r ∧ ∀ x ∈ k :: r, leS (MinS.minS k r) x = true
  | [], k => ⟨by simp [MinS.minS], fun x hx => by
    rw [List.mem_singleton.mp hx]
    show leS k k = true
    rcases leS_ord.2 k k with h | h <;> exact h⟩
  | y :: r, k => by
    have lt : PySem.W.dataLt (.str y) (.str k) = !leS k y := by
      unfold leS
      rw [Bool.not_not]; rfl
    show (MinS.minS (if PySem.W.dataLt (.str y) (.str k) = true then y else k) r) ∈ k :: y :: r ∧ ∀ x ∈ k :: y :: r, leS (MinS.minS (if PySem.W.dataLt (.str y) (.str k) = true then y else k) r) x = true
    rw [lt]
    cases c : leS k y with
    | true =>
      rw [if_neg (by simp)]
      obtain ⟨h1, h2⟩ := minS_spec r k
      refine ⟨?_, fun x hx => ?_⟩
      · rcases List.mem_cons.mp h1 with h | h
        · rw [h]; simp
        · simp [h]
      · rcases List.mem_cons.mp hx with h | h
        · exact h2 x (by rw [h]; simp)
        · rcases List.mem_cons.mp h with h | h
          · rw [h]
            exact leS_ord.1 _ _ _ (h2 k (by simp)) c
          · exact h2 x (by simp [h])
    | false =>
      rw [if_pos (by simp)]
      obtain ⟨h1, h2⟩ := minS_spec r y
      have hyk : leS y k = true := by
        rcases leS_ord.2 k y with h | h
        · rw [c] at h; cases h
        · exact h
      refine ⟨?_, fun x hx => ?_⟩
      · rcases List.mem_cons.mp h1 with h | h
        · rw [h]; simp
        · simp [h]
      · rcases List.mem_cons.mp hx with h | h
        · rw [h]
          exact leS_ord.1 _ _ _ (h2 y (by simp)) hyk
        · exact h2 x h
theorem keysOf_two (ps qs : List (Addr × Row)) : keysOf [ps, qs] = ps.map (fun x => x.2.k) ++ qs.map fun x => x.2.k := by simp [keysOf]
theorem keysOf_perm {rs rs' : List (List (Addr × Row))} (h : rs.flatten.Perm rs'.flatten) : (keysOf rs).Perm (keysOf rs') := by
  have e : ∀ r : List (List (Addr × Row)), keysOf r = r.flatten.map fun x => x.2.k := fun r => by
    unfold keysOf
    rw [List.flatMap_def, List.map_flatten]
  rw [e, e]
  exact h.map _
theorem keysOf_flat (r : List (List (Addr × Row))) : keysOf r = r.flatten.map fun x => x.2.k := by
  unfold keysOf
  rw [List.flatMap_def, List.map_flatten]

/-! ### data of samples -/
structure Dat where
  t : Addr
  b : Addr
  seen : Int
  ps : List (Addr × Row)
def DatAt (H : Hp) (d : Dat) : Prop := H d.t = some (.tup [.int d.seen, .ref d.b]) ∧ H d.b = some (.lst (refs d.ps)) ∧ RowsAt H d.ps
structure DatOk (size : Int) (d : Dat) : Prop where
  kept : KeptW wR size d.seen d.ps
  len : d.ps.length ≤ 30
  pos : ∀ z ∈ d.ps, 1 ≤ wR z
  rows : ∀ z ∈ d.ps, RowS z.2
theorem DatAt.kp0 {H H' : Hp} {d : Dat} (h : DatAt H d) (k : Kp [] H H') : DatAt H' d := ⟨k.get nin0 h.1, k.get nin0 h.2.1, h.2.2.kp0 k⟩
theorem DatAt.kpd {H H' : Hp} {a : Addr} {d : Dat} (h : DatAt H d) (k : Kp [a] H H') (da : DrawsAt H a) (n : d.b ≠ a) : DatAt H' d := by
  refine ⟨k.get (nin1 fun z => ?_) h.1, k.get (nin1 n) h.2.1, h.2.2.kpd k da⟩
  obtain ⟨ns, e⟩ := da
  rw [← z, h.1] at e
  cases e
theorem refs_ne {ps : List (Addr × Row)} {l : Addr} {p : Int} : refs ps ≠ [.ref l, .int p] := by
  intro z
  match ps, z with
  | [], z => cases z
  | [x], z => cases z
  | [x, y], z => cases z
  | x :: y :: w :: r, z => cases z
theorem DatAt.kpb {H H' : Hp} {bx l : Addr} {ns : List Int} {p : Nat} {d : Dat} (h : DatAt H d) (k : Kp [bx] H H') (B : BoxAt H bx l ns p) : DatAt H' d := by
  refine ⟨k.get (nin1 fun z => ?_) h.1, k.get (nin1 fun z => ?_) h.2.1, h.2.2.kp1 k B.1⟩
  · have e := h.1
    rw [z, B.1] at e
    cases e
  · have e := h.2.1
    rw [z, B.1] at e
    exact refs_ne (HO.lst.inj (Option.some.inj e)).symm
theorem DatAt.kpt {H H' : Hp} {C tx l : Addr} {ns : List Int} {p : Nat} {d : Dat} (h : DatAt H d) (k : Kp [tx] H H') (B : TapeAt C H tx l ns p) : DatAt H' d := by
  obtain ⟨⟨dx, e⟩, _⟩ := B
  refine ⟨k.get (nin1 fun z => ?_) h.1, k.get (nin1 fun z => ?_) h.2.1, fun v hv => k.get (nin1 fun z => ?_) (h.2.2 v hv)⟩
  · have e1 := h.1
    rw [z, e] at e1
    cases e1
  · have e1 := h.2.1
    rw [z, e] at e1
    cases e1
  · have e1 := h.2.2 v hv
    unfold RowAt at e1
    rw [z, e] at e1
    cases e1
theorem UniAt.kp {M : List Addr} {C : Addr} {H H' : Hp} {x k : Addr} {size seen : Int} {ps : List (Addr × Row)} (h : UniAt C H x k size seen ps) (kk : Kp M H H') (n1 : x ∉ M) (n2 : k ∉ M) : UniAt C H' x k size seen ps := let ⟨⟨dx, h1⟩, h2⟩ := h; ⟨⟨dx, kk.get n1 h1⟩, kk.get n2 h2⟩
theorem UniAt.kpb {H H' : Hp} {C bx l x k : Addr} {ns : List Int} {p : Nat} {size seen : Int} {ps : List (Addr × Row)} (h : UniAt C H x k size seen ps) (kk : Kp [bx] H H') (B : BoxAt H bx l ns p) : UniAt C H' x k size seen ps := by
  obtain ⟨⟨dx, e⟩, ek⟩ := id h
  refine h.kp kk (nin1 fun z => ?_) (nin1 fun z => ?_)
  · rw [z, B.1] at e
    cases e
  · rw [z, B.1] at ek
    exact refs_ne (HO.lst.inj (Option.some.inj ek)).symm
theorem UniAt.kpt {H H' : Hp} {C CT tx l x k : Addr} {ns : List Int} {p : Nat} {size seen : Int} {ps : List (Addr × Row)} (h : UniAt C H x k size seen ps) (kk : Kp [tx] H H') (B : TapeAt CT H tx l ns p) : UniAt C H' x k size seen ps := by
  obtain ⟨⟨dx, e⟩, ek⟩ := id h
  obtain ⟨⟨dt, et⟩, _⟩ := B
  refine h.kp kk (nin1 fun z => ?_) (nin1 fun z => ?_)
  · rw [z, et] at e
    simp [uf, tf] at e
  · rw [z, et] at ek
    cases ek
theorem BoxAt.kpt {H H' : Hp} {CT tx l bx l2 : Addr} {ns ns2 : List Int} {p p2 : Nat} (h : BoxAt H bx l2 ns2 p2) (kk : Kp [tx] H H') (B : TapeAt CT H tx l ns p) : BoxAt H' bx l2 ns2 p2 := by
  obtain ⟨⟨dt, et⟩, _⟩ := B
  refine ⟨kk.get (nin1 fun z => ?_) h.1, kk.get (nin1 fun z => ?_) h.2⟩
  · have e := h.1
    rw [z, et] at e
    cases e
  · have e := h.2
    rw [z, et] at e
    cases e
theorem TapeAt.kpb {H H' : Hp} {CT tx l bx l2 : Addr} {ns ns2 : List Int} {p p2 : Nat} (h : TapeAt CT H tx l ns p) (kk : Kp [bx] H H') (B : BoxAt H bx l2 ns2 p2) : TapeAt CT H' tx l ns p := by
  obtain ⟨⟨dt, et⟩, el⟩ := h
  refine ⟨⟨dt, kk.get (nin1 fun z => ?_) et⟩, kk.get (nin1 fun z => ?_) el⟩
  · rw [z, B.1] at et
    cases et
  · rw [z, B.1] at el
    match ns, el with
    | [], el => cases el
    | [x], el => cases el
    | x :: y :: r, el => cases el
def datS (ds : List Dat) : List V := ds.map fun d => V.ref d.t
def keysD (ds : List Dat) : List Str := keysOf (ds.map Dat.ps)
/-- merged data -/
def mrgD (ns : List Int) (p : Nat) (size : Int) (d e : Dat) (t b : Addr) : Dat := ⟨t, b, d.seen + e.seen, mrgW wR ns p size d.seen d.ps e.seen e.ps⟩
theorem pos2 {size : Int} {d e : Dat} (hd : DatOk size d) (he : DatOk size e) : ∀ x ∈ d.ps ++ e.ps, 1 ≤ wR x := fun x hx => by
  rcases List.mem_append.mp hx with h | h
  · exact hd.pos x h
  · exact he.pos x h
theorem mrgD_ok {ns : List Int} {p : Nat} {size : Int} {d e : Dat} {t b : Addr} (h0 : 0 ≤ size) (h30 : size ≤ 30) (hd : DatOk size d) (he : DatOk size e) : DatOk size (mrgD ns p size d e t b) := by
  obtain ⟨hl, hk, r, hr⟩ := mrgW_all (ns := ns) (p := p) h0 hd.kept he.kept (pos2 hd he)
  have hm : ∀ z ∈ mrgW wR ns p size d.seen d.ps e.seen e.ps, z ∈ d.ps ++ e.ps := fun z hz => hr.mem_iff.mp (List.mem_append_left r hz)
  refine ⟨hk, ?_, fun z hz => pos2 hd he z (hm z hz), fun z hz => ?_⟩
  · show (mrgW wR ns p size d.seen d.ps e.seen e.ps).length ≤ 30
    omega
  · rcases List.mem_append.mp (hm z hz) with h | h
    · exact hd.rows z h
    · exact he.rows z h
theorem mrgD_keys {ns : List Int} {p : Nat} {size : Int} {d e : Dat} {t b : Addr} {rest : List Dat} (h0 : 0 ≤ size) (hd : DatOk size d) (he : DatOk size e) (nd : (keysD (d :: e :: rest)).Nodup) : (keysD (mrgD ns p size d e t b :: rest)).Nodup := by
  obtain ⟨_, _, r, hr⟩ := mrgW_all (ns := ns) (p := p) h0 hd.kept he.kept (pos2 hd he)
  unfold keysD at nd ⊢
  rw [keysOf_flat] at nd ⊢
  simp only [List.map_cons, List.flatten_cons] at nd ⊢
  have pp : ((mrgD ns p size d e t b).ps ++ (rest.map Dat.ps).flatten ++ r).Perm (d.ps ++ (e.ps ++ (rest.map Dat.ps).flatten)) := by
    have q1 : ((mrgD ns p size d e t b).ps ++ r).Perm (d.ps ++ e.ps) := hr
    have q2 : ((mrgD ns p size d e t b).ps ++ (rest.map Dat.ps).flatten ++ r).Perm ((mrgD ns p size d e t b).ps ++ r ++ (rest.map Dat.ps).flatten) := by
      rw [List.append_assoc, List.append_assoc]
      exact List.perm_append_comm.append_left _
    rw [← List.append_assoc]
    exact q2.trans (q1.append_right _)
  have nd2 := (pp.map fun x => x.2.k).nodup_iff.mpr nd
  rw [List.map_append] at nd2
  exact (List.nodup_append.mp nd2).1
theorem keysD_two {d e : Dat} {rest : List Dat} (nd : (keysD (d :: e :: rest)).Nodup) : (keysOf [d.ps, e.ps]).Nodup := by
  unfold keysD at nd
  rw [keysOf_flat] at nd ⊢
  simp only [List.map_cons, List.flatten_cons, List.map_append, List.map_nil, List.flatten_nil, List.append_nil] at nd ⊢
  rw [← List.append_assoc] at nd
  exact (List.nodup_append.mp nd).1

/-! ### what stands while samples are merged -/
structure Wd (C CT : Addr) (H : Hp) (sz : Int) (DL SL tx tl bx NL : Addr) (ns : List Int) (p : Nat) (ds : List Dat) (xs : List (Addr × Addr)) : Prop where
  dl : H DL = some (.lst (datS ds))
  sl : H SL = some (.lst (xs.map fun x => V.ref x.1))
  len : xs.length = ds.length
  dat : ∀ d ∈ ds, DatAt H d ∧ DatOk sz d
  uni : ∀ (j : Nat) (x : Addr × Addr) (d : Dat), xs[j]? = some x → ds[j]? = some d → UniAt C H x.1 x.2 sz d.seen d.ps
  tape : TapeAt CT H tx tl ns p
  box : BoxAt H bx NL ns p
theorem refs_ne' {vs : List V} (h : ∀ v ∈ vs, ∃ a, v = .ref a) {l : Addr} {p : Int} : vs ≠ [.ref l, .int p] := by
  intro z
  obtain ⟨a, e⟩ := h (.int p) (by rw [z]; simp)
  cases e
section
variable {C CT : Addr} {H H' : Hp} {sz : Int} {DL SL tx tl bx NL : Addr} {ns : List Int} {p : Nat} {ds : List Dat} {xs : List (Addr × Addr)}
theorem Wd.kp0 (w : Wd C CT H sz DL SL tx tl bx NL ns p ds xs) (k : Kp [] H H') : Wd C CT H' sz DL SL tx tl bx NL ns p ds xs :=
  ⟨k.get nin0 w.dl, k.get nin0 w.sl, w.len, fun d hd => ⟨(w.dat d hd).1.kp0 k, (w.dat d hd).2⟩, fun j x d hx hd => (w.uni j x d hx hd).kp0 k, w.tape.kp0 k, w.box.kp0 k⟩
theorem Wd.step {H2 : Hp} {p' : Nat} (w : Wd C CT H sz DL SL tx tl bx NL ns p ds xs) (k1 : Kp [tx] H H') (T1 : TapeAt CT H' tx tl ns p') (k2 : Kp [bx] H' H2) (B2 : BoxAt H2 bx NL ns p') : Wd C CT H2 sz DL SL tx tl bx NL ns p' ds xs := by
  have B1 := w.box.kpt k1 w.tape
  obtain ⟨⟨dt, et⟩, _⟩ := w.tape
  have nt : ∀ {a : Addr} {vs : List V}, H a = some (.lst vs) → a ∉ [tx] := fun {a vs} e => nin1 fun z => by
    rw [z, et] at e; cases e
  have nb : ∀ {a : Addr} {vs : List V}, (∀ v ∈ vs, ∃ a, v = .ref a) → H' a = some (.lst vs) → a ∉ [bx] := fun {a vs} h e => nin1 fun z => by
    rw [z, B1.1] at e
    exact refs_ne' h (HO.lst.inj (Option.some.inj e)).symm
  have dr : ∀ v ∈ datS ds, ∃ a, v = V.ref a := fun v hv => by
    obtain ⟨d, _, rfl⟩ := List.mem_map.mp hv
    exact ⟨_, rfl⟩
  have sr : ∀ v ∈ xs.map fun x => V.ref x.1, ∃ a, v = V.ref a := fun v hv => by
    obtain ⟨d, _, rfl⟩ := List.mem_map.mp hv
    exact ⟨_, rfl⟩
  have d1 := k1.get (nt w.dl) w.dl
  have s1 := k1.get (nt w.sl) w.sl
  exact ⟨k2.get (nb dr d1) d1, k2.get (nb sr s1) s1, w.len, fun d hd => ⟨((w.dat d hd).1.kpt k1 w.tape).kpb k2 B1, (w.dat d hd).2⟩, fun j x d hx hd => ((w.uni j x d hx hd).kpt k1 w.tape).kpb k2 B1, T1.kpb k2 B1, B2⟩
end
theorem refs_take (ps : List (Addr × Row)) (k : Nat) : (refs ps).take k = refs (ps.take k) := by unfold refs; rw [List.map_take]

/-! ### the law -/
theorem cut_takeA {xs : List V} (k : Nat) : cutV xs none (some (k : Int)) = xs.take k := by
  unfold cutV
  rw [HT.sIx_none, HT.sIx_nat, List.drop_zero, Nat.sub_zero]
  rcases Nat.le_total k xs.length with h | h
  · rw [Nat.min_eq_left h]
  · rw [Nat.min_eq_right h, List.take_length, List.take_of_length_le h]
theorem abc_at {k : Nat} (h : k < 5) : atI ("abcde" : Str).cps.toList (k : Int) = some (97 + k) := by
  have : ∀ k : Fin 5, atI ("abcde" : Str).cps.toList (k.val : Int) = some (97 + k.val) := by decide +kernel
  exact this ⟨k, h⟩
/-- the keys of data come from letters below i -/
def Tagged (i : Nat) (ds : List Dat) : Prop := ∀ d ∈ ds, ∀ z ∈ d.ps, ∃ k j, k < i ∧ j < 6 ∧ z.2.k = key15 k j
theorem things_nodup {k : Nat} {ps : List (Addr × Row)} (hk : k < 5) (hl : ps.length ≤ 6) (ok : ∀ (i : Nat) (x : Addr × Row), ps[i]? = some x → Row15 k i x.2) : (ps.map fun x => x.2.k).Nodup := by
  refine List.pairwise_iff_getElem.mpr fun i j hi hj hij e => ?_
  rw [List.length_map] at hi hj
  rw [List.getElem_map, List.getElem_map] at e
  have h1 := (ok i _ (List.getElem?_eq_getElem hi)).k
  have h2 := (ok j _ (List.getElem?_eq_getElem hj)).k
  rw [h1, h2] at e
  have := (key15_inj hk (by omega) hk (by omega) e).2
  omega
def zed15 : Row := ⟨"zed", "g", 7, 1⟩
theorem zed15_s : RowS zed15 := by
  refine ⟨?_, ?_, ?_, ?_⟩ <;> decide +kernel
def spLaw (K : PySem.W.Frag) : Sp := fun vs H Q _ => ∃ (a : Addr) (ns : List Int), vs = [.ref a] ∧ SqL K H a (ns.map V.int) ∧ ns.length ≤ 63 ∧ (∀ z ∈ ns, Builtin.Int.intBits z ≤ 1048576) ∧ ∀ H', Q (.bl true) H'
set_option maxHeartbeats 4000000 in
theorem ok_law {P : Program} {w : World} {K : PySem.W.Frag} {mg : Str → Option Value} {base : Heap} (T : T P K mg) : FnOk P w K mg base CX0 7 T.a_law T.fd_law ["script"] (spLaw K) := by
  refine T.F_law.ok sc_law (fun vs H Q E h => ?_) (fun cdv A outer s H vs Q E hr h => ?_)
  · obtain ⟨a, ns, rfl, _⟩ := h
    rfl
  · obtain ⟨c, cs, rfl, hS, hlen, hb, q⟩ := h
    refine ⟨_, (pss_cons (ps_set (i := 1) sc_law.nd rfl (by first | exact Or.inl rfl | exact Or.inr rfl) (pe_call (ok__law_numbers T) (hr.mono (by decide)) (by rfl) T.g__law_numbers T.F__law_numbers.kp T.b__law_numbers .nil pass0 (pa_cons (pv 0) (pa_cons pe_int pa_nil))))
      (pss_cons (ps_set (i := 2) sc_law.nd rfl (by first | exact Or.inl rfl | exact Or.inr rfl) (pe_op op_add pe_int (pe_call (ok__law_take T) (hr.mono (by decide)) (by rfl) T.g__law_take T.F__law_take.kp T.b__law_take .nil pass0 (pa_cons (pv 1) (pa_cons pe_int pa_nil)))))
      (pss_cons (ps_set (i := 3) sc_law.nd rfl (by first | exact Or.inl rfl | exact Or.inr rfl) (pe_lst pa_nil))
      (pss_cons (ps_for PassesOwn.never rfl (pi_range1 (by rfl) T.z_range (pa_cons (pe_op op_add pe_int (pe_call (ok__law_take T) (hr.mono (by decide)) (by rfl) T.g__law_take T.F__law_take.kp T.b__law_take .nil pass0 (pa_cons (pv 1) (pa_cons pe_int pa_nil)))) pa_nil)) (pg_name (i := 4) sc_law.nd rfl (by first | exact Or.inl rfl | exact Or.inr rfl)) (pss_cons (ps_set (i := 5) sc_law.nd rfl (by first | exact Or.inl rfl | exact Or.inr rfl) (pe_slice sl_list (pe_call (ok__law_shuffled T) (hr.mono (by decide)) (by rfl) T.g__law_shuffled T.F__law_shuffled.kp T.b__law_shuffled .nil pass0 (pa_cons (pv 1) (pa_cons (pe_call (ok__law_things T) (hr.mono (by decide)) (by rfl) T.g__law_things T.F__law_things.kp T.b__law_things .nil pass0 (pa_cons (pv 1) (pa_cons pe_int (pa_cons (pe_ix ix_str pe_str (pv 4) (fun _ _ => rfl)) pa_nil)))) pa_nil))) po_none (po_some (pv 2))))
      (pss_cons (ps_set (i := 6) sc_law.nd rfl (by first | exact Or.inl rfl | exact Or.inr rfl) (pe_op op_add (pe_callB (cr_sum rfl) (by rfl) T.z_sum (by decide +kernel) (pa_cons (pe_lc (own := [("item", 15)]) (g := gName 15) rfl sc_law.nd (pi_list (pv 5)) (blkOk_by (own := [("item", 15)]) (N := N_law) (sc := defScope s_law) (by decide +kernel)) (fun _ _ _ _ _ => (pg_name (i := 15) sc_law.nd rfl (by first | exact Or.inl rfl | exact Or.inr rfl))) (fun _ _ _ _ _ => pts_nil) (fun _ _ _ _ _ => (pe_ix (ix_tup : IxR _ (rIxT K)) (pv 15) pe_int (fun _ _ => rfl)))) pa_nil)) (pe_ix ix_list (pe_lst (pa_cons pe_int (pa_cons (pe_call (ok__law_take T) (hr.mono (by decide)) (by rfl) T.g__law_take T.F__law_take.kp T.b__law_take .nil pass0 (pa_cons (pv 1) (pa_cons pe_int pa_nil))) pa_nil))) (pe_callTy c_int (by rfl) T.z_int (by decide +kernel) (pa_cons (pe_cmpR op_eq (pe_callB c_len (by rfl) T.z_len (by decide +kernel) (pa_cons (pv 5) pa_nil)) (pv 2) (nomark _)) pa_nil)) (fun _ _ => rfl))))
      (pss_one (ps_expr (pe_bm PySem.F.plainAttrs_list PySem.F.slot_list_append PySem.F.type_list_append mt_append (pv 3) (pa_cons (pe_tup (pa_cons (pv 6) (pa_cons (pv 5) pa_nil))) pa_nil)))))))
      (pss_cons (ps_set (i := 7) sc_law.nd rfl (by first | exact Or.inl rfl | exact Or.inr rfl) (pe_call (ok__law_tape T) (hr.mono (by decide)) (by rfl) T.g__law_tape T.F__law_tape.kp T.b__law_tape .nil pass0 (pa_cons (pv 1) (pa_cons (pe_call (ok__law_take T) (hr.mono (by decide)) (by rfl) T.g__law_take T.F__law_take.kp T.b__law_take .nil pass0 (pa_cons (pv 1) (pa_cons pe_int pa_nil))) pa_nil))))
      (pss_cons (ps_set (i := 8) sc_law.nd rfl (by first | exact Or.inl rfl | exact Or.inr rfl) (pe_make T.mk_Tape (ok_Tape_init T) (hr.mono (by decide)) (by rfl) T.mg_Tape T.b_Tape_init .nil pass0 (pa_cons (pe_callTy c_list (by rfl) T.z_list (by decide +kernel) (pa_cons (pv 7) pa_nil)) pa_nil)))
      (pss_cons (ps_set (i := 9) sc_law.nd rfl (by first | exact Or.inl rfl | exact Or.inr rfl) (pe_lst (pa_cons (pv 7) (pa_cons pe_int pa_nil))))
      (pss_cons (ps_setLc (i := 10) (own := [("data", 12)]) (g := gName 12) rfl sc_law.nd rfl rfl (sw_true rfl rfl rfl (by decide +kernel)) (pi_list (pv 3)) (blkOk_by (own := [("data", 12)]) (N := N_law) (sc := defScope s_law) (by decide +kernel)) (fun _ _ _ _ _ => (pg_name (i := 12) sc_law.nd rfl (by first | exact Or.inl rfl | exact Or.inr rfl))) (fun _ _ _ _ _ => pts_nil) (fun _ _ _ _ _ => (pe_make T.mk_Weighted (ok_Weighted_init T) (hr.mono (by decide)) (by rfl) T.mg_Weighted T.b_Weighted_init .nil pass0 (pa_cons (pv 2) (pa_cons (pe_ix (ix_tup : IxR _ (rIxT K)) (pv 12) pe_int (fun _ _ => rfl)) (pa_cons (pe_ix (ix_tup : IxR _ (rIxT K)) (pv 12) pe_int (fun _ _ => rfl)) pa_nil))))))
      (pss_cons (ps_par (i := 11) (j := 12) rfl sc_law.nd rfl rfl (by decide) rfl rfl (pa_cons (pe_ix ix_list (pv 10) pe_int (fun _ _ => rfl)) (pa_cons (pe_ix ix_list (pv 3) pe_int (fun _ _ => rfl)) pa_nil)) (by rfl))
      (pss_cons (ps_for PassesOwn.never rfl (pi_range2 (by rfl) T.z_range (pa_cons pe_int (pa_cons (pe_callB c_len (by rfl) T.z_len (by decide +kernel) (pa_cons (pv 10) pa_nil)) pa_nil))) (pg_name (i := 4) sc_law.nd rfl (by first | exact Or.inl rfl | exact Or.inr rfl)) (pss_cons (ps_set (i := 13) sc_law.nd rfl (by first | exact Or.inl rfl | exact Or.inr rfl) (pe_meth (pv 11) T.cl_Weighted T.me_Weighted_merge (ok_Weighted_merge T) (hr.mono (by decide)) T.b_Weighted_merge .nil passL (pa_cons (pe_ix ix_list (pv 10) (pv 4) (fun _ _ => rfl)) (pa_cons (pv 8) pa_nil))))
      (pss_cons (ps_set (i := 14) sc_law.nd rfl (by first | exact Or.inl rfl | exact Or.inr rfl) (pe_call (ok__law_merge T) (hr.mono (by decide)) (by rfl) T.g__law_merge T.F__law_merge.kp T.b__law_merge .nil pass0 (pa_cons (pv 9) (pa_cons (pv 2) (pa_cons (pv 12) (pa_cons (pe_ix ix_list (pv 3) (pv 4) (fun _ _ => rfl)) pa_nil))))))
      (pss_cons (ps_if (PW.pt (pw_or (pt_not (pt_val (pe_call (ok__law_same T) (hr.mono (by decide)) (by rfl) T.g__law_same T.F__law_same.kp T.b__law_same .nil pass0 (pa_cons (pv 13) (pa_cons (pv 2) (pa_cons (pv 14) pa_nil)))))) (pw_or (pt_not (pt_val (pe_call (ok__law_same T) (hr.mono (by decide)) (by rfl) T.g__law_same T.F__law_same.kp T.b__law_same .nil pass0 (pa_cons (pv 11) (pa_cons (pv 2) (pa_cons (pv 12) pa_nil)))))) (pw_or1 (pt_not (pt_val (pe_call (ok__law_same T) (hr.mono (by decide)) (by rfl) T.g__law_same T.F__law_same.kp T.b__law_same .nil pass0 (pa_cons (pe_ix ix_list (pv 10) (pv 4) (fun _ _ => rfl)) (pa_cons (pv 2) (pa_cons (pe_ix ix_list (pv 3) (pv 4) (fun _ _ => rfl)) pa_nil)))))))))) (pss_one (ps_ret pe_bl)) pss_nil)
      (pss_one (ps_par (i := 11) (j := 12) rfl sc_law.nd rfl rfl (by decide) rfl rfl (pa_cons (pv 13) (pa_cons (pv 14) pa_nil)) (by rfl)))))))
      (pss_cons (ps_set (i := 15) sc_law.nd rfl (by first | exact Or.inl rfl | exact Or.inr rfl) (pe_tup (pa_cons pe_str (pa_cons pe_str (pa_cons pe_int (pa_cons pe_int pa_nil))))))
      (pss_cons (ps_if (PW.pt (pw_or (pt_not (pt_val (pe_call (ok__law_same T) (hr.mono (by decide)) (by rfl) T.g__law_same T.F__law_same.kp T.b__law_same .nil pass0 (pa_cons (ClsM.pe_cm (pe_glob (v := .ref T.C_Weighted) (by rfl) T.mg_Weighted rfl) T.cr_Weighted T.cm_Weighted_empty (ok_Weighted_empty T) T.b_Weighted_empty (hr.mono (by decide)) (ClsM.passC passL) (pa_cons (pv 2) pa_nil)) (pa_cons (pv 2) (pa_cons (pe_tup (pa_cons pe_int (pa_cons (pe_lst pa_nil) pa_nil))) pa_nil)))))) (pw_or1 (pt_not (pt_val (pe_call (ok__law_same T) (hr.mono (by decide)) (by rfl) T.g__law_same T.F__law_same.kp T.b__law_same .nil pass0 (pa_cons (ClsM.pe_cm (pe_glob (v := .ref T.C_Weighted) (by rfl) T.mg_Weighted rfl) T.cr_Weighted T.cm_Weighted_single (ok_Weighted_single T) T.b_Weighted_single (hr.mono (by decide)) (ClsM.passC passL) (pa_cons (pv 15) (pa_cons (pv 2) pa_nil))) (pa_cons (pv 2) (pa_cons (pe_tup (pa_cons pe_int (pa_cons (pe_lst (pa_cons (pv 15) pa_nil)) pa_nil))) pa_nil))))))))) (pss_one (ps_ret pe_bl)) pss_nil)
      (pss_cons (ps_set (i := 16) sc_law.nd rfl (by first | exact Or.inl rfl | exact Or.inr rfl) pe_non)
      (Z.pss_consJ (ps_if (pt_cmpR (op_neD hr.units) (pe_ix ix_tup (pv 12) pe_int (fun _ _ => rfl)) (pe_lst pa_nil) (nomark _)) (pss_one (ps_set (i := 16) sc_law.nd rfl (by first | exact Or.inl rfl | exact Or.inr rfl) (pe_tup (pa_cons pe_str (pa_cons (pe_callB ((MinS.cr_minS rfl hr.units) : CallR _ _ (MinS.rMinS K)) (by rfl) T.z_min (by decide +kernel) (pa_cons (pe_lc (own := [("one", 17)]) (g := gName 17) rfl sc_law.nd (pi_list (pe_ix ix_tup (pv 12) pe_int (fun _ _ => rfl))) (blkOk_by (own := [("one", 17)]) (N := N_law) (sc := defScope s_law) (by decide +kernel)) (fun _ _ _ _ _ => (pg_name (i := 17) sc_law.nd rfl (by first | exact Or.inl rfl | exact Or.inr rfl))) (fun _ _ _ _ _ => pts_nil) (fun _ _ _ _ _ => (pe_ix (ix_tup : IxR _ (rIxT K)) (pv 17) pe_int (fun _ _ => rfl)))) pa_nil)) pa_nil))))) pss_nil)
      (pss_cons (ps_if (pt_cmpR (op_neD hr.units) (pe_call (ok__law_refused T) (hr.mono (by decide)) (by rfl) T.g__law_refused T.F__law_refused.kp T.b__law_refused .nil pass0 (pa_cons (pv 11) (pa_cons (pe_make T.mk_Weighted (ok_Weighted_init T) (hr.mono (by decide)) (by rfl) T.mg_Weighted T.b_Weighted_init .nil pass0 (pa_cons (pv 2) (pa_cons (pe_ix ix_tup (pv 12) pe_int (fun _ _ => rfl)) (pa_cons (pe_ix ix_tup (pv 12) pe_int (fun _ _ => rfl)) pa_nil)))) pa_nil))) (pv 16) (nomark _)) (pss_one (ps_ret pe_bl)) pss_nil)
      (pss_one (ps_ret (pe_and (pe_cmpR (op_eqD hr.units) (pe_call (ok__law_refused T) (hr.mono (by decide)) (by rfl) T.g__law_refused T.F__law_refused.kp T.b__law_refused .nil pass0 (pa_cons (pv 11) (pa_cons (ClsM.pe_cm (pe_glob (v := .ref T.C_Weighted) (by rfl) T.mg_Weighted rfl) T.cr_Weighted T.cm_Weighted_empty (ok_Weighted_empty T) T.b_Weighted_empty (hr.mono (by decide)) (ClsM.passC passL) (pa_cons (pe_op op_add (pv 2) pe_int) pa_nil)) pa_nil))) (pe_tup (pa_cons pe_str (pa_cons pe_str pa_nil))) (nomark _)) (pe_one (pe_cmpR (op_eqD hr.units) (pe_call (ok__law_sizes T) (hr.mono (by decide)) (by rfl) T.g__law_sizes T.F__law_sizes.kp T.b__law_sizes .nil pass0 (pa_cons (pv 15) pa_nil)) (pe_lst (pa_cons pe_int (pa_cons pe_int (pa_cons pe_int (pa_cons pe_int (pa_cons (pe_un un_neg pe_int) (pa_cons (pe_un un_neg pe_int) pa_nil))))))) (nomark _))))))))))))))))))))), ?_⟩
    walk_at "z0"
    walk_at "z"
    refine ⟨c, cs, 150, rfl, hS, by decide, hb, fun a H1 na k1 d1 => ?_⟩
    walk_at "z"
    refine ⟨a, 4, rfl, d1, by decide, by decide, fun H2 size0 hz0 hz1 k2 d2 => ?_⟩
    obtain ⟨sz, hsz⟩ : ∃ n : Nat, 1 + size0 = (n : Int) := ⟨(1 + size0).toNat, by omega⟩
    have hsz1 : 1 ≤ sz := by omega
    have hsz4 : sz ≤ 4 := by omega
    walk_at "z"
    rw [hsz]
    refine Z.lstK (fun DL H3 nDL k3 eDL => ?_)
    have d3 := d2.kp0 k3
    have naD : a ≠ DL := d2.ne nDL
    walk_at "z"
    refine ⟨a, 5, rfl, d3, by decide, by decide, fun H4 cnt0 hc0 hc1 k4 d4 => ?_⟩
    obtain ⟨cnt, hcnt⟩ : ∃ n : Nat, 1 + cnt0 = (n : Int) := ⟨(1 + cnt0).toNat, by omega⟩
    have hcnt1 : 1 ≤ cnt := by omega
    have hcnt5 : cnt ≤ 5 := by omega
    walk_at "z"
    rw [hcnt]
    refine Z.forr cnt rfl (by omega) (fun i σ' H' => ∃ y4 y5 y6, ∃ ds : List Dat, σ' = [some (.ref c), some (.ref a), some (.int (sz : Int)), some (.ref DL), y4, y5, y6, none, none, none, none, none, none, none, none, none, none, none] ∧ H' DL = some (.lst (datS ds)) ∧ DrawsAt H' a ∧ ds.length = i ∧ (∀ d ∈ ds, DatAt H' d ∧ DatOk sz d ∧ d.b ≠ a ∧ d.b ≠ DL) ∧ Tagged i ds ∧ (keysD ds).Nodup) ?_ ?_ ?_
    · exact ⟨none, none, none, [], rfl, k4.get (nin1 naD.symm) eDL, d4, rfl, fun d hd => by simp at hd, fun d hd => by simp at hd, List.nodup_nil⟩
    · rintro i σ' G hi ⟨y4, y5, y6, ds, rfl, eD, dG, hl, hds, htag, hnd⟩
      walk_at "z"
      refine ⟨_, _, _, rfl, rfl, (show ("abcde" : Str).length ≤ sizeLine by decide +kernel), abc_at (k := i) (by omega), ?_⟩
      refine ⟨a, i, rfl, dG, by omega, fun G1 p ps np hpl I => ?_⟩
      have hpS : ∀ x ∈ ps, RowS x.2 := fun x hx => by
        obtain ⟨j, hj, he⟩ := List.getElem_of_mem hx
        exact (I.ok j x (by rw [List.getElem?_eq_getElem hj, he])).s (by omega) (by omega)
      have hpW : ∀ x ∈ ps, 1 ≤ wR x := fun x hx => by
        obtain ⟨j, hj, he⟩ := List.getElem_of_mem hx
        exact (I.ok j x (by rw [List.getElem?_eq_getElem hj, he])).w0
      have hpW2 : ∀ x ∈ ps, wR x ≤ 40 := fun x hx => by
        obtain ⟨j, hj, he⟩ := List.getElem_of_mem hx
        exact (I.ok j x (by rw [List.getElem?_eq_getElem hj, he])).w1
      have eD1 := I.kp.get (nin1 naD.symm) eD
      walk_at "z"
      refine ⟨a, p, ps, rfl, I.dr, I.at_, I.rows, hpS, by omega, fun G4 e qs ne j4 d4' e4 R4 hperm => ?_⟩
      have eD4 := j4.get (nin1 naD.symm) eD1
      walk_at "z"
      refine Z.slL (lstL e4) (fun f G5 nf j5 e5 => ?_)
      rw [cut_takeA, refs_take] at e5
      have hql := hperm.length_eq
      have hmem : ∀ x ∈ qs.take sz, x ∈ ps := fun x hx => hperm.mem_iff.mp (List.mem_of_mem_take hx)
      have R5 : RowsAt G5 (qs.take sz) := fun x hx => (R4.kp0 j5) x (List.mem_of_mem_take hx)
      have hkl : (qs.take sz).length ≤ 6 := by rw [List.length_take]; omega
      have hk_or : (qs.take sz).length = sz ∨ (qs.take sz).length < sz := by rw [List.length_take]; omega
      have hknd : ((qs.take sz).map fun x => x.2.k).Nodup := by
        refine List.Sublist.nodup ((List.take_sublist sz qs).map _) ?_
        exact (hperm.map _).nodup_iff.mpr (things_nodup (by omega) hpl I.ok)
      have hfD : f ≠ DL := fun z => by rw [z, eD4] at nf; cases nf
      have hfa : f ≠ a := (d4'.ne nf).symm
      have eD5 := j5.get nin0 eD4
      have d5' := d4'.kp0 j5
      have kGa5 : Kp [a] G G5 := I.kp.trans (j4.trans (j5.sub (by simp)))
      generalize qs.take sz = rs at e5 hmem R5 hkl hk_or hknd
      walk_at "z"
      refine Z.lcl (refs rs) (lstL e5) (fun P j G' => Kp [] G5 G' ∧ G' P = some (.lst (((rs.take j).map wR).map V.int))) ?_ ?_ ?_ ?_
      · intro P G' nP j6 f6
        exact ⟨j6, f6⟩
      · rintro P j G' nP hj ⟨j6, f6⟩
        exact lstL (j6.get nin0 e5)
      · rintro P j v G' nP hv ⟨j6, f6⟩
        obtain ⟨z, hz, rfl⟩ := refs_of hv
        have hjl : j < rs.length := (List.getElem?_eq_some_iff.mp hz).1
        dsimp only [wipe, List.set]
        walk_at "z"
        refine ⟨rfl, ?_⟩
        walk_at "z"
        refine RowAt.w2 ((R5.kp0 j6) z (List.mem_of_getElem? hz)) ?_
        refine ⟨_, f6, Z.szl (m := 1000) (by rw [List.length_map, List.length_map, List.length_take]; omega), j6.mut nP rfl, ?_⟩
        rw [upd_same, List.take_add_one, hz, List.map_append, List.map_append]; rfl
      · rintro P G6 nP ⟨j6, f6⟩
        rw [refs_len, List.take_length] at f6
        walk_at "z"
        refine Z.sumL (lstL f6) ?_
        walk_at "z"
        refine ⟨a, 60, rfl, d5'.kp0 j6, by decide, by decide, fun G7 v hv0 hv1 j7 d7' => ?_⟩
        walk_at "z"
        refine Z.lstK (fun b G8 nb j8 e8 => ?_)
        have k58 : Kp [a] G5 G8 := (j6.sub (by simp)).trans (j7.trans (j8.sub (by simp)))
        have e5' := k58.get (nin1 hfa) e5
        walk_at "z"
        refine Z.lenL (lstL e5') ?_
        rw [refs_len]
        walk_at "z"
        refine Z.ixL (lstL e8) pick2 ?_
        have eD8 := k58.get (nin1 naD.symm) eD5
        have d8' := d7'.kp0 j8
        have R8 : RowsAt G8 rs := R5.kpd k58 d5'
        walk_at "z"
        refine ⟨Z.tyL eD8, ?_⟩
        walk_at "z"
        refine Z.tupK (fun t G9 nt j9 e9 => ?_)
        have eD9 := j9.get nin0 eD8
        have htD : t ≠ DL := fun z => by rw [z, eD9] at e9; cases e9
        walk_at "z"
        refine Z.app eD9 (Z.szl (m := 1000) (by unfold datS; rw [List.length_map]; omega)) ?_
        have kD : Kp [DL] G9 (upd G9 DL (.lst (datS ds ++ [.ref t]))) := Kp.put (by simp)
        have kGa : Kp [a] G G9 := kGa5.trans (k58.trans (j9.sub (by simp)))
        refine ⟨_, _, _, ds ++ [⟨t, f, (rs.map wR).sum + (if (rs.length : Int) = (sz : Int) then v else 0), rs⟩], rfl, ?_, ?_, by rw [List.length_append, hl]; rfl, ?_, ?_, ?_⟩
        · rw [upd_same]
          unfold datS
          rw [List.map_append]; rfl
        · exact (d8'.kp0 j9).put naD
        · intro d hd
          rcases List.mem_append.mp hd with hd | hd
          · obtain ⟨h1, h2, h3, h4⟩ := hds d hd
            have hG := h1.kpd kGa dG h3
            exact ⟨⟨kD.get (nin1 fun z => by have := hG.1; rw [z, eD9] at this; cases this) hG.1, kD.get (nin1 h4) hG.2.1, hG.2.2.kp1 kD eD9⟩, h2, h3, h4⟩
          · rw [List.mem_singleton.mp hd]
            refine ⟨⟨kD.get (nin1 htD) e9, kD.get (nin1 hfD) (j9.get nin0 e5'), (R8.kp0 j9).kp1 kD eD9⟩, ⟨⟨?_, ?_⟩, ?_, fun z hz => hpW z (hmem z hz), fun z hz => hpS z (hmem z hz)⟩, hfa, hfD⟩
            · show (rs.map wR).sum ≤ (rs.map wR).sum + (if (rs.length : Int) = (sz : Int) then v else 0)
              split <;> omega
            · show (rs.map wR).sum + (if (rs.length : Int) = (sz : Int) then v else 0) = (rs.map wR).sum ∨ (sz : Int) ≤ (rs.length : Int)
              split <;> omega
            · show rs.length ≤ 30
              omega
        · intro d hd z hz
          rcases List.mem_append.mp hd with hd | hd
          · obtain ⟨k, j, h1, h2, h3⟩ := htag d hd z hz
            exact ⟨k, j, by omega, h2, h3⟩
          · rw [List.mem_singleton.mp hd] at hz
            obtain ⟨j, hj, he⟩ := List.getElem_of_mem (hmem z hz)
            exact ⟨i, j, by omega, by omega, (I.ok j z (by rw [List.getElem?_eq_getElem hj, he])).k⟩
        · unfold keysD at hnd ⊢
          rw [keysOf_flat] at hnd ⊢
          rw [List.map_append, List.flatten_append, List.map_append]
          refine List.nodup_append.mpr ⟨hnd, ?_, ?_⟩
          · simp only [List.map_cons, List.map_nil, List.flatten_cons, List.flatten_nil, List.append_nil]
            exact hknd
          · intro x hx y hy e
            simp only [List.map_cons, List.map_nil, List.flatten_cons, List.flatten_nil, List.append_nil] at hy
            obtain ⟨z, hz, rfl⟩ := List.mem_map.mp hy
            obtain ⟨z2, hz2, rfl⟩ := List.mem_map.mp hx
            obtain ⟨l, hl2, hz3⟩ := List.mem_flatten.mp hz2
            obtain ⟨d, hd, rfl⟩ := List.mem_map.mp hl2
            obtain ⟨k, j, h1, h2, h3⟩ := htag d hd z2 hz3
            obtain ⟨j', hj', he⟩ := List.getElem_of_mem (hmem z hz)
            have h4 := (I.ok j' z (by rw [List.getElem?_eq_getElem hj', he])).k
            rw [h3, h4] at e
            have := (key15_inj (by omega) h2 (by omega) (by omega) e).1
            omega
    · rintro σ' G ⟨y4, y5, y6, ds, rfl, eD, dG, hl, hds, htag, hnd⟩
      walk_at "z"
      refine ⟨a, 25, rfl, dG, by decide, by decide, fun G1 m0 hm0 hm1 j1 d1' => ?_⟩
      obtain ⟨m, rfl⟩ : ∃ m : Nat, m0 = (m : Int) := ⟨m0.toNat, by omega⟩
      walk_at "z"
      refine ⟨a, m, rfl, d1', by omega, fun G2 NL ns nNL j2 d2' eNL => ?_⟩
      have eD2 := j2.get (nin1 naD.symm) (j1.get (nin1 naD.symm) eD)
      have hds2 : ∀ d ∈ ds, DatAt G2 d := fun d hd => (((hds d hd).1.kpd j1 dG (hds d hd).2.2.1).kpd j2 d1' (hds d hd).2.2.1)
      walk_at "z"
      refine Z.listL (lstL eNL) (fun P G3 nP j3 eP => ?_)
      walk_at "z"
      intro tx dz nz ndz hdz
      refine ⟨tx, P, dz, ns, rfl, upd_same, .inl (.inl ((Kp.made (M := []) nz ndz).get nin0 eP)), fun G4 tl ntl j4 hT => ⟨rfl, ?_⟩⟩
      obtain ⟨nx3, ntl3, j34⟩ := made_new (Kp.refl _) nz ndz hdz ntl j4
      walk_at "z"
      refine Z.lstK (fun bx G5 nbx j5 ebx => ?_)
      have j25 := (j3.trans j34).trans j5
      have eD5 := j25.get nin0 eD2
      have eN5 := j25.get nin0 eNL
      have hT5 := hT.kp0 j5
      have hB5 : BoxAt G5 bx NL ns 0 := ⟨ebx, eN5⟩
      have d5 := d2'.kp0 j25
      have hds5 : ∀ d ∈ ds, DatAt G5 d := fun d hd => (hds2 d hd).kp0 j25
      have hNa : NL ≠ a := fun z => by
        obtain ⟨ns', e⟩ := d1'
        rw [z, e] at nNL; cases nNL
      have hND : NL ≠ DL := fun z => by
        rw [z, (j1.get (nin1 naD.symm) eD)] at nNL; cases nNL
      have htlD : tl ≠ DL := fun z => by rw [z, (j3.get nin0 eD2)] at ntl3; cases ntl3
      have htla : tl ≠ a := ((d2'.kp0 j3).ne ntl3).symm
      have hbD : bx ≠ DL := fun z => by rw [z, (j3.trans j34).get nin0 eD2] at nbx; cases nbx
      have hba : bx ≠ a := ((d2'.kp0 (j3.trans j34)).ne nbx).symm
      walk_at "z"
      refine Z.lcl (datS ds) (lstL eD5) (fun SL i G => ∃ xs : List (Addr × Addr), Kp [] G5 G ∧ G SL = some (.lst (xs.map fun x => .ref x.1)) ∧ xs.length = i ∧ (∀ (j : Nat) (x : Addr × Addr) (d : Dat), xs[j]? = some x → ds[j]? = some d → UniAt T.C_Weighted G x.1 x.2 sz d.seen d.ps) ∧ ∀ x ∈ xs, x.2 ≠ SL ∧ G5 x.2 = none) ?_ ?_ ?_ ?_
      · intro SL G nSL jj eSL
        exact ⟨[], jj, eSL, rfl, fun j x d hx => by simp at hx, fun x hx => by simp at hx⟩
      · rintro SL i G nSL hi ⟨xs, jj, _⟩
        exact lstL (jj.get nin0 eD5)
      · rintro SL i v G nSL hv ⟨xs, jj, eSL, hxl, hxs, hxn⟩
        obtain ⟨d, hd, rfl⟩ : ∃ d, ds[i]? = some d ∧ v = .ref d.t := by
          unfold datS at hv
          rw [List.getElem?_map] at hv
          obtain ⟨d, hd, e⟩ := Option.map_eq_some_iff.mp hv
          exact ⟨d, hd, e.symm⟩
        have hdm := List.mem_of_getElem? hd
        have hdi := (List.getElem?_eq_some_iff.mp hd).1
        have hdA := (hds5 d hdm).kp0 jj
        dsimp only [wipe, List.set]
        walk_at "z"
        refine ⟨rfl, ?_⟩
        walk_at "z"
        refine Z.ixT (tupT hdA.1) (v := .int d.seen) rfl ?_
        walk_at "z"
        refine Z.ixT (tupT hdA.1) (v := .ref d.b) rfl ?_
        walk_at "z"
        intro x dx nx ndx hdx
        refine ⟨x, d.b, dx, sz, d.seen, d.ps, rfl, upd_same, (Kp.made (M := []) nx ndx).get nin0 hdA.2.1, fun G' kk nkk j' hU' => ⟨rfl, ?_⟩⟩
        obtain ⟨hx0, hk0, jx⟩ := made_new (Kp.refl _) nx ndx hdx nkk j'
        have eSL' := jx.get nin0 eSL
        refine ⟨_, eSL', Z.szl (m := 1000) (by rw [List.length_map]; omega), xs ++ [(x, kk)], (jj.trans jx).mut nSL rfl, by rw [upd_same, List.map_append]; rfl, by rw [List.length_append, hxl]; rfl, ?_, ?_⟩
        · intro j y e hy he
          have kS : Kp [SL] G' (upd G' SL (.lst (xs.map (fun x => V.ref x.1) ++ [V.ref x]))) := Kp.put (by simp)
          have hUy : UniAt T.C_Weighted G' y.1 y.2 sz e.seen e.ps ∧ y.2 ≠ SL := by
            rw [List.getElem?_append] at hy
            split at hy
            · exact ⟨(hxs j y e hy he).kp0 jx, (hxn y (List.mem_of_getElem? hy)).1⟩
            · rename_i hj
              have hj0 : j - xs.length = 0 := by
                have := (List.getElem?_eq_some_iff.mp hy).1
                simp at this
                exact this
              rw [hj0] at hy
              cases hy
              obtain rfl : j = i := by omega
              rw [hd] at he
              cases he
              exact ⟨hU', fun z => by rw [show kk = SL from z, eSL] at hk0; cases hk0⟩
          obtain ⟨⟨dy, e1⟩, e2⟩ := id hUy.1
          exact hUy.1.kp kS (nin1 fun z => by rw [z, eSL'] at e1; cases e1) (nin1 hUy.2)
        · intro y hy
          rcases List.mem_append.mp hy with h | h
          · exact hxn y h
          · rw [List.mem_singleton.mp h]
            exact ⟨(fun z => by rw [show kk = SL from z, eSL] at hk0; cases hk0), jj.none nin0 hk0⟩
      · rintro SL G nSL ⟨xs, jj, eSL, hxl, hxs, hxn⟩
        have hxl2 : xs.length = ds.length := by rw [hxl]; unfold datS; rw [List.length_map]
        have W0 : Wd T.C_Weighted T.C_Tape G sz DL SL tx tl bx NL ns 0 ds xs := ⟨jj.get nin0 eD5, eSL, hxl2, fun d hd => ⟨(hds5 d hd).kp0 jj, (hds d hd).2.1⟩, hxs, hT5.kp0 jj, hB5.kp0 jj⟩
        clear hxs hxn hxl htag
        have W := W0
        have hcl := hl
        obtain ⟨d0, hd0⟩ : ∃ d0, ds[0]? = some d0 := ⟨_, List.getElem?_eq_getElem (by omega)⟩
        obtain ⟨x0, hx0⟩ : ∃ x0, xs[0]? = some x0 := ⟨_, List.getElem?_eq_getElem (by omega)⟩
        have hxat : ∀ {j : Nat} {x : Addr × Addr}, xs[j]? = some x → (xs.map fun x => V.ref x.1)[j]? = some (.ref x.1) := fun {j x} h => by rw [List.getElem?_map, h]; rfl
        have hdat : ∀ {j : Nat} {d : Dat}, ds[j]? = some d → (datS ds)[j]? = some (.ref d.t) := fun {j d} h => by unfold datS; rw [List.getElem?_map, h]; rfl
        walk_at "z"
        refine Z.ixL (lstL W.sl) (atI_nat (j := 0) (hxat hx0)) ?_
        walk_at "z"
        refine Z.ixL (lstL W.dl) (atI_nat (j := 0) (hdat hd0)) ?_
        walk_at "z"
        refine Z.lenL (lstL W.sl) ?_
        rw [List.length_map]
        walk_at "z"
        refine Z.forr2 (xs.length - 1) (by omega) (by omega) (fun i σ' H' => ∃ y4 y13 y14, ∃ (x : Addr × Addr) (d : Dat) (p : Nat), σ' = [some (.ref c), some (.ref a), some (.int (sz : Int)), some (.ref DL), y4, y5, y6, some (.ref NL), some (.ref tx), some (.ref bx), some (.ref SL), some (.ref x.1), some (.ref d.t), y13, y14, none, none, none] ∧ Wd T.C_Weighted T.C_Tape H' sz DL SL tx tl bx NL ns p ds xs ∧ UniAt T.C_Weighted H' x.1 x.2 sz d.seen d.ps ∧ DatAt H' d ∧ DatOk sz d ∧ (keysD (d :: ds.drop (1 + i))).Nodup) ?_ ?_ ?_
        · refine ⟨_, _, _, x0, d0, 0, rfl, W, W.uni 0 x0 d0 hx0 hd0, (W.dat d0 (List.mem_of_getElem? hd0)).1, (W.dat d0 (List.mem_of_getElem? hd0)).2, ?_⟩
          have e : ds = d0 :: ds.drop 1 := by
            have := List.drop_eq_getElem_cons (i := 0) (l := ds) (by omega)
            rw [List.drop_zero] at this
            rw [this]
            have e2 : ds[0] = d0 := (List.getElem?_eq_some_iff.mp hd0).2
            rw [e2]; rfl
          rw [Nat.add_zero, ← e]
          exact hnd
        · rintro i σ' G7 hi ⟨y4', y13, y14, x, d, p, rfl, W7, hU, hdA, hdO, hndk⟩
          obtain ⟨e, he⟩ : ∃ e, ds[1 + i]? = some e := ⟨_, List.getElem?_eq_getElem (by omega)⟩
          obtain ⟨y, hy⟩ : ∃ y, xs[1 + i]? = some y := ⟨_, List.getElem?_eq_getElem (by omega)⟩
          have hem := List.mem_of_getElem? he
          have heO := (W7.dat e hem).2
          have hdrop : ds.drop (1 + i) = e :: ds.drop (1 + (i + 1)) := by
            rw [List.drop_eq_getElem_cons (by omega : 1 + i < ds.length)]
            have e2 : ds[1 + i] = e := (List.getElem?_eq_some_iff.mp he).2
            rw [e2]; rfl
          rw [hdrop] at hndk
          obtain ⟨⟨dx, hx⟩, _⟩ := id hU
          have hidx : (1 + (i : Int)) = ((1 + i : Nat) : Int) := by omega
          walk_at "z"
          refine ⟨x.1, dx, _, rfl, hx, rfl, ?_⟩
          walk_at "z"
          refine Z.ixL (lstL W7.sl) (by rw [hidx]; exact atI_nat (hxat hy)) ?_
          walk_at "z"
          have htw := twice_nodup (keysD_two hndk)
          refine ⟨x.1, x.2, y.1, y.2, tx, tl, sz, d.seen, sz, e.seen, d.ps, e.ps, ns, p, rfl, hU, W7.uni _ y e hy he, hdA.2.2, (W7.dat e hem).1.2.2, hdO.rows, heO.rows, Nat.le_trans hdO.len (by decide), Nat.le_trans heO.len (by decide), fun h => absurd rfl h, fun _ s hs => (by rw [htw] at hs; cases hs), fun _ _ => ⟨W7.tape, by omega, by omega, hdO.kept, heO.kept, pos2 hdO heO, fun G8 z kz nz nkz k8 T8 U8 => ?_⟩⟩
          have B8 := W7.box.kpt k8 W7.tape
          obtain ⟨⟨dtx, etx⟩, _⟩ := W7.tape
          have eDL8 : G8 DL = some (.lst (datS ds)) := k8.get (nin1 fun z => by have := W7.dl; rw [z, etx] at this; cases this) W7.dl
          have hdA8 := hdA.kpt k8 W7.tape
          have heA8 := (W7.dat e hem).1.kpt k8 W7.tape
          walk_at "z"
          refine Z.ixL (lstL eDL8) (by rw [hidx]; exact atI_nat (hdat he)) ?_
          walk_at "z"
          refine ⟨bx, NL, d.t, e.t, d.b, e.b, sz, d.seen, e.seen, d.ps, e.ps, ns, p, rfl, B8, hdA8.1, hdA8.2.1, heA8.1, heA8.2.1, hdA8.2.2, heA8.2.2, Nat.le_trans hdO.len (by decide), Nat.le_trans heO.len (by decide), by omega, by omega, hdO.kept, heO.kept, pos2 hdO heO, fun G9 dt db ndt ndb k9 B9 edt edb => ?_⟩
          have W9 := W7.step k8 T8 k9 B9
          have hdA9 := hdA8.kpb k9 B8
          have heA9 := heA8.kpb k9 B8
          have hU9 := (hU.kpt k8 W7.tape).kpb k9 B8
          have hV9 := ((W7.uni _ y e hy he).kpt k8 W7.tape).kpb k9 B8
          have hZ9 := U8.kpb k9 B8
          have hmO : DatOk sz (mrgD ns p sz d e dt db) := mrgD_ok (by omega) (by omega) hdO heO
          have hmA9 : DatAt G9 (mrgD ns p sz d e dt db) := by
            refine ⟨edt, edb, fun v hv => ?_⟩
            obtain ⟨_, _, r, hr⟩ := mrgW_all (ns := ns) (p := p) (size := (sz : Int)) (by omega) hdO.kept heO.kept (pos2 hdO heO)
            have := hr.mem_iff.mp (List.mem_append_left r hv)
            rcases List.mem_append.mp this with h | h
            · exact hdA9.2.2 v h
            · exact heA9.2.2 v h
          walk_at "z"
          refine ⟨z, kz, dt, db, sz, d.seen + e.seen, _, rfl, hZ9, edt, edb, hmA9.2.2, hmO.rows, Nat.le_trans hmO.len (by decide), fun Ga ka => ?_⟩
          walk_at "z"
          refine ⟨x.1, x.2, d.t, d.b, sz, d.seen, d.ps, rfl, hU9.kp0 ka, (hdA9.kp0 ka).1, (hdA9.kp0 ka).2.1, (hdA9.kp0 ka).2.2, hdO.rows, Nat.le_trans hdO.len (by decide), fun Gb kb => ?_⟩
          have kab := ka.trans kb
          walk_at "z"
          refine Z.ixL (lstL (kab.get nin0 W9.sl)) (by rw [hidx]; exact atI_nat (hxat hy)) ?_
          walk_at "z"
          refine Z.ixL (lstL (kab.get nin0 W9.dl)) (by rw [hidx]; exact atI_nat (hdat he)) ?_
          walk_at "z"
          refine ⟨y.1, y.2, e.t, e.b, sz, e.seen, e.ps, rfl, hV9.kp0 kab, (heA9.kp0 kab).1, (heA9.kp0 kab).2.1, (heA9.kp0 kab).2.2, heO.rows, Nat.le_trans heO.len (by decide), fun Gc kc => ?_⟩
          have kac := kab.trans kc
          walk_at "z"
          exact ⟨_, _, _, (z, kz), mrgD ns p sz d e dt db, _, rfl, W9.kp0 kac, hZ9.kp0 kac, hmA9.kp0 kac, hmO, mrgD_keys (by omega) hdO heO hndk⟩
        · rintro σ' G7 ⟨y4', y13, y14, x, d, p, rfl, W7, hU, hdA, hdO, hndk⟩
          clear W hnd
          walk_at "z"
          refine Z.tupK (fun it G8 nit k8 eit => ?_)
          have hRi : RowAt G8 it zed15 := eit
          have hU8 := hU.kp0 k8
          have hdA8 := hdA.kp0 k8
          have hszr : 1 ≤ (sz : Int) ∧ (sz : Int) ≤ 20 := ⟨by omega, by omega⟩
          walk_at "z"
          refine ClsM.cm ?_
          walk_at "z"
          refine ⟨rfl, ?_⟩
          walk_at "z"
          refine ⟨(sz : Int), rfl, by omega, by omega, fun _ G9 ex ek nex nek k9 U9 => ?_, fun h => absurd hszr h⟩
          walk_at "z"
          refine Z.lstK (fun b G10 nb k10 e10 => ?_)
          walk_at "z"
          refine Z.tupK (fun t G11 nt k11 e11 => ?_)
          walk_at "z"
          refine ⟨ex, ek, t, b, sz, 0, [], rfl, (U9.kp0 k10).kp0 k11, e11, k11.get nin0 e10, fun v hv => (by simp at hv), fun v hv => (by simp at hv), by simp, fun G12 k12 => ?_⟩
          have k812 := (k9.trans k10).trans (k11.trans k12)
          walk_at "z"
          refine ClsM.cm ?_
          walk_at "z"
          refine ⟨rfl, ?_⟩
          walk_at "z"
          refine ⟨(sz : Int), it, zed15, rfl, hRi.kp0 k812, by omega, by omega, fun _ G13 fx fk nfx nfk k13 U13 => ?_, fun h => absurd hszr h⟩
          walk_at "z"
          refine Z.lstK (fun b2 G14 nb2 k14 e14 => ?_)
          walk_at "z"
          refine Z.tupK (fun t2 G15 nt2 k15 e15 => ?_)
          have k815 := k812.trans (k13.trans (k14.trans k15))
          walk_at "z"
          refine ⟨fx, fk, t2, b2, sz, 7, [(it, zed15)], rfl, (U13.kp0 k14).kp0 k15, e15, k15.get nin0 e14, fun v hv => ?_, fun v hv => ?_, by simp, fun G16 k16 => ?_⟩
          · rw [List.mem_singleton.mp hv]
            exact hRi.kp0 k815
          · rw [List.mem_singleton.mp hv]
            exact zed15_s
          have kA := k815.trans k16
          walk_at "z"
          have hdB := hdA8.kp0 kA
          have hUB := hU8.kp0 kA
          have hIB := hRi.kp0 kA
          refine Z.seqJ (fun σ' H' => ∃ dv : V, σ' = [some (.ref c), some (.ref a), some (.int (sz : Int)), some (.ref DL), y4', y5, y6, some (.ref NL), some (.ref tx), some (.ref bx), some (.ref SL), some (.ref x.1), some (.ref d.t), y13, y14, some (.ref it), some dv, none] ∧ UniAt T.C_Weighted H' x.1 x.2 sz d.seen d.ps ∧ DatAt H' d ∧ RowAt H' it zed15 ∧ ((d.ps = [] ∧ dv = .non) ∨ ∃ dt k r, d.ps.map (fun x => x.2.k) = k :: r ∧ dv = .ref dt ∧ H' dt = some (.tup [.str ("key" : Str), .str (MinS.minS k r)]))) ?_ ?_
          · rintro σ' Ga ⟨dv, rfl, Ua, Da, Ia, hdv⟩
            walk_at "z"
            refine Z.ixT (tupT Da.1) (v := .int d.seen) rfl ?_
            walk_at "z"
            refine Z.ixT (tupT Da.1) (v := .ref d.b) rfl ?_
            walk_at "z"
            intro gx dx nx ndx hdx
            refine ⟨gx, d.b, dx, sz, d.seen, d.ps, rfl, upd_same, (Kp.made (M := []) nx ndx).get nin0 Da.2.1, fun Gb kk nkk kb Ub => ⟨rfl, ?_⟩⟩
            obtain ⟨_, _, kab⟩ := made_new (Kp.refl _) nx ndx hdx nkk kb
            walk_at "z"
            have rest : ∀ Gz, Kp [] Gb Gz → (tRet
                  (tAndV
                    (tOp (rEqD K)
                      (tCall (spRefused K T.C_Weighted) [] E0
                        (tCons (tVar 11)
                          (tCons
                            (ClsM.tCMeth T.C_Weighted (spEmpty T.C_Weighted T.C_InvalidSize) (fun x => E0)
                              (tC (V.ref T.C_Weighted))
                              (tCons (tOp (rI0 fun i j => V.int (i + j)) (tVar 2) (tC (V.int 1))) tNil))
                            tNil)))
                      (tTup (tCons (tC (V.str ("kind" : Str))) (tCons (tC (V.str ("" : Str))) tNil))))
                    (tOp (rEqD K) (tCall (spSizes K) [] E0 (tCons (tVar 15) tNil))
                      (tLst
                        (tCons (tC (V.int 0))
                          (tCons (tC (V.int 0))
                            (tCons (tC (V.int 21))
                              (tCons (tC (V.int 21))
                                (tCons (tUn (rU fun i => V.int (-i)) (tC (V.int 3)))
                                  (tCons (tUn (rU fun i => V.int (-i)) (tC (V.int 3))) tNil)))))))))
          { nx := fun x H' => Q V.non H', rt := Q }) [some (.ref c), some (.ref a), some (.int (sz : Int)), some (.ref DL), y4', y5, y6, some (.ref NL), some (.ref tx), some (.ref bx), some (.ref SL), some (.ref x.1), some (.ref d.t), y13, y14, some (.ref it), some dv, none] Gz := by
              intro Gz kz
              have Uz := (Ua.kp0 kab).kp0 kz
              have Dz := (Da.kp0 kab).kp0 kz
              have Iz := (Ia.kp0 kab).kp0 kz
              walk_at "z"
              refine ClsM.cm ?_
              walk_at "z"
              refine ⟨rfl, ?_⟩
              walk_at "z"
              refine ⟨(sz : Int) + 1, rfl, by omega, by omega, fun _ Gb ex ek nex nek kb Ub => ?_, fun h => absurd ⟨by omega, by omega⟩ h⟩
              walk_at "z"
              refine ⟨x.1, x.2, ex, ek, sz, d.seen, (sz : Int) + 1, 0, d.ps, [], rfl, Uz.kp0 kb, Ub, Dz.2.2.kp0 kb, fun v hv => (by simp at hv), hdO.rows, fun v hv => (by simp at hv), Nat.le_trans hdO.len (by decide), by simp, by omega, by omega, fun _ Gc t nt kc et => ?_, fun h => (by omega), fun h => (by omega)⟩
              walk_at "z"
              refine Z.tupK (fun t2 Gd nt2 kd et2 => ?_)
              refine ⟨.tuple [.str "kind", .str ""], .tuple [.str "kind", .str ""], .tup (tupT (kd.get nin0 et)) (.cons (.str _) (.cons (.str _) .nil)), .tup (tupT et2) (.cons (.str _) (.cons (.str _) .nil)), by decide +kernel, by decide +kernel, ?_⟩
              rw [show PyData.eqv (.tuple [.str "kind", .str ""]) (.tuple [.str "kind", .str ""]) = true by decide +kernel]
              walk_at "z"
              refine ⟨it, zed15, rfl, Iz.kp0 ((kb.trans kc).trans kd), fun Ge t3 nt3 ke et3 => ?_⟩
              walk_at "z"
              refine Z.lstK (fun t4 Gf nt4 kf et4 => ?_)
              refine ⟨.list [.int 0, .int 0, .int 21, .int 21, .int (-3), .int (-3)], .list [.int 0, .int 0, .int 21, .int 21, .int (-3), .int (-3)], .lst (lstL (kf.get nin0 et3)) (.cons (.int _) (.cons (.int _) (.cons (.int _) (.cons (.int _) (.cons (.int _) (.cons (.int _) .nil)))))), .lst (lstL et4) (.cons (.int _) (.cons (.int _) (.cons (.int _) (.cons (.int _) (.cons (.int _) (.cons (.int _) .nil)))))), by decide +kernel, by decide +kernel, ?_⟩
              rw [show PyData.eqv (.list [.int 0, .int 0, .int 21, .int 21, .int (-3), .int (-3)]) (.list [.int 0, .int 0, .int 21, .int 21, .int (-3), .int (-3)]) = true by decide +kernel]
              exact q _
            have htw : (twice (sortS (keysOf [d.ps, d.ps])) = none ∧ d.ps = [] ∧ dv = .non) ∨ ∃ dt k r, d.ps.map (fun x => x.2.k) = k :: r ∧ dv = .ref dt ∧ Ga dt = some (.tup [.str ("key" : Str), .str (MinS.minS k r)]) ∧ twice (sortS (keysOf [d.ps, d.ps])) = some (MinS.minS k r) := by
              rcases hdv with ⟨h1, h2⟩ | ⟨dt, k, r, h1, h2, h3⟩
              · left
                rw [h1]
                exact ⟨twice_nodup (show (keysOf [([] : List (Addr × Row)), []]).Nodup from List.nodup_nil), rfl, h2⟩
              · right
                obtain ⟨m1, m2⟩ := minS_spec r k
                refine ⟨dt, k, r, h1, h2, h3, ?_⟩
                rw [keysOf_two, h1]
                exact twice_least m1 m2
            refine ⟨x.1, x.2, gx, kk, sz, d.seen, sz, d.seen, d.ps, d.ps, rfl, Ua.kp0 kab, Ub, Da.2.2.kp0 kab, Da.2.2.kp0 kab, hdO.rows, hdO.rows, Nat.le_trans hdO.len (by decide), Nat.le_trans hdO.len (by decide), by omega, by omega, fun h => absurd rfl h, fun _ s hs Gc t nt kc et => ?_, fun _ hn => ⟨hdO.kept, hdO.kept, pos2 hdO hdO, fun Gc kc => ?_⟩⟩
            · rcases htw with ⟨h0, _, _⟩ | ⟨dt, k, r, h1, rfl, h3, h4⟩
              · rw [hs] at h0; cases h0
              · rw [hs] at h4
                cases h4
                obtain ⟨m1, m2⟩ := minS_spec r k
                have hr0 : PyData.strOk (MinS.minS k r) = true := by
                  rw [← h1] at m1
                  obtain ⟨z, hz, e⟩ := List.mem_map.mp m1
                  rw [← e]
                  exact (hdO.rows z hz).k
                generalize MinS.minS k r = m at et h3 hr0
                have hl2 : PyData.canLay0 (.tuple [.str ("key" : Str), .str m]) = true := by
                  simp [PyData.canLay0, PyData.canLayAll0, hr0]
                  decide +kernel
                have hsh2 : SeqAt.shaped (.tuple [.str ("key" : Str), .str m]) = true := by
                  simp only [SeqAt.shaped, hl2]
                  simp [PyData.depth, PyData.depthAll]
                walk_at "z"
                refine ⟨.tuple [.str "key", .str m], .tuple [.str "key", .str m], .tup (tupT et) (.cons (.str _) (.cons (.str _) .nil)), .tup (tupT (kc.get nin0 (kab.get nin0 h3))) (.cons (.str _) (.cons (.str _) .nil)), hsh2, hsh2, ?_⟩
                rw [SeqAt.eqv_refl _ hl2]
                refine Z.bl' (Z.noNB (Z.next ?_))
                exact rest Gc kc
            · rcases htw with ⟨_, _, rfl⟩ | ⟨dt, k, r, _, _, _, h4⟩
              · walk_at "z"
                refine ⟨.none, .none, .non, .non, by decide +kernel, by decide +kernel, ?_⟩
                rw [show PyData.eqv .none .none = true by decide +kernel]
                refine Z.bl' (Z.noNB (Z.next ?_))
                exact rest Gc kc
              · rw [hn] at h4; cases h4
          · intro N jn
            walk_at "z"
            refine Z.ixT (tupT hdB.1) (v := .ref d.b) rfl ?_
            walk_at "z"
            refine Z.lstK (fun b3 Ga nb3 ka eb3 => ?_)
            refine neNil (ps := d.ps) (ka.get nin0 hdB.2.1) eb3 (hdB.2.2.kp0 ka) hdO.rows ?_
            walk_at "z"
            have hdC := hdB.kp0 ka
            have hUC := hUB.kp0 ka
            cases hps : d.ps with
            | nil =>
              refine Z.noNB ?_
              walk_at "z"
              exact jn _ _ ⟨_, rfl, hUC, hdC, hIB.kp0 ka, .inl ⟨hps, rfl⟩⟩
            | cons r0 rr =>
              refine Z.yesNB ?_
              walk_at "z"
              refine Z.ixT (tupT hdC.1) (v := .ref d.b) rfl ?_
              refine Z.lcl (refs d.ps) (lstL hdC.2.1) (fun P j G' => Kp [] Ga G' ∧ G' P = some (.lst (((d.ps.take j).map fun x => x.2.k).map V.str))) ?_ ?_ ?_ ?_
              · intro P G' nP j6 f6
                exact ⟨j6, f6⟩
              · rintro P j G' nP hj ⟨j6, f6⟩
                exact lstL (j6.get nin0 hdC.2.1)
              · rintro P j v G' nP hv ⟨j6, f6⟩
                obtain ⟨z, hz, rfl⟩ := refs_of hv
                have hjl : j < d.ps.length := (List.getElem?_eq_some_iff.mp hz).1
                have hdl := hdO.len
                dsimp only [wipe, List.set]
                walk_at "z"
                refine ⟨rfl, ?_⟩
                walk_at "z"
                refine RowAt.k0 ((hdC.2.2.kp0 j6) z (List.mem_of_getElem? hz)) ?_
                refine ⟨_, f6, Z.szl (m := 1000) (by rw [List.length_map, List.length_map, List.length_take]; omega), j6.mut nP rfl, ?_⟩
                rw [upd_same, List.take_add_one, hz, List.map_append, List.map_append]; rfl
              · rintro P Gb nP ⟨j6, f6⟩
                rw [refs_len, List.take_length] at f6
                walk_at "z"
                refine ⟨P, r0.2.k, rr.map fun x => x.2.k, rfl, ?_, ?_⟩
                · rw [hps] at f6
                  exact lstL f6
                · walk_at "z"
                  refine Z.tupK (fun dt Gc nt kc et => ?_)
                  walk_at "z"
                  have kac := j6.trans kc
                  exact jn _ _ ⟨_, rfl, hUC.kp0 kac, hdC.kp0 kac, (hIB.kp0 ka).kp0 kac, .inr ⟨dt, r0.2.k, rr.map fun x => x.2.k, by rw [hps]; rfl, rfl, et⟩⟩

set_option maxHeartbeats 4000000 in
theorem all_mk {l : PySem.W.OpenLaw} {w : World} {K : PySem.W.Frag} {h : Heap} {mg : Str → Option Value} {fa : Addr} (X : K.In h) (G : h.Ns mainGlobals mg) (hfa : mg "law" = some (.ref fa))
    {CSamphireError : Addr}
    {CInvalidSize fInvalidSize cInvalidSize ccInvalidSize : Addr}
    {CSharedKey fSharedKey cSharedKey ccSharedKey : Addr}
    {CWrongKind fWrongKind cWrongKind ccWrongKind : Addr}
    {CWeighted : Addr}
    {CTape : Addr}
    {od1 an1 : Option Addr} {sl1 : Array (Option Value)} {oc1 kV1 dc1 pm1 cd1 ct1 : Value} {f1 : Addr}
    {od2 an2 : Option Addr} {sl2 : Array (Option Value)} {oc2 kV2 dc2 pm2 cd2 ct2 : Value} {f2 : Addr}
    {od3 an3 : Option Addr} {sl3 : Array (Option Value)} {oc3 kV3 dc3 pm3 cd3 ct3 : Value} {f3 : Addr}
    {od4 an4 : Option Addr} {sl4 : Array (Option Value)} {oc4 kV4 dc4 pm4 cd4 ct4 : Value} {f4 : Addr}
    {od5 an5 : Option Addr} {sl5 : Array (Option Value)} {oc5 kV5 dc5 pm5 cd5 ct5 : Value} {f5 : Addr}
    {q5 : Addr} {rest5 : List Value}
    {od6 an6 : Option Addr} {sl6 : Array (Option Value)} {oc6 kV6 dc6 pm6 cd6 ct6 : Value} {f6 : Addr}
    {q6 : Addr} {rest6 : List Value}
    {od7 an7 : Option Addr} {sl7 : Array (Option Value)} {oc7 kV7 dc7 pm7 cd7 ct7 : Value} {f7 : Addr}
    {od8 an8 : Option Addr} {sl8 : Array (Option Value)} {oc8 kV8 dc8 pm8 cd8 ct8 : Value} {f8 : Addr}
    {od9 an9 : Option Addr} {sl9 : Array (Option Value)} {oc9 kV9 dc9 pm9 cd9 ct9 : Value} {f9 : Addr}
    {od10 an10 : Option Addr} {sl10 : Array (Option Value)} {oc10 kV10 dc10 pm10 cd10 ct10 : Value} {f10 : Addr}
    {od11 an11 : Option Addr} {sl11 : Array (Option Value)} {oc11 kV11 dc11 pm11 cd11 ct11 : Value} {f11 : Addr}
    {od12 an12 : Option Addr} {sl12 : Array (Option Value)} {oc12 kV12 dc12 pm12 cd12 ct12 : Value} {f12 : Addr}
    {od13 an13 : Option Addr} {sl13 : Array (Option Value)} {oc13 kV13 dc13 pm13 cd13 ct13 : Value} {f13 : Addr}
    {od14 an14 : Option Addr} {sl14 : Array (Option Value)} {oc14 kV14 dc14 pm14 cd14 ct14 : Value} {f14 : Addr}
    {od15 an15 : Option Addr} {sl15 : Array (Option Value)} {oc15 kV15 dc15 pm15 cd15 ct15 : Value} {f15 : Addr}
    {od16 an16 : Option Addr} {sl16 : Array (Option Value)} {oc16 kV16 dc16 pm16 cd16 ct16 : Value} {f16 : Addr}
    {od17 an17 : Option Addr} {sl17 : Array (Option Value)} {oc17 kV17 dc17 pm17 cd17 ct17 : Value} {f17 : Addr}
    {od18 an18 : Option Addr} {sl18 : Array (Option Value)} {oc18 kV18 dc18 pm18 cd18 ct18 : Value} {f18 : Addr}
    {od19 an19 : Option Addr} {sl19 : Array (Option Value)} {oc19 kV19 dc19 pm19 cd19 ct19 : Value} {f19 : Addr}
    {od20 an20 : Option Addr} {sl20 : Array (Option Value)} {oc20 kV20 dc20 pm20 cd20 ct20 : Value} {f20 : Addr}
    {od21 an21 : Option Addr} {sl21 : Array (Option Value)} {oc21 kV21 dc21 pm21 cd21 ct21 : Value} {f21 : Addr}
    {od22 an22 : Option Addr} {sl22 : Array (Option Value)} {oc22 kV22 dc22 pm22 cd22 ct22 : Value} {f22 : Addr}
    {od23 an23 : Option Addr} {sl23 : Array (Option Value)} {oc23 kV23 dc23 pm23 cd23 ct23 : Value} {f23 : Addr}
    {od24 an24 : Option Addr} {sl24 : Array (Option Value)} {oc24 kV24 dc24 pm24 cd24 ct24 : Value} {f24 : Addr}
    {nmInvalidSize qInvalidSize : Str} {NInvalidSize : Addr} {bsInvalidSize : List Value} {snInvalidSize : List Str} {subInvalidSize : List Value} {abInvalidSize : Bool} {colInvalidSize : Option Bool} {ddInvalidSize : Option Addr} {m0InvalidSize m1InvalidSize m2InvalidSize m3InvalidSize m5InvalidSize : Option Value} {occInvalidSize : Value} {cddInvalidSize : Option Addr} {cvsInvalidSize : List Value} {cslInvalidSize : Array (Option Value)} {cclInvalidSize : Value} {ccdInvalidSize : Option Addr} {ccsInvalidSize : Array (Option Value)} {ocInvalidSize : Value} {odInvalidSize : Option Addr} {oslInvalidSize : Array (Option Value)} {docInvalidSize pmInvalidSize ctvInvalidSize : Value}
    {nmSharedKey qSharedKey : Str} {NSharedKey : Addr} {bsSharedKey : List Value} {snSharedKey : List Str} {subSharedKey : List Value} {abSharedKey : Bool} {colSharedKey : Option Bool} {ddSharedKey : Option Addr} {m0SharedKey m1SharedKey m2SharedKey m3SharedKey m5SharedKey : Option Value} {occSharedKey : Value} {cddSharedKey : Option Addr} {cvsSharedKey : List Value} {cslSharedKey : Array (Option Value)} {cclSharedKey : Value} {ccdSharedKey : Option Addr} {ccsSharedKey : Array (Option Value)} {ocSharedKey : Value} {odSharedKey : Option Addr} {oslSharedKey : Array (Option Value)} {docSharedKey pmSharedKey ctvSharedKey : Value}
    {nmWrongKind qWrongKind : Str} {NWrongKind : Addr} {bsWrongKind : List Value} {snWrongKind : List Str} {subWrongKind : List Value} {abWrongKind : Bool} {colWrongKind : Option Bool} {ddWrongKind : Option Addr} {m0WrongKind m1WrongKind m2WrongKind m3WrongKind m5WrongKind : Option Value} {occWrongKind : Value} {cddWrongKind : Option Addr} {cvsWrongKind : List Value} {cslWrongKind : Array (Option Value)} {cclWrongKind : Value} {ccdWrongKind : Option Addr} {ccsWrongKind : Array (Option Value)} {ocWrongKind : Value} {odWrongKind : Option Addr} {oslWrongKind : Array (Option Value)} {docWrongKind pmWrongKind ctvWrongKind : Value}
    {t_MOST_SIZE : Tok}
    (a1 : PySem.W.nsIn K mainGlobals "check_size" = some (some (.ref f1)))
    (l1 : K.lookup f1 = some ⟨oc1, od1, .func (PySem.W.fnOf "check_size" "check_size" (defArgs s_check_size) (defBody s_check_size) (defScope s_check_size) .none kV1 dc1 pm1 an1 cd1 ct1), sl1⟩)
    (c1 : PySem.W.codeIn K cd1 "check_size" = true)
    (k1 : PySem.W.keepIn K (.ref f1) = true)
    (a2 : PySem.W.nsIn K mainGlobals "least_twice" = some (some (.ref f2)))
    (l2 : K.lookup f2 = some ⟨oc2, od2, .func (PySem.W.fnOf "least_twice" "least_twice" (defArgs s_least_twice) (defBody s_least_twice) (defScope s_least_twice) .none kV2 dc2 pm2 an2 cd2 ct2), sl2⟩)
    (c2 : PySem.W.codeIn K cd2 "least_twice" = true)
    (k2 : PySem.W.keepIn K (.ref f2) = true)
    (a3 : PySem.W.nsIn K mainGlobals "check_keys" = some (some (.ref f3)))
    (l3 : K.lookup f3 = some ⟨oc3, od3, .func (PySem.W.fnOf "check_keys" "check_keys" (defArgs s_check_keys) (defBody s_check_keys) (defScope s_check_keys) .none kV3 dc3 pm3 an3 cd3 ct3), sl3⟩)
    (c3 : PySem.W.codeIn K cd3 "check_keys" = true)
    (k3 : PySem.W.keepIn K (.ref f3) = true)
    (a4 : PySem.W.findIn K (.ref CWeighted) "__init__" = some (some (.ref f4)))
    (i4 : PySem.W.isFn K (.ref f4) = true)
    (l4 : K.lookup f4 = some ⟨oc4, od4, .func (PySem.W.fnOf "__init__" "Weighted.__init__" (defArgs s_Weighted_init) (defBody s_Weighted_init) (defScope s_Weighted_init) .none kV4 dc4 pm4 an4 cd4 ct4), sl4⟩)
    (c4 : PySem.W.codeIn K cd4 "Weighted.__init__" = true)
    (k4 : PySem.W.keepIn K (.ref f4) = true)
    (a5 : PySem.W.findCls K (.ref CWeighted) (.type "type") "empty" = some (.get (.builtin "classmethod.__get__") (.ref q5) .none (.ref CWeighted))) (rc5 : PySem.W.recIn K q5 "classmethod" = some (.ref f5 :: rest5)) (i5 : PySem.W.fnIn K f5 = true)
    (l5 : K.lookup f5 = some ⟨oc5, od5, .func (PySem.W.fnOf "empty" "Weighted.empty" (defArgs s_Weighted_empty) (defBody s_Weighted_empty) (defScope s_Weighted_empty) .none kV5 dc5 pm5 an5 cd5 ct5), sl5⟩)
    (c5 : PySem.W.codeIn K cd5 "Weighted.empty" = true)
    (k5 : PySem.W.keepIn K (.ref f5) = true)
    (a6 : PySem.W.findCls K (.ref CWeighted) (.type "type") "single" = some (.get (.builtin "classmethod.__get__") (.ref q6) .none (.ref CWeighted))) (rc6 : PySem.W.recIn K q6 "classmethod" = some (.ref f6 :: rest6)) (i6 : PySem.W.fnIn K f6 = true)
    (l6 : K.lookup f6 = some ⟨oc6, od6, .func (PySem.W.fnOf "single" "Weighted.single" (defArgs s_Weighted_single) (defBody s_Weighted_single) (defScope s_Weighted_single) .none kV6 dc6 pm6 an6 cd6 ct6), sl6⟩)
    (c6 : PySem.W.codeIn K cd6 "Weighted.single" = true)
    (k6 : PySem.W.keepIn K (.ref f6) = true)
    (a7 : PySem.W.findIn K (.ref CWeighted) "merge" = some (some (.ref f7)))
    (i7 : PySem.W.isFn K (.ref f7) = true)
    (l7 : K.lookup f7 = some ⟨oc7, od7, .func (PySem.W.fnOf "merge" "Weighted.merge" (defArgs s_Weighted_merge) (defBody s_Weighted_merge) (defScope s_Weighted_merge) .none kV7 dc7 pm7 an7 cd7 ct7), sl7⟩)
    (c7 : PySem.W.codeIn K cd7 "Weighted.merge" = true)
    (k7 : PySem.W.keepIn K (.ref f7) = true)
    (a8 : PySem.W.findIn K (.ref CWeighted) "view" = some (some (.ref f8)))
    (i8 : PySem.W.isFn K (.ref f8) = true)
    (l8 : K.lookup f8 = some ⟨oc8, od8, .func (PySem.W.fnOf "view" "Weighted.view" (defArgs s_Weighted_view) (defBody s_Weighted_view) (defScope s_Weighted_view) .none kV8 dc8 pm8 an8 cd8 ct8), sl8⟩)
    (c8 : PySem.W.codeIn K cd8 "Weighted.view" = true)
    (k8 : PySem.W.keepIn K (.ref f8) = true)
    (a9 : PySem.W.nsIn K mainGlobals "check_merge" = some (some (.ref f9)))
    (l9 : K.lookup f9 = some ⟨oc9, od9, .func (PySem.W.fnOf "check_merge" "check_merge" (defArgs s_check_merge) (defBody s_check_merge) (defScope s_check_merge) .none kV9 dc9 pm9 an9 cd9 ct9), sl9⟩)
    (c9 : PySem.W.codeIn K cd9 "check_merge" = true)
    (k9 : PySem.W.keepIn K (.ref f9) = true)
    (a10 : PySem.W.nsIn K mainGlobals "number_at" = some (some (.ref f10)))
    (l10 : K.lookup f10 = some ⟨oc10, od10, .func (PySem.W.fnOf "number_at" "number_at" (defArgs s_number_at) (defBody s_number_at) (defScope s_number_at) .none kV10 dc10 pm10 an10 cd10 ct10), sl10⟩)
    (c10 : PySem.W.codeIn K cd10 "number_at" = true)
    (k10 : PySem.W.keepIn K (.ref f10) = true)
    (a11 : PySem.W.findIn K (.ref CTape) "__init__" = some (some (.ref f11)))
    (i11 : PySem.W.isFn K (.ref f11) = true)
    (l11 : K.lookup f11 = some ⟨oc11, od11, .func (PySem.W.fnOf "__init__" "Tape.__init__" (defArgs s_Tape_init) (defBody s_Tape_init) (defScope s_Tape_init) .none kV11 dc11 pm11 an11 cd11 ct11), sl11⟩)
    (c11 : PySem.W.codeIn K cd11 "Tape.__init__" = true)
    (k11 : PySem.W.keepIn K (.ref f11) = true)
    (a12 : PySem.W.findIn K (.ref CTape) "pick" = some (some (.ref f12)))
    (i12 : PySem.W.isFn K (.ref f12) = true)
    (l12 : K.lookup f12 = some ⟨oc12, od12, .func (PySem.W.fnOf "pick" "Tape.pick" (defArgs s_Tape_pick) (defBody s_Tape_pick) (defScope s_Tape_pick) .none kV12 dc12 pm12 an12 cd12 ct12), sl12⟩)
    (c12 : PySem.W.codeIn K cd12 "Tape.pick" = true)
    (k12 : PySem.W.keepIn K (.ref f12) = true)
    (a13 : PySem.W.nsIn K mainGlobals "_law_mix" = some (some (.ref f13)))
    (l13 : K.lookup f13 = some ⟨oc13, od13, .func (PySem.W.fnOf "_law_mix" "_law_mix" (defArgs s__law_mix) (defBody s__law_mix) (defScope s__law_mix) .none kV13 dc13 pm13 an13 cd13 ct13), sl13⟩)
    (c13 : PySem.W.codeIn K cd13 "_law_mix" = true)
    (k13 : PySem.W.keepIn K (.ref f13) = true)
    (a14 : PySem.W.nsIn K mainGlobals "_law_numbers" = some (some (.ref f14)))
    (l14 : K.lookup f14 = some ⟨oc14, od14, .func (PySem.W.fnOf "_law_numbers" "_law_numbers" (defArgs s__law_numbers) (defBody s__law_numbers) (defScope s__law_numbers) .none kV14 dc14 pm14 an14 cd14 ct14), sl14⟩)
    (c14 : PySem.W.codeIn K cd14 "_law_numbers" = true)
    (k14 : PySem.W.keepIn K (.ref f14) = true)
    (a15 : PySem.W.nsIn K mainGlobals "_law_take" = some (some (.ref f15)))
    (l15 : K.lookup f15 = some ⟨oc15, od15, .func (PySem.W.fnOf "_law_take" "_law_take" (defArgs s__law_take) (defBody s__law_take) (defScope s__law_take) .none kV15 dc15 pm15 an15 cd15 ct15), sl15⟩)
    (c15 : PySem.W.codeIn K cd15 "_law_take" = true)
    (k15 : PySem.W.keepIn K (.ref f15) = true)
    (a16 : PySem.W.nsIn K mainGlobals "_law_things" = some (some (.ref f16)))
    (l16 : K.lookup f16 = some ⟨oc16, od16, .func (PySem.W.fnOf "_law_things" "_law_things" (defArgs s__law_things) (defBody s__law_things) (defScope s__law_things) .none kV16 dc16 pm16 an16 cd16 ct16), sl16⟩)
    (c16 : PySem.W.codeIn K cd16 "_law_things" = true)
    (k16 : PySem.W.keepIn K (.ref f16) = true)
    (a17 : PySem.W.nsIn K mainGlobals "_law_shuffled" = some (some (.ref f17)))
    (l17 : K.lookup f17 = some ⟨oc17, od17, .func (PySem.W.fnOf "_law_shuffled" "_law_shuffled" (defArgs s__law_shuffled) (defBody s__law_shuffled) (defScope s__law_shuffled) .none kV17 dc17 pm17 an17 cd17 ct17), sl17⟩)
    (c17 : PySem.W.codeIn K cd17 "_law_shuffled" = true)
    (k17 : PySem.W.keepIn K (.ref f17) = true)
    (a18 : PySem.W.nsIn K mainGlobals "_law_tape" = some (some (.ref f18)))
    (l18 : K.lookup f18 = some ⟨oc18, od18, .func (PySem.W.fnOf "_law_tape" "_law_tape" (defArgs s__law_tape) (defBody s__law_tape) (defScope s__law_tape) .none kV18 dc18 pm18 an18 cd18 ct18), sl18⟩)
    (c18 : PySem.W.codeIn K cd18 "_law_tape" = true)
    (k18 : PySem.W.keepIn K (.ref f18) = true)
    (a19 : PySem.W.nsIn K mainGlobals "_law_pick" = some (some (.ref f19)))
    (l19 : K.lookup f19 = some ⟨oc19, od19, .func (PySem.W.fnOf "_law_pick" "_law_pick" (defArgs s__law_pick) (defBody s__law_pick) (defScope s__law_pick) .none kV19 dc19 pm19 an19 cd19 ct19), sl19⟩)
    (c19 : PySem.W.codeIn K cd19 "_law_pick" = true)
    (k19 : PySem.W.keepIn K (.ref f19) = true)
    (a20 : PySem.W.nsIn K mainGlobals "_law_merge" = some (some (.ref f20)))
    (l20 : K.lookup f20 = some ⟨oc20, od20, .func (PySem.W.fnOf "_law_merge" "_law_merge" (defArgs s__law_merge) (defBody s__law_merge) (defScope s__law_merge) .none kV20 dc20 pm20 an20 cd20 ct20), sl20⟩)
    (c20 : PySem.W.codeIn K cd20 "_law_merge" = true)
    (k20 : PySem.W.keepIn K (.ref f20) = true)
    (a21 : PySem.W.nsIn K mainGlobals "_law_same" = some (some (.ref f21)))
    (l21 : K.lookup f21 = some ⟨oc21, od21, .func (PySem.W.fnOf "_law_same" "_law_same" (defArgs s__law_same) (defBody s__law_same) (defScope s__law_same) .none kV21 dc21 pm21 an21 cd21 ct21), sl21⟩)
    (c21 : PySem.W.codeIn K cd21 "_law_same" = true)
    (k21 : PySem.W.keepIn K (.ref f21) = true)
    (a22 : PySem.W.nsIn K mainGlobals "_law_refused" = some (some (.ref f22)))
    (l22 : K.lookup f22 = some ⟨oc22, od22, .func (PySem.W.fnOf "_law_refused" "_law_refused" (defArgs s__law_refused) (defBody s__law_refused) (defScope s__law_refused) .none kV22 dc22 pm22 an22 cd22 ct22), sl22⟩)
    (c22 : PySem.W.codeIn K cd22 "_law_refused" = true)
    (k22 : PySem.W.keepIn K (.ref f22) = true)
    (a23 : PySem.W.nsIn K mainGlobals "_law_sizes" = some (some (.ref f23)))
    (l23 : K.lookup f23 = some ⟨oc23, od23, .func (PySem.W.fnOf "_law_sizes" "_law_sizes" (defArgs s__law_sizes) (defBody s__law_sizes) (defScope s__law_sizes) .none kV23 dc23 pm23 an23 cd23 ct23), sl23⟩)
    (c23 : PySem.W.codeIn K cd23 "_law_sizes" = true)
    (k23 : PySem.W.keepIn K (.ref f23) = true)
    (a24 : PySem.W.nsIn K mainGlobals "law" = some (some (.ref f24)))
    (l24 : K.lookup f24 = some ⟨oc24, od24, .func (PySem.W.fnOf "law" "law" (defArgs s_law) (defBody s_law) (defScope s_law) .none kV24 dc24 pm24 an24 cd24 ct24), sl24⟩)
    (c24 : PySem.W.codeIn K cd24 "law" = true)
    (k24 : PySem.W.keepIn K (.ref f24) = true)
    (aCSamphireError : PySem.W.nsIn K mainGlobals "SamphireError" = some (some (.ref CSamphireError)))
    (aCInvalidSize : PySem.W.nsIn K mainGlobals "InvalidSize" = some (some (.ref CInvalidSize)))
    (iCInvalidSize : PySem.W.findIn K (.ref CInvalidSize) "__init__" = some (some (.ref fInvalidSize)))
    (tIInvalidSize : PySem.W.typeIn K (.ref fInvalidSize) = some (.type "function"))
    (lkInvalidSize : K.lookup fInvalidSize = some ⟨ocInvalidSize, odInvalidSize, .func ((NF_InvalidSize ccInvalidSize cInvalidSize).fd docInvalidSize pmInvalidSize ctvInvalidSize), oslInvalidSize⟩)
    (hcInvalidSize : PySem.W.codeIn K (.ref cInvalidSize) "InvalidSize.__init__" = true)
    (xLInvalidSize : K.lookup CInvalidSize = some (excClassObj nmInvalidSize qInvalidSize CInvalidSize NInvalidSize bsInvalidSize [.ref CSamphireError, .type "ValueError", .type "Exception", .type "BaseException", .type "object"] true snInvalidSize subInvalidSize abInvalidSize colInvalidSize ddInvalidSize m0InvalidSize m1InvalidSize m2InvalidSize m3InvalidSize m5InvalidSize "ValueError.__new__"))
    (saInvalidSize : PySem.W.findIn K (.ref CInvalidSize) "__setattr__" = some (some (.builtin "object.__setattr__")))
    (sBInvalidSize : PySem.W.subIn K (.ref CInvalidSize) (.type "BaseException") = some true)
    (tCInvalidSize : PySem.W.typeIn K (.ref CInvalidSize) = some (.type "type"))
    (kCInvalidSize : PySem.W.keepIn K (.ref CInvalidSize) = true)
    (coInvalidSize : K.lookup cInvalidSize = some ⟨occInvalidSize, cddInvalidSize, .fields cvsInvalidSize.toArray, cslInvalidSize⟩)
    (flInvalidSize : Sup.flIs cvsInvalidSize l.prog.main.file = true)
    (ceInvalidSize : K.lookup ccInvalidSize = some ⟨cclInvalidSize, ccdInvalidSize, .cell (some (.ref CInvalidSize)), ccsInvalidSize⟩)
    (mrInvalidSize : PySem.W.mroIn K CInvalidSize (.ref CInvalidSize) = some true)
    (sVInvalidSize : PySem.W.subIn K (.ref CInvalidSize) (.type "ValueError") = some true)
    (anInvalidSize : PySem.W.nsIn K PySem.cStatics "thirdparty.any" = some none)
    (suInvalidSize : PySem.W.ks_superIn K CInvalidSize CInvalidSize "__init__" = some (some (.builtin "ValueError.__init__")))
    (tpInvalidSize : (l.prog.main.scope.names.lookup ("super" : Str)).isSome = false)
    (hgInvalidSize : PySem.W.findIn K (.ref CInvalidSize) "__getattribute__" = some (some (.builtin "BaseException.__getattribute__")))
    (hkInvalidSize : PySem.W.findIn K (.ref CInvalidSize) "__getattr__" = some none)
    (hdInvalidSize : PySem.W.hasDictIn K CInvalidSize = true)
    (haInvalidSize : PySem.W.findIn K (.ref CInvalidSize) "__class__" = some (some (.builtin "object.__class__")))
    (hnInvalidSize : PySem.W.specialIn K (.builtin "object.__class__") "__get__" = some (some (.builtin "getset_descriptor.__get__")))
    (htInvalidSize : PySem.W.takesIn K (.builtin "object.__class__") = some true)
    (hmInvalidSize : PySem.W.mroIn K CInvalidSize (.type "object") = some true)
    (icInvalidSize : PySem.W.isClsIn K CInvalidSize = true)
    (sCInvalidSize : PySem.W.subIn K (.ref CInvalidSize) (.ref CInvalidSize) = some true)
    (nf_size_InvalidSize : PySem.W.findIn K (.ref CInvalidSize) "size" = some none)
    (aCSharedKey : PySem.W.nsIn K mainGlobals "SharedKey" = some (some (.ref CSharedKey)))
    (iCSharedKey : PySem.W.findIn K (.ref CSharedKey) "__init__" = some (some (.ref fSharedKey)))
    (tISharedKey : PySem.W.typeIn K (.ref fSharedKey) = some (.type "function"))
    (lkSharedKey : K.lookup fSharedKey = some ⟨ocSharedKey, odSharedKey, .func ((NF_SharedKey ccSharedKey cSharedKey).fd docSharedKey pmSharedKey ctvSharedKey), oslSharedKey⟩)
    (hcSharedKey : PySem.W.codeIn K (.ref cSharedKey) "SharedKey.__init__" = true)
    (xLSharedKey : K.lookup CSharedKey = some (excClassObj nmSharedKey qSharedKey CSharedKey NSharedKey bsSharedKey [.ref CSamphireError, .type "ValueError", .type "Exception", .type "BaseException", .type "object"] true snSharedKey subSharedKey abSharedKey colSharedKey ddSharedKey m0SharedKey m1SharedKey m2SharedKey m3SharedKey m5SharedKey "ValueError.__new__"))
    (saSharedKey : PySem.W.findIn K (.ref CSharedKey) "__setattr__" = some (some (.builtin "object.__setattr__")))
    (sBSharedKey : PySem.W.subIn K (.ref CSharedKey) (.type "BaseException") = some true)
    (tCSharedKey : PySem.W.typeIn K (.ref CSharedKey) = some (.type "type"))
    (kCSharedKey : PySem.W.keepIn K (.ref CSharedKey) = true)
    (coSharedKey : K.lookup cSharedKey = some ⟨occSharedKey, cddSharedKey, .fields cvsSharedKey.toArray, cslSharedKey⟩)
    (flSharedKey : Sup.flIs cvsSharedKey l.prog.main.file = true)
    (ceSharedKey : K.lookup ccSharedKey = some ⟨cclSharedKey, ccdSharedKey, .cell (some (.ref CSharedKey)), ccsSharedKey⟩)
    (mrSharedKey : PySem.W.mroIn K CSharedKey (.ref CSharedKey) = some true)
    (sVSharedKey : PySem.W.subIn K (.ref CSharedKey) (.type "ValueError") = some true)
    (anSharedKey : PySem.W.nsIn K PySem.cStatics "thirdparty.any" = some none)
    (suSharedKey : PySem.W.ks_superIn K CSharedKey CSharedKey "__init__" = some (some (.builtin "ValueError.__init__")))
    (tpSharedKey : (l.prog.main.scope.names.lookup ("super" : Str)).isSome = false)
    (hgSharedKey : PySem.W.findIn K (.ref CSharedKey) "__getattribute__" = some (some (.builtin "BaseException.__getattribute__")))
    (hkSharedKey : PySem.W.findIn K (.ref CSharedKey) "__getattr__" = some none)
    (hdSharedKey : PySem.W.hasDictIn K CSharedKey = true)
    (haSharedKey : PySem.W.findIn K (.ref CSharedKey) "__class__" = some (some (.builtin "object.__class__")))
    (hnSharedKey : PySem.W.specialIn K (.builtin "object.__class__") "__get__" = some (some (.builtin "getset_descriptor.__get__")))
    (htSharedKey : PySem.W.takesIn K (.builtin "object.__class__") = some true)
    (hmSharedKey : PySem.W.mroIn K CSharedKey (.type "object") = some true)
    (icSharedKey : PySem.W.isClsIn K CSharedKey = true)
    (sCSharedKey : PySem.W.subIn K (.ref CSharedKey) (.ref CSharedKey) = some true)
    (nf_key_SharedKey : PySem.W.findIn K (.ref CSharedKey) "key" = some none)
    (aCWrongKind : PySem.W.nsIn K mainGlobals "WrongKind" = some (some (.ref CWrongKind)))
    (iCWrongKind : PySem.W.findIn K (.ref CWrongKind) "__init__" = some (some (.ref fWrongKind)))
    (tIWrongKind : PySem.W.typeIn K (.ref fWrongKind) = some (.type "function"))
    (lkWrongKind : K.lookup fWrongKind = some ⟨ocWrongKind, odWrongKind, .func ((NF_WrongKind ccWrongKind cWrongKind).fd docWrongKind pmWrongKind ctvWrongKind), oslWrongKind⟩)
    (hcWrongKind : PySem.W.codeIn K (.ref cWrongKind) "WrongKind.__init__" = true)
    (xLWrongKind : K.lookup CWrongKind = some (excClassObj nmWrongKind qWrongKind CWrongKind NWrongKind bsWrongKind [.ref CSamphireError, .type "ValueError", .type "Exception", .type "BaseException", .type "object"] true snWrongKind subWrongKind abWrongKind colWrongKind ddWrongKind m0WrongKind m1WrongKind m2WrongKind m3WrongKind m5WrongKind "ValueError.__new__"))
    (saWrongKind : PySem.W.findIn K (.ref CWrongKind) "__setattr__" = some (some (.builtin "object.__setattr__")))
    (sBWrongKind : PySem.W.subIn K (.ref CWrongKind) (.type "BaseException") = some true)
    (tCWrongKind : PySem.W.typeIn K (.ref CWrongKind) = some (.type "type"))
    (kCWrongKind : PySem.W.keepIn K (.ref CWrongKind) = true)
    (coWrongKind : K.lookup cWrongKind = some ⟨occWrongKind, cddWrongKind, .fields cvsWrongKind.toArray, cslWrongKind⟩)
    (flWrongKind : Sup.flIs cvsWrongKind l.prog.main.file = true)
    (ceWrongKind : K.lookup ccWrongKind = some ⟨cclWrongKind, ccdWrongKind, .cell (some (.ref CWrongKind)), ccsWrongKind⟩)
    (mrWrongKind : PySem.W.mroIn K CWrongKind (.ref CWrongKind) = some true)
    (sVWrongKind : PySem.W.subIn K (.ref CWrongKind) (.type "ValueError") = some true)
    (anWrongKind : PySem.W.nsIn K PySem.cStatics "thirdparty.any" = some none)
    (suWrongKind : PySem.W.ks_superIn K CWrongKind CWrongKind "__init__" = some (some (.builtin "ValueError.__init__")))
    (tpWrongKind : (l.prog.main.scope.names.lookup ("super" : Str)).isSome = false)
    (hgWrongKind : PySem.W.findIn K (.ref CWrongKind) "__getattribute__" = some (some (.builtin "BaseException.__getattribute__")))
    (hkWrongKind : PySem.W.findIn K (.ref CWrongKind) "__getattr__" = some none)
    (hdWrongKind : PySem.W.hasDictIn K CWrongKind = true)
    (haWrongKind : PySem.W.findIn K (.ref CWrongKind) "__class__" = some (some (.builtin "object.__class__")))
    (hnWrongKind : PySem.W.specialIn K (.builtin "object.__class__") "__get__" = some (some (.builtin "getset_descriptor.__get__")))
    (htWrongKind : PySem.W.takesIn K (.builtin "object.__class__") = some true)
    (hmWrongKind : PySem.W.mroIn K CWrongKind (.type "object") = some true)
    (icWrongKind : PySem.W.isClsIn K CWrongKind = true)
    (sCWrongKind : PySem.W.subIn K (.ref CWrongKind) (.ref CWrongKind) = some true)
    (kitWeightedWeighted : PySem.W.kitOne K (.ref CWeighted) (.ref CWeighted) = some true)
    (aCWeighted : PySem.W.nsIn K mainGlobals "Weighted" = some (some (.ref CWeighted)))
    (pgWeighted : PySem.W.plainGet K CWeighted Str.empty = true) (hdWeighted : PySem.W.hasDictIn K CWeighted = true) (poWeighted : PySem.W.plainOver K CWeighted = true) (saWeighted : PySem.W.findIn K (.ref CWeighted) "__setattr__" = some (some (.builtin "object.__setattr__"))) (mkWeighted : PySem.W.makesIn K CWeighted = true) (kcWeighted : PySem.W.keepIn K (.ref CWeighted) = true)
    (nWeighted_size : PySem.W.findIn K (.ref CWeighted) "size" = some none)
    (nWeighted_total : PySem.W.findIn K (.ref CWeighted) "total" = some none)
    (nWeighted_kept : PySem.W.findIn K (.ref CWeighted) "kept" = some none)
    (aCTape : PySem.W.nsIn K mainGlobals "Tape" = some (some (.ref CTape)))
    (pgTape : PySem.W.plainGet K CTape Str.empty = true) (hdTape : PySem.W.hasDictIn K CTape = true) (poTape : PySem.W.plainOver K CTape = true) (saTape : PySem.W.findIn K (.ref CTape) "__setattr__" = some (some (.builtin "object.__setattr__"))) (mkTape : PySem.W.makesIn K CTape = true) (kcTape : PySem.W.keepIn K (.ref CTape) = true)
    (nTape__numbers : PySem.W.findIn K (.ref CTape) "_numbers" = some none)
    (nTape__picks : PySem.W.findIn K (.ref CTape) "_picks" = some none)
    (crdWeighted : PySem.W.readsIn K CWeighted (.type "type") = true) (cgaWeighted : PySem.W.specialIn K (.ref CWeighted) "__getattribute__" = some (some (.builtin "type.__getattribute__")))
    (isaWeighted : PySem.W.findIn K (.ref CWeighted) "__class__" = some (some (.builtin "object.__class__")))
    (isgWeighted : PySem.W.specialIn K (.builtin "object.__class__") "__get__" = some (some (.builtin "getset_descriptor.__get__")))
    (istWeighted : PySem.W.takesIn K (.builtin "object.__class__") = some true)
    (ismWeighted : PySem.W.mroIn K CWeighted (.type "object") = some true)
    (kitexmSharedKeyWrongKind : PySem.W.exmOne K (.ref CSharedKey) (.ref CWrongKind) = some false)
    (z_int : PySem.W.nsIn K mainGlobals "int" = some none)
    (z_isinstance : PySem.W.nsIn K mainGlobals "isinstance" = some none)
    (z_len : PySem.W.nsIn K mainGlobals "len" = some none)
    (z_list : PySem.W.nsIn K mainGlobals "list" = some none)
    (z_min : PySem.W.nsIn K mainGlobals "min" = some none)
    (z_range : PySem.W.nsIn K mainGlobals "range" = some none)
    (z_sorted : PySem.W.nsIn K mainGlobals "sorted" = some none)
    (z_str : PySem.W.nsIn K mainGlobals "str" = some none)
    (z_sum : PySem.W.nsIn K mainGlobals "sum" = some none)
    (z_super : PySem.W.nsIn K mainGlobals "super" = some none)
    (z_tuple : PySem.W.nsIn K mainGlobals "tuple" = some none)
    (v_MOST_SIZE : PySem.W.nsIn K mainGlobals "MOST_SIZE" = some (some (.int (20) t_MOST_SIZE))) :
    ∃ fd : FuncData, (∀ (s : Shared) (v : Value), BindsTo s fd ⟨[v], []⟩ [("script", v)]) ∧ ∀ base : Heap, K.In base → base.Ns mainGlobals mg → FnOk l.prog w K mg base CX0 7 fa fd ["script"] (spLaw K) := by
  have e : f24 = fa := by
    have e := hfa.symm.trans (PySem.W.mg_of X G a24)
    cases e
    rfl
  subst e
  let t : T l.prog K mg := {
    a_check_size := f1, fd_check_size := _, F_check_size := fun_mk (st := s_check_size) l1 c1 k1, b_check_size := (fun_mk (st := s_check_size) l1 c1 k1).binds (ps := ["size"]) (fun _ _ _ _ _ _ us hl => match us, hl with | [_], _ => rfl),
    g_check_size := PySem.W.mg_of X G a1,
    a_least_twice := f2, fd_least_twice := _, F_least_twice := fun_mk (st := s_least_twice) l2 c2 k2, b_least_twice := (fun_mk (st := s_least_twice) l2 c2 k2).binds (ps := ["names"]) (fun _ _ _ _ _ _ us hl => match us, hl with | [_], _ => rfl),
    g_least_twice := PySem.W.mg_of X G a2,
    a_check_keys := f3, fd_check_keys := _, F_check_keys := fun_mk (st := s_check_keys) l3 c3 k3, b_check_keys := (fun_mk (st := s_check_keys) l3 c3 k3).binds (ps := ["samples"]) (fun _ _ _ _ _ _ us hl => match us, hl with | [_], _ => rfl),
    g_check_keys := PySem.W.mg_of X G a3,
    a_Weighted_init := f4, fd_Weighted_init := _, F_Weighted_init := fun_mk (st := s_Weighted_init) l4 c4 k4, b_Weighted_init := (fun_mk (st := s_Weighted_init) l4 c4 k4).binds (ps := ["self", "size", "total", "kept"]) (fun _ _ _ _ _ _ us hl => match us, hl with | [_, _, _, _], _ => rfl),
    a_Weighted_empty := f5, fd_Weighted_empty := _, F_Weighted_empty := fun_mk (st := s_Weighted_empty) l5 c5 k5, b_Weighted_empty := (fun_mk (st := s_Weighted_empty) l5 c5 k5).binds (ps := ["cls", "size"]) (fun _ _ _ _ _ _ us hl => match us, hl with | [_, _], _ => rfl),
    a_Weighted_single := f6, fd_Weighted_single := _, F_Weighted_single := fun_mk (st := s_Weighted_single) l6 c6 k6, b_Weighted_single := (fun_mk (st := s_Weighted_single) l6 c6 k6).binds (ps := ["cls", "item", "size"]) (fun _ _ _ _ _ _ us hl => match us, hl with | [_, _, _], _ => rfl),
    a_Weighted_merge := f7, fd_Weighted_merge := _, F_Weighted_merge := fun_mk (st := s_Weighted_merge) l7 c7 k7, b_Weighted_merge := (fun_mk (st := s_Weighted_merge) l7 c7 k7).binds (ps := ["self", "other", "dice"]) (fun _ _ _ _ _ _ us hl => match us, hl with | [_, _, _], _ => rfl),
    a_Weighted_view := f8, fd_Weighted_view := _, F_Weighted_view := fun_mk (st := s_Weighted_view) l8 c8 k8, b_Weighted_view := (fun_mk (st := s_Weighted_view) l8 c8 k8).binds (ps := ["self"]) (fun _ _ _ _ _ _ us hl => match us, hl with | [_], _ => rfl),
    a_check_merge := f9, fd_check_merge := _, F_check_merge := fun_mk (st := s_check_merge) l9 c9 k9, b_check_merge := (fun_mk (st := s_check_merge) l9 c9 k9).binds (ps := ["first", "second"]) (fun _ _ _ _ _ _ us hl => match us, hl with | [_, _], _ => rfl),
    g_check_merge := PySem.W.mg_of X G a9,
    a_number_at := f10, fd_number_at := _, F_number_at := fun_mk (st := s_number_at) l10 c10 k10, b_number_at := (fun_mk (st := s_number_at) l10 c10 k10).binds (ps := ["weights", "place"]) (fun _ _ _ _ _ _ us hl => match us, hl with | [_, _], _ => rfl),
    g_number_at := PySem.W.mg_of X G a10,
    a_Tape_init := f11, fd_Tape_init := _, F_Tape_init := fun_mk (st := s_Tape_init) l11 c11 k11, b_Tape_init := (fun_mk (st := s_Tape_init) l11 c11 k11).binds (ps := ["self", "numbers"]) (fun _ _ _ _ _ _ us hl => match us, hl with | [_, _], _ => rfl),
    a_Tape_pick := f12, fd_Tape_pick := _, F_Tape_pick := fun_mk (st := s_Tape_pick) l12 c12 k12, b_Tape_pick := (fun_mk (st := s_Tape_pick) l12 c12 k12).binds (ps := ["self", "weights"]) (fun _ _ _ _ _ _ us hl => match us, hl with | [_, _], _ => rfl),
    a__law_mix := f13, fd__law_mix := _, F__law_mix := fun_mk (st := s__law_mix) l13 c13 k13, b__law_mix := (fun_mk (st := s__law_mix) l13 c13 k13).binds (ps := ["number", "k"]) (fun _ _ _ _ _ _ us hl => match us, hl with | [_, _], _ => rfl),
    g__law_mix := PySem.W.mg_of X G a13,
    a__law_numbers := f14, fd__law_numbers := _, F__law_numbers := fun_mk (st := s__law_numbers) l14 c14 k14, b__law_numbers := (fun_mk (st := s__law_numbers) l14 c14 k14).binds (ps := ["script", "count"]) (fun _ _ _ _ _ _ us hl => match us, hl with | [_, _], _ => rfl),
    g__law_numbers := PySem.W.mg_of X G a14,
    a__law_take := f15, fd__law_take := _, F__law_take := fun_mk (st := s__law_take) l15 c15 k15, b__law_take := (fun_mk (st := s__law_take) l15 c15 k15).binds (ps := ["row", "bound"]) (fun _ _ _ _ _ _ us hl => match us, hl with | [_, _], _ => rfl),
    g__law_take := PySem.W.mg_of X G a15,
    a__law_things := f16, fd__law_things := _, F__law_things := fun_mk (st := s__law_things) l16 c16 k16, b__law_things := (fun_mk (st := s__law_things) l16 c16 k16).binds (ps := ["row", "most", "letters"]) (fun _ _ _ _ _ _ us hl => match us, hl with | [_, _, _], _ => rfl),
    g__law_things := PySem.W.mg_of X G a16,
    a__law_shuffled := f17, fd__law_shuffled := _, F__law_shuffled := fun_mk (st := s__law_shuffled) l17 c17 k17, b__law_shuffled := (fun_mk (st := s__law_shuffled) l17 c17 k17).binds (ps := ["row", "things"]) (fun _ _ _ _ _ _ us hl => match us, hl with | [_, _], _ => rfl),
    g__law_shuffled := PySem.W.mg_of X G a17,
    a__law_tape := f18, fd__law_tape := _, F__law_tape := fun_mk (st := s__law_tape) l18 c18 k18, b__law_tape := (fun_mk (st := s__law_tape) l18 c18 k18).binds (ps := ["row", "many"]) (fun _ _ _ _ _ _ us hl => match us, hl with | [_, _], _ => rfl),
    g__law_tape := PySem.W.mg_of X G a18,
    a__law_pick := f19, fd__law_pick := _, F__law_pick := fun_mk (st := s__law_pick) l19 c19 k19, b__law_pick := (fun_mk (st := s__law_pick) l19 c19 k19).binds (ps := ["box", "weights"]) (fun _ _ _ _ _ _ us hl => match us, hl with | [_, _], _ => rfl),
    g__law_pick := PySem.W.mg_of X G a19,
    a__law_merge := f20, fd__law_merge := _, F__law_merge := fun_mk (st := s__law_merge) l20 c20 k20, b__law_merge := (fun_mk (st := s__law_merge) l20 c20 k20).binds (ps := ["box", "size", "first", "second"]) (fun _ _ _ _ _ _ us hl => match us, hl with | [_, _, _, _], _ => rfl),
    g__law_merge := PySem.W.mg_of X G a20,
    a__law_same := f21, fd__law_same := _, F__law_same := fun_mk (st := s__law_same) l21 c21 k21, b__law_same := (fun_mk (st := s__law_same) l21 c21 k21).binds (ps := ["sample", "size", "data"]) (fun _ _ _ _ _ _ us hl => match us, hl with | [_, _, _], _ => rfl),
    g__law_same := PySem.W.mg_of X G a21,
    a__law_refused := f22, fd__law_refused := _, F__law_refused := fun_mk (st := s__law_refused) l22 c22 k22, b__law_refused := (fun_mk (st := s__law_refused) l22 c22 k22).binds (ps := ["first", "second"]) (fun _ _ _ _ _ _ us hl => match us, hl with | [_, _], _ => rfl),
    g__law_refused := PySem.W.mg_of X G a22,
    a__law_sizes := f23, fd__law_sizes := _, F__law_sizes := fun_mk (st := s__law_sizes) l23 c23 k23, b__law_sizes := (fun_mk (st := s__law_sizes) l23 c23 k23).binds (ps := ["item"]) (fun _ _ _ _ _ _ us hl => match us, hl with | [_], _ => rfl),
    g__law_sizes := PySem.W.mg_of X G a23,
    a_law := f24, fd_law := _, F_law := fun_mk (st := s_law) l24 c24 k24, b_law := (fun_mk (st := s_law) l24 c24 k24).binds (ps := ["script"]) (fun _ _ _ _ _ _ us hl => match us, hl with | [_], _ => rfl),
    g_law := PySem.W.mg_of X G a24,
    C_SamphireError := CSamphireError, mg_SamphireError := PySem.W.mg_of X G aCSamphireError,
    C_InvalidSize := CInvalidSize, a_InvalidSize_init := fInvalidSize, c_InvalidSize := cInvalidSize, cc_InvalidSize := ccInvalidSize, doc_InvalidSize := docInvalidSize, pm_InvalidSize := pmInvalidSize, ctv_InvalidSize := ctvInvalidSize, oc_InvalidSize := ocInvalidSize, od_InvalidSize := odInvalidSize, osl_InvalidSize := oslInvalidSize, lk_InvalidSize := lkInvalidSize, hc_InvalidSize := hcInvalidSize,
    x_InvalidSize := Sup.excT_mk xLInvalidSize rfl saInvalidSize sBInvalidSize tCInvalidSize kCInvalidSize coInvalidSize flInvalidSize ceInvalidSize mrInvalidSize sVInvalidSize (PySem.W.mg_none_of X G z_super) anInvalidSize suInvalidSize tpInvalidSize (PySem.W.mg_of X G aCInvalidSize) iCInvalidSize tIInvalidSize ⟨hgInvalidSize, hkInvalidSize, sBInvalidSize, hdInvalidSize, haInvalidSize, hnInvalidSize, htInvalidSize, hmInvalidSize⟩ icInvalidSize sCInvalidSize,
    bx_InvalidSize := .all (fun us hl => match us, hl with | [_, _], _ => rfl),
    nf_InvalidSize_size := nf_size_InvalidSize,
    C_SharedKey := CSharedKey, a_SharedKey_init := fSharedKey, c_SharedKey := cSharedKey, cc_SharedKey := ccSharedKey, doc_SharedKey := docSharedKey, pm_SharedKey := pmSharedKey, ctv_SharedKey := ctvSharedKey, oc_SharedKey := ocSharedKey, od_SharedKey := odSharedKey, osl_SharedKey := oslSharedKey, lk_SharedKey := lkSharedKey, hc_SharedKey := hcSharedKey,
    x_SharedKey := Sup.excT_mk xLSharedKey rfl saSharedKey sBSharedKey tCSharedKey kCSharedKey coSharedKey flSharedKey ceSharedKey mrSharedKey sVSharedKey (PySem.W.mg_none_of X G z_super) anSharedKey suSharedKey tpSharedKey (PySem.W.mg_of X G aCSharedKey) iCSharedKey tISharedKey ⟨hgSharedKey, hkSharedKey, sBSharedKey, hdSharedKey, haSharedKey, hnSharedKey, htSharedKey, hmSharedKey⟩ icSharedKey sCSharedKey,
    bx_SharedKey := .all (fun us hl => match us, hl with | [_, _], _ => rfl),
    nf_SharedKey_key := nf_key_SharedKey,
    C_WrongKind := CWrongKind, a_WrongKind_init := fWrongKind, c_WrongKind := cWrongKind, cc_WrongKind := ccWrongKind, doc_WrongKind := docWrongKind, pm_WrongKind := pmWrongKind, ctv_WrongKind := ctvWrongKind, oc_WrongKind := ocWrongKind, od_WrongKind := odWrongKind, osl_WrongKind := oslWrongKind, lk_WrongKind := lkWrongKind, hc_WrongKind := hcWrongKind,
    x_WrongKind := Sup.excT_mk xLWrongKind rfl saWrongKind sBWrongKind tCWrongKind kCWrongKind coWrongKind flWrongKind ceWrongKind mrWrongKind sVWrongKind (PySem.W.mg_none_of X G z_super) anWrongKind suWrongKind tpWrongKind (PySem.W.mg_of X G aCWrongKind) iCWrongKind tIWrongKind ⟨hgWrongKind, hkWrongKind, sBWrongKind, hdWrongKind, haWrongKind, hnWrongKind, htWrongKind, hmWrongKind⟩ icWrongKind sCWrongKind,
    bx_WrongKind := .all (fun us hl => match us, hl with | [_], _ => rfl),
    kit_Weighted_Weighted := kitWeightedWeighted,
    C_Weighted := CWeighted, cl_Weighted := ⟨pgWeighted, hdWeighted, poWeighted, saWeighted⟩, mg_Weighted := PySem.W.mg_of X G aCWeighted,
    mk_Weighted := ⟨mkWeighted, a4, i4, kcWeighted⟩,
    na_Weighted_size := nWeighted_size,
    na_Weighted_total := nWeighted_total,
    na_Weighted_kept := nWeighted_kept,
    p_Weighted_empty := q5, cm_Weighted_empty := ⟨a5, ⟨rest5, rc5⟩, i5⟩,
    p_Weighted_single := q6, cm_Weighted_single := ⟨a6, ⟨rest6, rc6⟩, i6⟩,
    me_Weighted_merge := ⟨a7, i7, k7⟩,
    me_Weighted_view := ⟨a8, i8, k8⟩,
    C_Tape := CTape, cl_Tape := ⟨pgTape, hdTape, poTape, saTape⟩, mg_Tape := PySem.W.mg_of X G aCTape,
    mk_Tape := ⟨mkTape, a11, i11, kcTape⟩,
    na_Tape__numbers := nTape__numbers,
    na_Tape__picks := nTape__picks,
    me_Tape_pick := ⟨a12, i12, k12⟩,
    cr_Weighted := ⟨crdWeighted, cgaWeighted⟩,
    isa_Weighted := isaWeighted,
    isg_Weighted := isgWeighted,
    ist_Weighted := istWeighted,
    ism_Weighted := ismWeighted,
    exm_SharedKey_WrongKind := kitexmSharedKeyWrongKind,
    z_int := PySem.W.mg_none_of X G z_int,
    z_isinstance := PySem.W.mg_none_of X G z_isinstance,
    z_len := PySem.W.mg_none_of X G z_len,
    z_list := PySem.W.mg_none_of X G z_list,
    z_min := PySem.W.mg_none_of X G z_min,
    z_range := PySem.W.mg_none_of X G z_range,
    z_sorted := PySem.W.mg_none_of X G z_sorted,
    z_str := PySem.W.mg_none_of X G z_str,
    z_sum := PySem.W.mg_none_of X G z_sum,
    z_super := PySem.W.mg_none_of X G z_super,
    z_tuple := PySem.W.mg_none_of X G z_tuple,
    v_MOST_SIZE := _, g_MOST_SIZE := PySem.W.mg_of X G v_MOST_SIZE, r_MOST_SIZE := ⟨_, rfl⟩ }
  exact ⟨t.fd_law, fun s v => .of_eq rfl, fun base _ _ => ok_law t⟩

end K20
open PySem PySem.W PyProof.Rows in
set_option maxRecDepth 100000 in
set_option maxHeartbeats 0 in
theorem PySem.Challenge.cw_samphire_k20_merging_weighted_samples_holds : PySem.Challenge.rw_samphire_k20_merging_weighted_samples.Holds := by
  w_on; o_law; k_head; (case hw => w_witness2)
  k_fill
  refine L2.walk_ofB (l := PySem.Challenge.rw_samphire_k20_merging_weighted_samples) (n := 63) (k := 7) (x := "script") (CX := fun w => L2.CX0) (sp := fun w => K20.spLaw _) rfl (by decide) rfl ⟨rfl, by decide, by decide⟩ (fun w h Y => PySem.W.kIn_of Y) ?F (fun _ H a ns hl hb _ hS => ⟨a, ns, rfl, hS, hl, hb, fun _ => rfl⟩) (fun _ _ _ _ _ h => h)
  case F =>
    intro w mg fa h KX G hmg
    refine' K20.all_mk KX G hmg ?a1 ?l1 ?c1 ?k1 ?a2 ?l2 ?c2 ?k2 ?a3 ?l3 ?c3 ?k3 ?a4 ?i4 ?l4 ?c4 ?k4 ?a5 ?rc5 ?i5 ?l5 ?c5 ?k5 ?a6 ?rc6 ?i6 ?l6 ?c6 ?k6 ?a7 ?i7 ?l7 ?c7 ?k7 ?a8 ?i8 ?l8 ?c8 ?k8 ?a9 ?l9 ?c9 ?k9 ?a10 ?l10 ?c10 ?k10 ?a11 ?i11 ?l11 ?c11 ?k11 ?a12 ?i12 ?l12 ?c12 ?k12 ?a13 ?l13 ?c13 ?k13 ?a14 ?l14 ?c14 ?k14 ?a15 ?l15 ?c15 ?k15 ?a16 ?l16 ?c16 ?k16 ?a17 ?l17 ?c17 ?k17 ?a18 ?l18 ?c18 ?k18 ?a19 ?l19 ?c19 ?k19 ?a20 ?l20 ?c20 ?k20 ?a21 ?l21 ?c21 ?k21 ?a22 ?l22 ?c22 ?k22 ?a23 ?l23 ?c23 ?k23 ?a24 ?l24 ?c24 ?k24 ?aCSamphireError ?aCInvalidSize ?iCInvalidSize ?tIInvalidSize ?lkInvalidSize ?hcInvalidSize ?xLInvalidSize ?saInvalidSize ?sBInvalidSize ?tCInvalidSize ?kCInvalidSize ?coInvalidSize ?flInvalidSize ?ceInvalidSize ?mrInvalidSize ?sVInvalidSize ?anInvalidSize ?suInvalidSize ?tpInvalidSize ?hgInvalidSize ?hkInvalidSize ?hdInvalidSize ?haInvalidSize ?hnInvalidSize ?htInvalidSize ?hmInvalidSize ?icInvalidSize ?sCInvalidSize ?nf_size_InvalidSize ?aCSharedKey ?iCSharedKey ?tISharedKey ?lkSharedKey ?hcSharedKey ?xLSharedKey ?saSharedKey ?sBSharedKey ?tCSharedKey ?kCSharedKey ?coSharedKey ?flSharedKey ?ceSharedKey ?mrSharedKey ?sVSharedKey ?anSharedKey ?suSharedKey ?tpSharedKey ?hgSharedKey ?hkSharedKey ?hdSharedKey ?haSharedKey ?hnSharedKey ?htSharedKey ?hmSharedKey ?icSharedKey ?sCSharedKey ?nf_key_SharedKey ?aCWrongKind ?iCWrongKind ?tIWrongKind ?lkWrongKind ?hcWrongKind ?xLWrongKind ?saWrongKind ?sBWrongKind ?tCWrongKind ?kCWrongKind ?coWrongKind ?flWrongKind ?ceWrongKind ?mrWrongKind ?sVWrongKind ?anWrongKind ?suWrongKind ?tpWrongKind ?hgWrongKind ?hkWrongKind ?hdWrongKind ?haWrongKind ?hnWrongKind ?htWrongKind ?hmWrongKind ?icWrongKind ?sCWrongKind ?kitWeightedWeighted ?aCWeighted ?pgWeighted ?hdWeighted ?poWeighted ?saWeighted ?mkWeighted ?kcWeighted ?nWeighted_size ?nWeighted_total ?nWeighted_kept ?aCTape ?pgTape ?hdTape ?poTape ?saTape ?mkTape ?kcTape ?nTape__numbers ?nTape__picks ?crdWeighted ?cgaWeighted ?isaWeighted ?isgWeighted ?istWeighted ?ismWeighted ?kitexmSharedKeyWrongKind ?z_int ?z_isinstance ?z_len ?z_list ?z_min ?z_range ?z_sorted ?z_str ?z_sum ?z_super ?z_tuple ?v_MOST_SIZE
    (case aCSamphireError => k_is)
    (case aCInvalidSize => k_is)
    (case aCSharedKey => k_is)
    (case aCWrongKind => k_is)
    (case aCWeighted => k_is)
    (case aCTape => k_is)
    (case a1 => k_is)
    (case l1 => k_is)
    (case c1 => k_is)
    (case k1 => k_is)
    (case a2 => k_is)
    (case l2 => k_is)
    (case c2 => k_is)
    (case k2 => k_is)
    (case a3 => k_is)
    (case l3 => k_is)
    (case c3 => k_is)
    (case k3 => k_is)
    (case a4 => k_is)
    (case i4 => k_is)
    (case l4 => k_is)
    (case c4 => k_is)
    (case k4 => k_is)
    (case a5 => k_is)
    (case rc5 => k_is)
    (case i5 => k_is)
    (case l5 => k_is)
    (case c5 => k_is)
    (case k5 => k_is)
    (case a6 => k_is)
    (case rc6 => k_is)
    (case i6 => k_is)
    (case l6 => k_is)
    (case c6 => k_is)
    (case k6 => k_is)
    (case a7 => k_is)
    (case i7 => k_is)
    (case l7 => k_is)
    (case c7 => k_is)
    (case k7 => k_is)
    (case a8 => k_is)
    (case i8 => k_is)
    (case l8 => k_is)
    (case c8 => k_is)
    (case k8 => k_is)
    (case a9 => k_is)
    (case l9 => k_is)
    (case c9 => k_is)
    (case k9 => k_is)
    (case a10 => k_is)
    (case l10 => k_is)
    (case c10 => k_is)
    (case k10 => k_is)
    (case a11 => k_is)
    (case i11 => k_is)
    (case l11 => k_is)
    (case c11 => k_is)
    (case k11 => k_is)
    (case a12 => k_is)
    (case i12 => k_is)
    (case l12 => k_is)
    (case c12 => k_is)
    (case k12 => k_is)
    (case a13 => k_is)
    (case l13 => k_is)
    (case c13 => k_is)
    (case k13 => k_is)
    (case a14 => k_is)
    (case l14 => k_is)
    (case c14 => k_is)
    (case k14 => k_is)
    (case a15 => k_is)
    (case l15 => k_is)
    (case c15 => k_is)
    (case k15 => k_is)
    (case a16 => k_is)
    (case l16 => k_is)
    (case c16 => k_is)
    (case k16 => k_is)
    (case a17 => k_is)
    (case l17 => k_is)
    (case c17 => k_is)
    (case k17 => k_is)
    (case a18 => k_is)
    (case l18 => k_is)
    (case c18 => k_is)
    (case k18 => k_is)
    (case a19 => k_is)
    (case l19 => k_is)
    (case c19 => k_is)
    (case k19 => k_is)
    (case a20 => k_is)
    (case l20 => k_is)
    (case c20 => k_is)
    (case k20 => k_is)
    (case a21 => k_is)
    (case l21 => k_is)
    (case c21 => k_is)
    (case k21 => k_is)
    (case a22 => k_is)
    (case l22 => k_is)
    (case c22 => k_is)
    (case k22 => k_is)
    (case a23 => k_is)
    (case l23 => k_is)
    (case c23 => k_is)
    (case k23 => k_is)
    (case a24 => k_is)
    (case l24 => k_is)
    (case c24 => k_is)
    (case k24 => k_is)
    (case iCInvalidSize => k_is)
    (case tIInvalidSize => k_is)
    (case lkInvalidSize => k_is)
    (case hcInvalidSize => k_is)
    (case xLInvalidSize => k_is)
    (case saInvalidSize => k_is)
    (case sBInvalidSize => k_is)
    (case tCInvalidSize => k_is)
    (case kCInvalidSize => k_is)
    (case coInvalidSize => k_is)
    (case flInvalidSize => first | rfl | decide +kernel)
    (case ceInvalidSize => k_is)
    (case mrInvalidSize => first | rfl | k_is)
    (case sVInvalidSize => k_is)
    (case anInvalidSize => k_is)
    (case suInvalidSize => ks_is)
    (case tpInvalidSize => first | rfl | decide +kernel)
    (case hgInvalidSize => k_is)
    (case hkInvalidSize => k_is)
    (case hdInvalidSize => k_is)
    (case haInvalidSize => k_is)
    (case hnInvalidSize => k_is)
    (case htInvalidSize => k_is)
    (case hmInvalidSize => k_is)
    (case icInvalidSize => k_is)
    (case sCInvalidSize => first | rfl | k_is)
    (case nf_size_InvalidSize => k_is)
    (case iCSharedKey => k_is)
    (case tISharedKey => k_is)
    (case lkSharedKey => k_is)
    (case hcSharedKey => k_is)
    (case xLSharedKey => k_is)
    (case saSharedKey => k_is)
    (case sBSharedKey => k_is)
    (case tCSharedKey => k_is)
    (case kCSharedKey => k_is)
    (case coSharedKey => k_is)
    (case flSharedKey => first | rfl | decide +kernel)
    (case ceSharedKey => k_is)
    (case mrSharedKey => first | rfl | k_is)
    (case sVSharedKey => k_is)
    (case anSharedKey => k_is)
    (case suSharedKey => ks_is)
    (case tpSharedKey => first | rfl | decide +kernel)
    (case hgSharedKey => k_is)
    (case hkSharedKey => k_is)
    (case hdSharedKey => k_is)
    (case haSharedKey => k_is)
    (case hnSharedKey => k_is)
    (case htSharedKey => k_is)
    (case hmSharedKey => k_is)
    (case icSharedKey => k_is)
    (case sCSharedKey => first | rfl | k_is)
    (case nf_key_SharedKey => k_is)
    (case iCWrongKind => k_is)
    (case tIWrongKind => k_is)
    (case lkWrongKind => k_is)
    (case hcWrongKind => k_is)
    (case xLWrongKind => k_is)
    (case saWrongKind => k_is)
    (case sBWrongKind => k_is)
    (case tCWrongKind => k_is)
    (case kCWrongKind => k_is)
    (case coWrongKind => k_is)
    (case flWrongKind => first | rfl | decide +kernel)
    (case ceWrongKind => k_is)
    (case mrWrongKind => first | rfl | k_is)
    (case sVWrongKind => k_is)
    (case anWrongKind => k_is)
    (case suWrongKind => ks_is)
    (case tpWrongKind => first | rfl | decide +kernel)
    (case hgWrongKind => k_is)
    (case hkWrongKind => k_is)
    (case hdWrongKind => k_is)
    (case haWrongKind => k_is)
    (case hnWrongKind => k_is)
    (case htWrongKind => k_is)
    (case hmWrongKind => k_is)
    (case icWrongKind => k_is)
    (case sCWrongKind => first | rfl | k_is)
    (case kitWeightedWeighted => first | rfl | k_is | decide +kernel)
    (case pgWeighted => k_is)
    (case hdWeighted => k_is)
    (case poWeighted => k_is)
    (case saWeighted => k_is)
    (case mkWeighted => k_is)
    (case kcWeighted => k_is)
    (case nWeighted_size => k_is)
    (case nWeighted_total => k_is)
    (case nWeighted_kept => k_is)
    (case pgTape => k_is)
    (case hdTape => k_is)
    (case poTape => k_is)
    (case saTape => k_is)
    (case mkTape => k_is)
    (case kcTape => k_is)
    (case nTape__numbers => k_is)
    (case nTape__picks => k_is)
    (case crdWeighted => k_is)
    (case cgaWeighted => k_is)
    (case isaWeighted => k_is)
    (case isgWeighted => k_is)
    (case istWeighted => k_is)
    (case ismWeighted => k_is)
    (case kitexmSharedKeyWrongKind => first | rfl | k_is | decide +kernel)
    (case z_int => k_is)
    (case z_isinstance => k_is)
    (case z_len => k_is)
    (case z_list => k_is)
    (case z_min => k_is)
    (case z_range => k_is)
    (case z_sorted => k_is)
    (case z_str => k_is)
    (case z_sum => k_is)
    (case z_super => k_is)
    (case z_tuple => k_is)
    (case v_MOST_SIZE => k_is)
