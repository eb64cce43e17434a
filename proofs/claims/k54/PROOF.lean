import PyProof.Rows.All
import Wide.All
import OpenK.AllK
import Wide.FinOn
import HandS.ForMost
import HandS.ForExc
import HandS.EndBits
import HandS.Wide
import HandS.IsInst
import HandS.ExcInit
import HandS.Nested
import KE.KExcSuper
import HandS.ExcIs
import HandS.ExcField
import HandS.Gcd
import HandS.Rev
import HandS.Walk
import HandS.Style
import HandS.FStr
import HandS.TryOnly
import KE.GoesEnumKw
import HandS.Text
import HandS.SortInts
import HandS.More
import HandS.Deep
import HandS.StrMore
import HandS.TryMany
import KE.SortData
import KE.SortKeyHeap
import PySem.Challenge.RW_samphire_k54_whole_places_for_strata
set_option Elab.async false
set_option linter.all false
set_option maxRecDepth 100000

/-! ### an own exception whose __init__ begins with super().__init__(..) -/
namespace Sup
open PySem PySem.Spec PyProof.Rows L2 NdefX
/-- what the written part says of such a class (at C), of its __init__ (at f; its code at c, its cell of the class at cc) -/
structure SupC (P : Program) (K : PySem.W.Frag) (mg : Str → Option Value) (C f c cc : Addr) : Prop where
  T : OexC K C
  cd : ∃ cd, PySem.W.clsIn K C = some cd
  code : ∃ occ cdd vs sl file tf, K.lookup c = some ⟨occ, cdd, .fields vs, sl⟩ ∧ vs[2]? = some (.str file tf) ∧ ((P.main.file : Str) == file) = true
  cell : ∃ cl cld sl, K.lookup cc = some ⟨cl, cld, .cell (some (.ref C)), sl⟩
  sub : PySem.W.mroIn K C (.ref C) = some true
  subV : PySem.W.subIn K (.ref C) (.type "ValueError") = some true
  zs : mg "super" = none
  any : PySem.W.nsIn K PySem.cStatics "thirdparty.any" = some none
  sup : PySem.W.ks_superIn K C C "__init__" = some (some (.builtin "ValueError.__init__"))
  top : (P.main.scope.names.lookup ("super" : Str)).isSome = false
section
variable {CX : CXT} {P : Program} {w : World} {K : PySem.W.Frag} {mg : Str → Option Value} {base : Heap} {N ps : List Str} {F : NF} {f C cc : Addr} {k : Nat} {sp : Sp}
/-- the body's first statement -/
abbrev supSt (arg : Expr) (p0 p1 p2 p3 p4 : Pos) : Stmt := .Expr (.Call (.Attribute (.Call (.Name "super" p0) [] [] p1) "__init__" p2) [arg] [] p3) p4
theorem callW {M : Model} {A : Around} {E : Value → Shared → Prop} {s : Shared} {i : String} {u x : Addr} {pos : Pos} {env : Env} {e : Expr} {Q : Value → Shared → Prop} (he : starEach [e] env = (false, eval e env) :: starEach [] env)
    (h : wpAny M A (spliced (backTo pos (starEach [e] env))) (fun vs s₁ => PySem.W.KxsAt i u x s₁.heap ∧ wpAny M A (call (.ref u) vs) Q E s₁) E s) : wpAny M A (callWith pos (.ref u) [] (backTo pos (starEach [e] env)) []) Q E s := by
  rw [he] at h ⊢
  refine PySem.W.kxs_callWith (i := i) (x := x) rfl ?_
  exact PySem.Calls.evalArgs_plain h
theorem fn_super {oc : Value} {od : Option Addr} {osl : Array (Option Value)} {doc pm ctv : Value} {arg : Expr} {rest : List Stmt} {p0 p1 p2 p3 p4 : Pos} {p : Str} {ps' : List Str}
    (T : SupC P K mg C f F.c cc) (lk : K.lookup f = some ⟨oc, od, .func (F.fd doc pm ctv), osl⟩) (hcl : F.cl = [(("__class__" : Str), cc)]) (hcd : PySem.W.codeIn K (.ref F.c) F.qual = true) (S : NScope N ps ["__class__"] F.scope) (hps : ps = p :: ps')
    (hpar : ∃ ar, (F.params.posonlyargs ++ F.params.args).head? = some ar ∧ ar.arg = p) (hsu : F.scope.names.lookup ("super" : Str) = some .globalImplicit) (hbd : F.body = supSt arg p0 p1 p2 p3 p4 :: rest)
    (hsw : ∀ L : Addr, swapsWith (.Call (.Attribute (.Call (.Name "super" p0) [] [] p1) "__init__" p2) [arg] [] p3) none p4.line (envF F f L) = pure false)
    (hev : ∀ L : Addr, ∃ pl, eval (.Call (.Attribute (.Call (.Name "super" p0) [] [] p1) "__init__" p2) [arg] [] p3) (envF F f L) = (do
        let ov ← attributeBase (.Call (.Name "super" p0) [] [] p1) "__init__" (envF F f L) (eval (.Call (.Name "super" p0) [] [] p1) (envF F f L))
        standAt p2.atName
        let (f', first) ← holding [ov] (getMethod ov "__init__" pl)
        callWith p3 f' first (backTo p3 (starEach [arg] (envF F f L))) []))
    (hst : ∀ L : Addr, starEach [arg] (envF F f L) = (false, eval arg (envF F f L)) :: starEach [] (envF F f L))
    (len : ∀ vs H Q E, sp vs H Q E → vs.length = ps.length)
    (hbody : ∀ (A : Around) (outer : List Env) (s : Shared) (H : Hp) (vs : List V) (Q : VK) (E : XK), Room k (A.deeper (envF F f s.heap.objs.size)) → sp vs H Q E →
      ∃ a vs' ta t, vs = .ref a :: vs' ∧ H a = some (exo a C none) ∧ PA (ncx CX P w K mg base N F f A outer s H E) [arg] ta ∧ PSs (ncx CX P w K mg base N F f A outer s H E) rest t ∧
        ta (startF N vs [none]) H (fun ws H1 => ws.length ≤ 1000 ∧ H1 a = some (exo a C none) ∧ t { nx := fun _ H' => Q .non H', rt := Q } (startF N vs [none]) H1)) :
    FnOk P w K mg base CX (k + 1) f (F.fd doc pm ctv) ps sp := by
  refine ⟨len, fun A outer s H args us vs Q E hr e0 hb r hsp => ?_⟩
  have KX : K.In s.heap := e0.mod.kin.keeps fun b o e => (e0.bs b o e).1
  have hl := len _ _ _ _ hsp
  have lim : s.heap.NoLimit := e0.mod.nolimit.keeps fun b o e => (e0.bs b o e).1
  refine codeAny_call_function hr.depth (KX _ _ lk) rfl S.co S.gen rfl (PySem.W.codeRec_of KX hcd) (hb _ _ _ _ ?_)
  refine wpAny_newFunctionEnv S.nocell (fun ⟨n, _⟩ hy => S.par n (List.of_mem_zip hy).1) (fun h₁ hns hsb => ⟨lim.fresh _ hsb, ?_⟩) S.kind
  show codeAny _ _ (.func F.body (envF F f s.heap.objs.size)) _ _
  refine PySem.ks_codeAny_funcAt ?_
  have kp : ∀ b o, s.heap.get? b = some o → h₁.get? b = some o := fun b o e => hsb.extBut b o (Nat.ne_of_lt (Heap.lt_size e)) (Heap.get?_push_of_some _ e)
  obtain ⟨a, vs', ta, t, hvs, ha, hta, ht, hq⟩ := hbody A outer s H vs Q E (hr.deeper _) hsp
  obtain ⟨cl, cld, csl, hcell⟩ := T.cell
  have hbc : base.get? cc = some ⟨cl, cld, .cell (some (.ref C)), csl⟩ := e0.mod.kin _ _ hcell
  have hlook : ∀ {y : Str} {c : Addr}, F.cl.lookup y = some c → y = "__class__" ∧ c = cc := fun {y c} e => by
    rw [hcl] at e
    by_cases hy : y = "__class__"
    · subst hy
      rw [show List.lookup ("__class__" : Str) [(("__class__" : Str), cc)] = some cc by simp [List.lookup]] at e
      exact ⟨rfl, (Option.some.inj e).symm⟩
    · have hb : (y == ("__class__" : Str)) = false := by simpa using hy
      rw [show List.lookup y [(("__class__" : Str), cc)] = none by simp [List.lookup, hb]] at e
      cases e
  have hlk : F.cl.lookup ("__class__" : Str) = some cc := by rw [hcl]; simp [List.lookup]
  have CA : CellsAt F.cl ["__class__"] [none] s.heap H := {
    len := rfl
    all := fun y c e => by
      obtain ⟨_, rfl⟩ := hlook e
      exact ⟨(e0.bs _ _ hbc).2, _, ⟨_, (e0.bs _ _ hbc).1, rfl⟩⟩
    inj := fun x y c e1 e2 => (hlook e1).1.trans (hlook e2).1.symm
    has := fun i y e => by
      match i, e with
      | 0, e =>
        have ey : ("__class__" : Str) = y := Option.some.inj e
        subst ey
        exact ⟨cc, hlk, fun v hv => by simp at hv⟩ }
  have I : Inv (ncx CX P w K mg base N F f A outer s H E) [] (startF N vs [none]) H { s with heap := h₁, toks := s.toks + (ps.zip us).length } := inv_startN S hr.hd e0 hl r CA hns kp
  have kI : K.In h₁ := KX.keeps kp
  have hN0 : N[0]? = some p := by
    have q := S.pre
    rw [hps] at q
    have z : (N.take ((p :: ps').length + 1))[0]? = some p := by
      have z := congrArg (fun l : List Str => l[0]?) q
      exact z
    rw [List.getElem?_take_of_lt (by simp)] at z
    exact z
  have hs0 : (startF N vs [none])[0]? = some (some (.ref a)) := by rw [hvs]; rfl
  have hploc : F.scope.names.lookup p = some .local := S.par p (by rw [hps]; exact List.mem_cons_self)
  obtain ⟨m, hnm, hlm⟩ := id I.loc
  obtain ⟨u0, ru0, hu0⟩ := hlm 0 p (.ref a) hN0 hs0 (.inl hploc)
  have eu0 : u0 = Value.ref a := ru0
  subst eu0
  have hself : m p = some (.ref a) := by
    rcases hu0 with ⟨_, z⟩ | ⟨z, _⟩
    · exact z
    · have z' : F.scope.names.lookup p = some .cell ∨ F.scope.names.lookup p = some .free := z
      rw [hploc] at z'
      rcases z' with z' | z' <;> cases z'
  obtain ⟨occ, cdd, cvs, csl2, file, tf, hcode, hvs2, hfile⟩ := T.code
  obtain ⟨cdD, hcdD⟩ := T.cd
  have hD : ∃ oD, h₁.get? C = some oD ∧ oD.data = .cls cdD := by
    have hD := hcdD
    unfold PySem.W.clsIn at hD
    split at hD
    · rename_i c d cd' sl ho
      cases hD
      exact ⟨_, kI _ _ ho, rfl⟩
    · cases hD
  obtain ⟨oD, hD1, hD2⟩ := hD
  obtain ⟨nm, q, N', bs, bm, sn, sub, ab, col, dd, k0, k1, k2, k3, k5, hC, hbm⟩ := T.T.cls
  obtain ⟨ar, har1, har2⟩ := hpar
  have hkc : F.scope.names.lookup ("__class__" : Str) = some .free := S.frk _ (by simp)
  obtain ⟨mb, hb1, hb2⟩ := I.mod.blt
  rw [hbd]
  obtain ⟨pl, he⟩ := hev s.heap.objs.size
  refine PySem.ks_wpAt_execs_cons (PySem.ks_wpAt_Expr_any (PySem.ks_wpAt_MethodCall (pl := pl) (PySem.ks_wpAt_super_base (fd := F.fd doc pm ctv) hsu hkc (by decide) rfl (kI _ _ lk) rfl har1 rfl (kI _ _ hcode) rfl hvs2 hfile T.top ?_) he) I.quiet (hsw _))
  -- the names
  refine PySem.W.ks_loadName_global S.kind hsu (Calls.loadGlobal_builtin (by exact I.mod.glob.keeps I.bk) T.zs (by exact hb1.keeps I.bk) ((hb2 _ (by decide)).trans (by decide +kernel)) ⟨rfl, ?_⟩)
  refine wpAny_loadName_free S.kind hkc hlk ⟨_, kI _ _ hcell, rfl⟩ ?_
  refine wpAny_loadName_local S.kind (by rw [har2]; exact hploc) hnm (by rw [har2]; exact hself) ?_
  refine PySem.ks_wpAny_isType_cls hD1 hD2 ⟨rfl, ?_⟩
  obtain ⟨t1, hox⟩ := exo_at I.hok ha
  refine PySem.ks_wpAny_call_super hD1 hD2 hox rfl (fun c e => by cases e) (PySem.W.looks_mroIn kI T.sub) (fun h' hso k' => ?_)
  have I2 : Inv (ncx CX P w K mg base N F f A outer s H E) [] (startF N vs [none]) H { s with heap := h', toks := s.toks + (ps.zip us).length } := I.kept (t' := s.toks + (ps.zip us).length) k'
  have kI2 : K.In h' := kI.keeps k'
  have hox2 : h'.get? a = some ({ cls := .ref C, dict := none, data := .fields #[.ref t1, .none, .none, .none, .bool false, .none] } : Obj) := k' _ _ hox
  have IA : PySem.W.InstAt h' a ({ cls := .ref C, dict := none, data := .fields #[.ref t1, .none, .none, .none, .bool false, .none] } : Obj) C none := ⟨hox2, rfl, rfl, trivial⟩
  have hal : PySem.W.alongIn K "__init__" ((cdD.mro.dropWhile (· != .ref C)).drop 1) = some (some (.builtin "ValueError.__init__")) := by
    have z := T.sup
    unfold PySem.W.ks_superIn at z
    rw [hcdD] at z
    exact z
  refine PySem.W.kxs_getMethod PySem.W.kxs_ValueError hso (PySem.W.looks_opaque kI2 T.any) (l₀ := cdD.mro) (fun A Q E s k q => wpAny_bind ((PySem.W.looks_clsIn kI2 hcdD) A _ E s k (wpAny_pure q))) rfl kI2 hal (IA.type.andThen (PySem.W.looks_subIn kI2 T.subV)) (PySem.W.ks_ne kI2 IA hcdD) (by decide) ?_
  -- the bound __init__ at u
  have ku : ∀ b o, h'.get? b = some o → (h'.push (PySem.W.kxs_mw "ValueError.__init__" a)).get? b = some o := fun b o e => Heap.get?_push_of_some _ e
  have I3 : Inv (ncx CX P w K mg base N F f A outer s H E) [] (startF N vs [none]) H { s with heap := h'.push (PySem.W.kxs_mw "ValueError.__init__" a), toks := s.toks + (ps.zip us).length + 1 } := I2.kept (t' := s.toks + (ps.zip us).length + 1) ku
  have hu : (h'.push (PySem.W.kxs_mw "ValueError.__init__" a)).get? h'.objs.size = some (PySem.W.kxs_mw "ValueError.__init__" a) := Heap.get?_push_at rfl rfl
  have I4 : Inv (ncx CX P w K mg base N F f A outer s H E) [(h'.objs.size, PySem.W.kxs_mw "ValueError.__init__" a)] (startF N vs [none]) H { s with heap := h'.push (PySem.W.kxs_mw "ValueError.__init__" a), toks := s.toks + (ps.zip us).length + 1 } := I3.pins_of fun p hp => by
    have hp1 := List.mem_singleton.mp hp
    subst hp1
    exact ⟨hu, I2.hok.fresh (Nat.le_refl _), fun z => absurd (z ▸ I2.lt) (Nat.lt_irrefl _), I2.nofs (Nat.le_refl _), fun v z => by cases z⟩
  refine callW (i := "ValueError.__init__") (x := a) (hst _) ?_
  refine thn (hta.run p3 _ _ _ H _ I4 hq) fun ws' s5 ⟨ws, H5, I5, r5, hlen, ha5, ht5⟩ => ?_
  have hu5 : s5.heap.get? h'.objs.size = some (PySem.W.kxs_mw "ValueError.__init__" a) := (I5.pin _ (List.mem_append_right _ (List.mem_singleton.mpr rfl))).1
  refine ⟨hu5, ?_⟩
  obtain ⟨t5, hox5⟩ := exo_at I5.hok ha5
  have hws : ws'.length ≤ sizeLine := by
    rw [← Paired.length r5, sizeLine_eq]
    omega
  have I6 : Inv (ncx CX P w K mg base N F f A outer s H E) [] (startF N vs [none]) H5 s5 := I5.pins_of fun p hp => absurd hp (by simp)
  obtain ⟨h5, g5, d5, k5', os5⟩ := s5
  have hC5 := I5.kIn _ _ hC
  show wpAny _ _ (call (.ref h'.objs.size) ws') _ _ _
  refine wpAny_call (codeAny_of_tree ?_)
  show wpAny _ _ (callAny (.ref h'.objs.size) ⟨ws', []⟩) _ _ _
  simp only [callAny]
  refine wpAny_bind (wpAny_load hu5 ?_)
  simp only [PySem.W.kxs_mw, show (Value.type "method-wrapper" == Value.type "method" || Value.type "method-wrapper" == Value.type "builtin_function_or_method" || Value.type "method-wrapper" == Value.type "method-wrapper") = true by decide, if_true]
  refine PySem.W.KFB.if_so (by decide) ?_
  refine wpAny_bind (PySem.W.check_bound_init PySem.F.excBase_ValueError.toExcCallFacts hC5 hox5 rfl ?_)
  refine wpAny_bind (wpAny_pure (wpAny_pure ?_))
  refine ⟨plainId_quiet PySem.F.excBase_ValueError.init.plain _, codeAny_builtin PySem.F.excBase_ValueError.initEntry ?_⟩
  refine PySem.W.exc_init_tree (cls := .ref C) (t0 := t5) (dv := none) (c2 := .none) (c3 := .none) (b4 := .bool false) hox5 hws (fun h6 k6 e6 _ => ?_)
  have J := I6.write (t' := k5') (x := a) (e := a) (o := exo a C none) (by rw [ha5]; exact True.intro) (.inl rfl) k6 ⟨_, e6⟩ (exo_ok e6)
  have eu : upd H5 a (exo a C none) = H5 := by
    funext b
    by_cases hb : b = a
    · rw [hb, upd_same, ha5]
    · rw [upd_ne hb]
  rw [eu] at J
  refine PySem.wpAt_of_wpAny (wpAny_mono (ht.run [] _ (startF N vs [none]) H5 _ J ht5) (fun fl s' hs => ?_) fun e s' hs => hs)
  have fin : ∀ {σ' : L2.St} {H' : Hp} {v : V} {u : Value}, Inv (ncx CX P w K mg base N F f A outer s H E) [] σ' H' s' → L2.RelV v u → Q v H' → CE outer P w H s Q u s' :=
    fun {σ' H' v u} J rv q => ⟨v, H', J.os, J.bare, J.base, J.hok, rv, q⟩
  cases fl with
  | ret u =>
    obtain ⟨v, σ', H', J, rv, q⟩ := hs
    exact fin J rv q
  | next =>
    obtain ⟨σ', H', J, q⟩ := hs
    exact fin (v := V.non) (u := Value.none) J rfl q
  | brk =>
    obtain ⟨_, _, _, q⟩ := hs
    exact False.elim q
  | cont =>
    obtain ⟨_, _, _, q⟩ := hs
    exact False.elim q
end
/-! ### an exception without fields, made -/
section
variable {X : Cx}
theorem mk_endN {pins : List (Addr × Obj)} {σ : L2.St} {H1 H2 : Hp} {Q : XK} {hp hp2 h2 : Heap} {g1 g2 : Array GenState} {d1 d2 : Drawn} {t1 t2 : Nat} {os1 os2 : OsState} {a C : Addr} (T : Raises X (.ref C)) (I1 : Inv X pins σ H1 ⟨hp, g1, d1, t1, os1⟩)
    (ha : hp.objs.size ≤ a) (k : ∀ b o, hp.get? b = some o → hp2.get? b = some o) (un : Un (frs X.stack) [] (upd H1 a (exo a C none)) H2 hp2 h2) (hok : HOk X.prog X.w H2 h2) (ho : os2 = os1) (hb : AllBare g2)
    (ea : H2 a = some (exo a C none)) (q : Q (.ref C) none (del H2 a)) : MkP X pins σ Q (.ref a) ⟨h2, g2, d2, t2, os2⟩ := by
  obtain ⟨t0, hoe⟩ := exo_at hok ea
  have hn : H1 a = none := I1.hok.fresh ha
  obtain ⟨G, g1', g2'⟩ := restrict h2 fun b => decide (b ≠ a)
  have gk : ∀ b, b ≠ a → G.get? b = h2.get? b := fun b hb => g1' b (decide_eq_true hb)
  have ge : G.get? a = none := g2' a (by simp)
  have nha : ∀ {b : Addr} {o : Obj}, hp.get? b = some o → b ≠ a := fun {b o} z => Nat.ne_of_lt (Nat.lt_of_lt_of_le (Heap.lt_size z) ha)
  have up : ∀ {b : Addr}, b ≠ a → H1 b = none → upd H1 a (exo a C none) b = none := fun {b} hb n => by rw [upd_ne hb]; exact n
  have U : Un (frs X.stack) [] H1 (del H2 a) hp G := {
    keep := fun b o z n hf hx => by
      rw [gk b (nha z)]
      exact un.keep b o (k b o z) (up (nha z) n) hf hx
    slot := fun b o z n hf hx => by
      rw [gk b (nha z)]
      exact un.slot b o (k b o z) (up (nha z) n) hf hx
    free := fun b o z n hx => by
      rw [del_ne (nha z)]
      exact un.free b o (k b o z) (up (nha z) n) hx
    there := fun b o z hx => by
      rw [gk b (nha z)]
      exact un.there b o (k b o z) hx
    tups := fun b xs z => by
      rw [del_ne (ne_of_none z hn)]
      exact un.tups b xs (by rw [upd_ne (ne_of_none z hn)]; exact z)
    frzs := fun b o v z => by
      rw [del_ne (ne_of_none z hn)]
      exact un.frzs b o v (by rw [upd_ne (ne_of_none z hn)]; exact z)
    tbls := fun b ps z => by
      rw [del_ne (ne_of_none z hn)]
      exact un.tbls b ps (by rw [upd_ne (ne_of_none z hn)]; exact z) }
  have hok3 : HOk X.prog X.w (del H2 a) G := fun b o z => by
    have hba : b ≠ a := fun e => by
      rw [e, del_same] at z
      cases z
    rw [del_ne hba] at z
    have noa : ∀ {c : Addr}, H2 c = some (.own b) → c ≠ a := fun {c} hc => at_ne ea hc exo_own
    exact (hok b o z).stay (fun c v hc y => by
        have hca : c ≠ a := by
          rcases hc with hc | hc
          · rw [hc]
            exact hba
          · exact noa hc
        rw [gk c hca]
        exact y)
      (fun c hc => by rw [del_ne (noa hc)]; exact hc) (fun c xs hc => by rw [del_ne (at_ne ea hc exo_tup)]; exact hc)
  have J : Inv X pins σ (del H2 a) ⟨G, g2, d2, t2, os2⟩ := I1.call' (ch := []) ho U hok3 hb (fun b z => absurd z (by simp))
  refine ⟨a, _, _, ⟨G, g2, d2, t2, os2⟩, _, .ref C, none, rfl, J, fun b o z => ?_, ge, hoe, ⟨rfl, rfl⟩, rfl, rfl, del_same, rfl, hb, T, q⟩
  by_cases hba : b = a
  · rw [hba, ge] at z
    cases z
  · exact (gk b hba).symm.trans z
/-- C(), C's own __init__ keeping sp and making no field -/
def tMkN (C : Addr) (sp : Sp) : L2.St → Hp → XK → Prop := fun _ H Q => ∀ a, H a = none → sp [.ref a] (upd H a (exo a C none)) (fun v H2 => v = .non ∧ H2 a = some (exo a C none) ∧ Q (.ref C) none (del H2 a)) (fun _ _ _ => False)
theorem pmk_oexN {CX : CXT} {x : Str} {C fI : Addr} {k : Nat} {fd : FuncData} {ps : List Str} {sp : Sp} {p pos : Pos} (T : OexC X.K C) (iC : PySem.W.findIn X.K (.ref C) "__init__" = some (some (.ref fI))) (tI : PySem.W.typeIn X.K (.ref fI) = some (.type "function"))
    (F1 : FnOk X.prog X.w X.K X.mg X.base CX k fI fd ps sp) (hr : Room (k + 1) X.A) (hb : Binds X.K fd ps []) (hx : Passes CX X (fun _ _ _ => False)) (hg : Gl X x) (hm : X.mg x = some (.ref C))
    (hdb : (x == ("__debug__" : Str)) = false := by decide) : PMk X (.Call (.Name x p) [] [] pos) (tMkN C sp) := by
  intro pins s σ H1 Q I1 q1
  obtain ⟨nm, q, N, bs, bm, sn, sub, ab, col, dd, k0, k1, k2, k3, k5, hC, hbm⟩ := T.cls
  refine wpAny_Call_Name_kw (ld_glob I1 hg hm ?_ hdb)
  refine PySem.W.callWith_K0 I1.kIn T.kC ?_
  show wpAny _ _ (call (.ref C) []) _ _ _
  obtain ⟨hp, g, dr, tk, os⟩ := s
  have hsz : hp.objs.size ≤ hp.objs.size + 1 := Nat.le_succ _
  have hn : H1 (hp.objs.size + 1) = none := I1.hok.fresh hsz
  have hq := q1 (hp.objs.size + 1) hn
  have kk : ∀ b o, hp.get? b = some o → ((hp.push (PySem.W.kdv_tup [])).push (PySem.HandSPX.excO C hp.objs.size)).get? b = some o := fun b o e => Heap.get?_push_of_some _ (Heap.get?_push_of_some _ e)
  have hget : ((hp.push (PySem.W.kdv_tup [])).push (PySem.HandSPX.excO C hp.objs.size)).get? (hp.objs.size + 1) = some (PySem.HandSPX.excO C hp.objs.size) := by heap_get
  have I2 : Inv X pins σ (upd H1 (hp.objs.size + 1) (exo (hp.objs.size + 1) C none)) ⟨(hp.push (PySem.W.kdv_tup [])).push (PySem.HandSPX.excO C hp.objs.size), g, dr, tk, os⟩ :=
    I1.laid (t' := tk) (a := hp.objs.size + 1) (o := exo (hp.objs.size + 1) C none) (h' := (hp.push (PySem.W.kdv_tup [])).push (PySem.HandSPX.excO C hp.objs.size)) kk hsz (exo_ok hget)
  have r2 : Vals [V.ref (hp.objs.size + 1)] [Value.ref (hp.objs.size + 1)] := .cons rfl .nil
  have hl : ([Value.ref (hp.objs.size + 1)] ++ []).length = ps.length := by
    have e := r2.length
    rw [F1.len _ _ _ _ hq] at e
    exact e.symm
  refine wpAny_call (PySem.HandSPX.call_own PySem.F.excBase_ValueError (fun Y => PySem.HandSPX.refsVE_contains Y bm hbm) (I1.kIn _ _ hC) (PySem.W.looks_findIn I1.kIn iC) (fun self => PySem.W.bind_fn I1.kIn self tI) (Nat.zero_le _)
    (codeAny_mono (F1.run _ X.stack _ _ ⟨[Value.ref (hp.objs.size + 1)], []⟩ [Value.ref (hp.objs.size + 1)] _ _ (fun _ _ _ => False) (hr.make C [] []) (I2.env0.make C [] []) (hb _ [Value.ref (hp.objs.size + 1)] I2.kIn hl) r2 hq) fun r s' hq' => ?_))
  cases r with
  | error er => exact hx pins σ _ _ er s' I2 hq'
  | ok fl =>
    cases fl with
    | ret u =>
      obtain ⟨v, H2, os2, bare2, un2, hok2, rv, ev, ea, q2⟩ := hq'
      subst ev
      obtain ⟨h2, g2, d2, t2, os'⟩ := s'
      exact ⟨rv, mk_endN (raises_own T.exC T.tyC) I1 hsz kk un2 hok2 os2 bare2 ea q2⟩
    | next => exact False.elim hq'
    | brk => exact False.elim hq'
    | cont => exact False.elim hq'
end
/-! ### a call of a local name that holds a def, which may raise -/
section
variable {X : Cx} {CX : CXT} {k i : Nat} {f : Addr} {fd : FuncData} {ps : List Str} {sp : Sp} {E : L2.St → XK} {x : Str} {p pos : Pos} {e : Expr} {es : List Expr} {t : TA}
def tCallLS (i : Nat) (f : Addr) (sp : Sp) (E : L2.St → XK) (t : TA) : TE := fun σ H Q => σ[i]? = some (some (.ref f)) ∧ t σ H fun vs H1 => sp vs H1 Q (E σ)
theorem pe_callLS (F : FnOk X.prog X.w X.K X.mg X.base CX k f fd ps sp) (hr : Room k X.A) (hN : X.N[i]? = some x) (hv : Vis X.env.scope x) (hk : PySem.W.keepIn X.K (.ref f) = true) (hb : Binds X.K fd ps []) (hx : ∀ σ, PassesAt CX X σ (E σ)) (ha : PA X (e :: es) t)
    (hdb : (x == ("__debug__" : Str)) = false := by decide) (hcd : (x == ("__classdict__" : Str)) = false := by decide)
    (he : starEach (e :: es) X.env = (false, eval e X.env) :: starEach es X.env := by rfl) (hpl : (backTo pos (starEach es X.env)).any (·.1) = false := by rfl) : PE X (.Call (.Name x p) (e :: es) [] pos) (tCallLS i f sp E t) := by
  refine ⟨fun pins s σ H Q I h => ?_⟩
  obtain ⟨hs, ht⟩ := h
  refine wpAny_Call_Name_kw (thn ((pe_var (pos := p) hN hv hdb hcd).run pins s σ H (fun v H1 => v = .ref f ∧ H1 = H) I ⟨.ref f, hs, rfl, rfl⟩) fun u s1 ⟨v, H1, I1, r1, q1⟩ => ?_)
  obtain ⟨rfl, rfl⟩ := q1
  cases r1
  refine PySem.W.callWith_K (h₀ := X.base) I.ok.mod.kin hk (thn (ha.run pos pins s1 σ _ _ I1 ht) fun us s2 ⟨vs, H2, I2, r, q⟩ => ⟨I2.kIn, ?_⟩) he hpl
  exact run_fnS F hr hb (hx σ) I2 r q
end
/-! ### isinstance of a caught error of an own class without fields -/
def rIsX (K : PySem.W.Frag) (a : Addr) (cls : Value) (d : Option Addr) : List V → Hp → VK → Prop := fun xs H Q => ∃ (D : Addr) (c : V) (cv : Value) (b : Bool), cls = .ref D ∧ d = none ∧ ExcC K D ∧ xs = [.ref a, c] ∧ (∀ u, L2.RelV c u → u = cv) ∧ PySem.W.kitOne K (.ref D) cv = some b ∧ Q (.bl b) H
theorem call_isX {X : Cx} {a : Addr} {oe : Obj} {cls : Value} {d : Option Addr} {pn : List (Addr × Obj)} (hz : Zc cls d oe) (hf : ∃ vs, oe.data = .fields vs) : CallR (X.suite a ((a, oe) :: pn)) (.builtin "isinstance") (rIsX X.K a cls d) := by
  intro pins s σ H xs us Q I r h
  obtain ⟨D, c, cv, b, rfl, rfl, C, rfl, hc, e, q⟩ := h
  exact call_isE C hz hf pins s σ H [.ref a, c] us Q I r ⟨c, cv, b, rfl, hc, e, q⟩
/-! ### what a law's text says of an own exception -/
/-- ExcT C f c cc: the class at C over SamphireError .. over ValueError, with its own __init__ at f -/
structure ExcT (P : Program) (K : PySem.W.Frag) (mg : Str → Option Value) (name : Str) (C f c cc : Addr) : Prop where
  S : SupC P K mg C f c cc
  g : mg name = some (.ref C)
  iC : PySem.W.findIn K (.ref C) "__init__" = some (some (.ref f))
  tI : PySem.W.typeIn K (.ref f) = some (.type "function")
  is : ExcC K C
  te : PySem.W.exmOne K (.ref C) (.ref C) = some true
theorem ExcT.xf {P : Program} {K : PySem.W.Frag} {mg : Str → Option Value} {name : Str} {C f c cc : Addr} (T : ExcT P K mg name C f c cc) : XfC K C := ⟨T.is.hg, T.is.hk, T.is.hs, T.is.hd⟩
/-- what k_is finds, put together -/
theorem excT_mk {P : Program} {K : PySem.W.Frag} {mg : Str → Option Value} {name : Str} {C f c cc : Addr} {nm q : Str} {N : Addr} {bs bm : List Value} {sn : List Str} {sub : List Value} {ab : Bool} {col : Option Bool} {dd : Option Addr} {m0 m1 m2 m3 m5 : Option Value}
    {occ : Value} {cdd : Option Addr} {cvs : List Value} {csl : Array (Option Value)} {ccl : Value} {ccd : Option Addr} {ccs : Array (Option Value)}
    (xL : K.lookup C = some (excClassObj nm q C N bs bm true sn sub ab col dd m0 m1 m2 m3 m5 "ValueError.__new__")) (rv : PySem.HandSPX.refsVE bm = true)
    (sa : PySem.W.findIn K (.ref C) "__setattr__" = some (some (.builtin "object.__setattr__"))) (sB : PySem.W.subIn K (.ref C) (.type "BaseException") = some true) (tC : PySem.W.typeIn K (.ref C) = some (.type "type")) (kC : PySem.W.keepIn K (.ref C) = true)
    (code : K.lookup c = some ⟨occ, cdd, .fields cvs.toArray, csl⟩) (hfile : (match cvs with | _ :: _ :: .str file _ :: _ => (P.main.file : Str) == file | _ => false) = true)
    (cell : K.lookup cc = some ⟨ccl, ccd, .cell (some (.ref C)), ccs⟩) (mro : PySem.W.mroIn K C (.ref C) = some true) (sV : PySem.W.subIn K (.ref C) (.type "ValueError") = some true) (zs : mg "super" = none)
    (any : PySem.W.nsIn K PySem.cStatics "thirdparty.any" = some none) (sup : PySem.W.ks_superIn K C C "__init__" = some (some (.builtin "ValueError.__init__"))) (top : (P.main.scope.names.lookup ("super" : Str)).isSome = false)
    (g : mg name = some (.ref C)) (iC : PySem.W.findIn K (.ref C) "__init__" = some (some (.ref f))) (tI : PySem.W.typeIn K (.ref f) = some (.type "function")) (is : ExcC K C) (isc : PySem.W.isClsIn K C = true) (sC : PySem.W.subIn K (.ref C) (.ref C) = some true) : ExcT P K mg name C f c cc where
  S := {
    T := ⟨⟨nm, q, N, bs, bm, sn, sub, ab, col, dd, m0, m1, m2, m3, m5, xL, rv⟩, sa, sB, tC, kC⟩
    cd := ⟨_, by unfold PySem.W.clsIn; rw [xL] <;> rfl⟩
    code := by
      match cvs, code, hfile with
      | a :: b :: .str file tf :: r, code, hfile => exact ⟨_, _, _, _, file, tf, code, rfl, hfile⟩
    cell := ⟨_, _, _, cell⟩
    sub := mro
    subV := sV
    zs := zs
    any := any
    sup := sup
    top := top }
  g := g
  iC := iC
  tI := tI
  is := is
  te := PySem.W.exm_ref sB is.hd tC sC
end Sup

/-! ### list(reversed(a list)) -/
namespace RL
open PySem PySem.Spec PyProof.Rows RT L2
section
variable {prog : Program} {w : World} {A : Around} {E : Value → Shared → Prop} {s : Shared}
theorem extend_rev {R : Result → Shared → Prop} {S it l : Addr} {items : Array Value} {res : Value} {c₀ : Nat} (hh : A.handled = none) (hit : s.heap.IsRevIter it l ((items.size : Int) - 1)) (hl : s.heap.IsList l items) (hne : l ≠ it) (hSi : S ≠ it) (hSl : S ≠ l) (hn : items.size ≤ sizeLine)
    (hS : s.heap.get? S = some { cls := .type "list", data := .seq #[] c₀ })
    (hR : ∀ s' acc' c', Moved (S :: [it]) (fun a b => b = a) s s' → s'.heap.get? S = some { cls := .type "list", dict := none, data := .seq acc' c', slots := #[] } → ItemsOf (fun i v => items[items.size - 1 - i]? = some v) acc' items.size → R (.ok (.ret res)) s') :
    wpAny (model prog w) A.in1 (Builtin.List.listExtendWith (.ref S) (.ref it) res)
      (fun fin s' => match fin with | .done f => R (.ok f) s' | .again c' => c'.quiet = true ∧ codeAny (model prog w) A c' R s') (fun e s' => R (.error e) s') s := by
  have W := (Walks.listRev (prog := prog) (w := w) (A := A.in1) hh it l hne items).toS
  have hSf : S ∉ [it, l] := by simp only [List.mem_cons, List.not_mem_nil, or_false, not_or]; exact ⟨hSi, hSl⟩
  have hT : s.TypeIs (.ref it) "list_reverseiterator" := Heap.IsRevIter.typeIs hit
  have h1 : Builtin.List.listSameRef (.ref S) (.ref it) = false := by simp [Builtin.List.listSameRef, hSi]
  unfold Builtin.List.listExtendWith
  refine wpAny_bind (wpAny_typeOf hT ?_)
  rw [if_neg (by rw [h1]; decide)]
  refine wpAny_bind (wpAny_pyIter_revIter hit ?_)
  refine wpAny_bind (wpAny_holding ?_)
  unfold Builtin.List.listLengthHint
  refine wpAny_bind (wpAny_specialOf hT nolen_lri ?_)
  show wpAny _ A.in1 (specialOf (Value.ref it) (Str.ofString "__length_hint__") >>= _) _ _ _
  refine wpAny_bind (wpAny_specialOf hT hint_lri ?_)
  generalize hid : ("list_reverseiterator.__length_hint__" : String) = id0
  wp_delta
  rw [show splitId id0 = some ("list_reverseiterator", "__length_hint__") from by subst hid; decide +kernel]
  subst hid
  refine wpAny_bind (wpAny_isInstance (b := true) hT (by rw [isSubtype_type]; kernel_rfl) ?_)
  refine wpAny_pure ?_
  rw [if_neg (by decide)]
  have e0 : ((items.size : Nat) : Int) - 1 - ((0 : Nat) : Int) = (items.size : Int) - 1 := by omega
  refine wpAny_pure ⟨plainId_quiet F.plain_extend_loop _, codeAny_extend_loopS W hn _ hSf _ items.size 0 _ _ _ rfl (Nat.zero_le _) ⟨Nat.zero_le _, by rw [e0]; exact hit, hl⟩ hS (ItemsOf.nil _) fun s' acc' c' hm hS' hacc => ?_⟩
  exact hR s' acc' c' hm hS' hacc
theorem init_rev {R : Result → Shared → Prop} {S it l : Addr} {items : Array Value} (hh : A.handled = none) (hit : s.heap.IsRevIter it l ((items.size : Int) - 1)) (hl : s.heap.IsList l items) (hne : l ≠ it) (hSi : S ≠ it) (hSl : S ≠ l) (hn : items.size ≤ sizeLine)
    (hS : s.heap.get? S = some { cls := .type "list", data := .seq #[] })
    (hR : ∀ (h' : Heap) (tk : Nat) (acc : Array Value) (c' : Nat), (∀ b o, b ≠ S → b ≠ it → s.heap.get? b = some o → h'.get? b = some o) → h'.get? S = some { cls := .type "list", dict := none, data := .seq acc c', slots := #[] } → ItemsOf (fun i v => items[items.size - 1 - i]? = some v) acc items.size → R (.ok (.ret .none)) { s with heap := h', toks := tk }) :
    wpAny (model prog w) A.in1 (Builtin.«list.__init__» ⟨[.ref S, .ref it], []⟩)
      (fun fin s' => match fin with | .done f => R (.ok f) s' | .again c' => c'.quiet = true ∧ codeAny (model prog w) A c' R s') (fun e s' => R (.error e) s') s := by
  show wpAny _ A.in1 (do let old ← Builtin.List.listItems (.ref S); Builtin.List.listUpdate (.ref S) (fun _ => #[]); letGo old.toList.reverse; Builtin.List.listExtendWith (.ref S) (.ref it) .none) _ _ s
  refine wpAny_bind ?_
  unfold Builtin.List.listItems
  refine wpAny_bind (wpAny_seqItems hS rfl (wpAny_pure ?_))
  show wpAny _ A.in1 (updateSeq S (fun _ => #[]) >>= fun _ => letGo (#[] : Array Value).toList.reverse >>= fun _ => Builtin.List.listExtendWith (.ref S) (.ref it) .none) _ _ s
  refine wpAny_bind (wpAny_updateSeq hS rfl ?_)
  have hS₂ := Heap.get?_update_self (Obj.mapSeq (fun _ => (#[] : Array Value))) hS rfl
  have oth : ∀ b o, b ≠ S → s.heap.get? b = some o → (s.heap.update S (Obj.mapSeq (fun _ => (#[] : Array Value)))).get? b = some o :=
    fun b o hb e => (Heap.get?_update_other _ _ (Ne.symm hb)).trans e
  refine wpAny_bind (wpAny_letGo ?_)
  refine extend_rev (s := { s with heap := s.heap.update S (Obj.mapSeq (fun _ => (#[] : Array Value))) }) hh (hit.at fun o e => oth it o hSi.symm e) (by obtain ⟨o, ho, x⟩ := hl; exact ⟨o, oth l o hSl.symm ho, x⟩) hne hSi hSl hn hS₂ fun s' acc' c' hm hS' hacc => ?_
  rw [Moved.eq_with hm]
  exact hR s'.heap s'.toks acc' c' (fun b o hb hb2 e => hm.heap b o (by simp [hb, hb2]) (oth b o hb e)) hS' hacc
theorem call_list_rev {it l : Addr} {items : Array Value} {Q : Value → Shared → Prop} (hh : A.handled = none) (hit : s.heap.IsRevIter it l ((items.size : Int) - 1)) (hl : s.heap.IsList l items) (hne : l ≠ it) (hn : items.size ≤ sizeLine)
    (hQ : ∀ (h' : Heap) (tk : Nat) (acc : Array Value) (c' : Nat), (∀ b o, b ≠ it → s.heap.get? b = some o → h'.get? b = some o) → h'.get? s.heap.objs.size = some { cls := .type "list", dict := none, data := .seq acc c', slots := #[] } → ItemsOf (fun i v => items[items.size - 1 - i]? = some v) acc items.size → Q (.ref s.heap.objs.size) { s with heap := h', toks := tk }) :
    wpAny (model prog w) A (call (.type "list") [.ref it]) Q E s := by
  refine callType_codes (Q₁ := fun obj s₁ => obj = .ref s.heap.objs.size ∧ s₁ = { s with heap := s.heap.push { cls := .type "list", data := .seq #[] } }) F.called_list (F.typeCall_list_1 _) F.entry_list_init
    (code_list_new _ ⟨rfl, rfl⟩) fun obj s₁ h₁ => ?_
  obtain ⟨rfl, rfl⟩ := h₁
  have hS : (s.heap.push { cls := .type "list", data := .seq #[] }).get? s.heap.objs.size = some { cls := .type "list", data := .seq #[] } := Heap.get?_push_size _ rfl
  obtain ⟨oi, hoi, _⟩ := id hit
  obtain ⟨ol, hol, _⟩ := id hl
  refine ⟨⟨_, hS, rfl⟩, F.args_list_init_2 _ _, init_rev (A := A.in1) (s := { s with heap := s.heap.push { cls := .type "list", data := .seq #[] } }) hh (hit.at fun o e => Heap.get?_push_of_some _ e) (hl.push _) hne (Nat.ne_of_gt (Heap.lt_size hoi)) (Nat.ne_of_gt (Heap.lt_size hol)) hn hS fun h' tk acc c' hk hS' hacc => ?_⟩
  exact ⟨rfl, hQ h' tk acc c' (fun b o hb e => hk b o (Nat.ne_of_lt (Heap.lt_size e)) hb (Heap.get?_push_of_some _ e)) hS' hacc⟩
end
section
variable {X : Cx}
/-- list(reversed(xs)): a new list -/
def tListRev (K : PySem.W.Frag) (te : TE) : TE := fun σ H Q => te σ H fun x H1 => ∃ a xs, x = .ref a ∧ SqL K H1 a xs ∧ ∀ p, H1 p = none → Q (.ref p) (upd H1 p (.lst xs.reverse))
theorem pe_listRev {e : Expr} {te : TE} {p p2 pos pos2 : Pos} (hc : X.calm = true) (hg : Gl X "list") (hm : X.mg "list" = none) (hg2 : Gl X "reversed") (hm2 : X.mg "reversed" = none) (he : PE X e te)
    (hs : starEach [e] X.env = (false, eval e X.env) :: starEach [] X.env := by rfl)
    (hs2 : starEach [.Call (.Name "reversed" p2) [e] [] pos2] X.env = (false, eval (.Call (.Name "reversed" p2) [e] [] pos2) X.env) :: starEach [] X.env := by rfl) :
    PE X (.Call (.Name "list" p) [.Call (.Name "reversed" p2) [e] [] pos2] [] pos) (tListRev X.K te) := by
  refine ⟨fun pins s σ H Q I h => ?_⟩
  refine Call_ (ld_blt I hg hm boot_list (PyProof.Rows.callWith_type1 (args_cons (Call_ (ld_blt I hg2 hm2 PyProof.Rows.boot_reversed (PyProof.Rows.callWith_type1 (args_cons (thn (he.run pins s σ H _ I h) fun u s1 ⟨v, H1, I1, r1, q1⟩ => args_nil ?_) hs) hs rfl))) hs2) hs2 rfl))
  obtain ⟨a, xs, ev, hq, q⟩ := q1
  subst ev
  obtain rfl : u = Value.ref a := r1
  obtain ⟨its, rv, p', hz⟩ := I1.list hq
  refine call_reversed_list p'.isList (args_nil ?_)
  have k0 : ∀ b o, s1.heap.get? b = some o → (s1.heap.push (revObj a ((its.toArray.size : Int) - 1))).get? b = some o := fun b o e => Heap.get?_push_of_some _ e
  have hl := p'.isList
  obtain ⟨ol, hol, _⟩ := id hl
  have hne : a ≠ s1.heap.objs.size := Nat.ne_of_lt (Heap.lt_size hol)
  have hn : its.toArray.size ≤ sizeLine := by rw [List.size_toArray, ← rv.length]; exact hz
  refine call_list_rev (s := { s1 with heap := s1.heap.push (revObj a ((its.toArray.size : Int) - 1)) }) (I1.ok.hd hc) ⟨_, Heap.get?_push_size _ rfl, rfl, rfl⟩ (hl.push _) hne hn fun h' tk acc c' hk hS' hi => ?_
  have hle : s1.heap.objs.size ≤ (s1.heap.push (revObj a ((its.toArray.size : Int) - 1))).objs.size := by simp [Heap.push]
  have ea : acc.toList.toArray = acc := by simp
  exact ⟨.ref (s1.heap.push (revObj a ((its.toArray.size : Int) - 1))).objs.size, upd H1 (s1.heap.push (revObj a ((its.toArray.size : Int) - 1))).objs.size (.lst xs.reverse), I1.laid (t' := tk) (fun c o e => hk c o (Nat.ne_of_lt (Heap.lt_size e)) (k0 c o e)) hle (show ObjOk X.prog X.w _ _ _ (.lst xs.reverse) from ⟨by rw [List.length_reverse]; exact hz, acc.toList, c', vals_rev rv hi, by rw [ea]; exact hS'⟩), rfl, q _ (I1.hok.fresh hle)⟩
end
end RL
/-! ### xs.extend(a tuple) -/
namespace RL
open PySem PySem.Spec PyProof.Rows RT L2
theorem meets_extend_tup (l : Addr) (items : Array Value) (n : Nat) (b : Addr) (items2 : Array Value) (n2 : Nat) (o : Obj) (hc : o.cls = .type "tuple") (hd : o.data = .seq items2 n2) (hs1 : items.size + items2.size ≤ sizeLine) :
    Meets (Builtin.«list.extend» ⟨[.ref l, .ref b], []⟩) (fun _ R s => s.heap.get? l = some { cls := .type "list", dict := none, data := .seq items n, slots := #[] } ∧ s.heap.get? b = some o ∧ R (.ok (.ret Value.none)) { s with heap := s.heap.update l (Obj.mapSeq fun x => x ++ items2), toks := s.toks }) :=
  .of_wp fun prog w A R s h => by
    obtain ⟨hl, hb, h⟩ := h
    show wpAny _ _ (Builtin.List.listExtendWith (.ref l) (.ref b) .none) _ _ _
    unfold Builtin.List.listExtendWith
    refine wpAny_bind (wpAny_typeOf ⟨o, hb, hc⟩ ?_)
    have h1 : (Builtin.List.listSameRef (.ref l) (.ref b) || Value.type "tuple" == Value.type "list" || Value.type "tuple" == Value.type "tuple") = true := by simp
    simp only [h1, if_true]
    refine wpAny_bind ?_
    unfold Builtin.List.listItems
    refine wpAny_bind (wpAny_seqItems hb hd (wpAny_pure ?_))
    refine wpAny_bind ?_
    refine wpAny_bind (wpAny_seqItems hl rfl (wpAny_pure ?_))
    have hlong : ¬ (!items.isEmpty && Builtin.List.listTooLong (items.size + items2.size)) = true := by
      rw [notLongL hs1, Bool.and_false]
      exact Bool.false_ne_true
    rw [if_neg hlong]
    show wpAny _ _ (updateSeq l (· ++ items2) >>= fun _ => ret .none) _ _ s
    refine wpAny_bind (wpAny_updateSeq hl rfl (hz := by omega) (_hz' := by rw [Array.size_append]; omega) ?_)
    exact wpAny_pure ⟨_, rfl, h⟩
section
variable {X : Cx}
def rExtT : V → List V → Hp → VK → Prop := fun x vs H Q => ∃ l b xs zs, x = .ref l ∧ vs = [.ref b] ∧ H l = some (.lst xs) ∧ H b = some (.tup zs) ∧ xs.length + zs.length ≤ sizeLine ∧ Q .non (upd H l (.lst (xs ++ zs)))
theorem mt_extendT : MtM X "list.extend" rExtT := by
  intro pins s σ H x vs v us Q I rx rv h
  obtain ⟨l, b, xs, zs, rfl, rfl, hH, hB, hz, q⟩ := h
  cases rx
  obtain ⟨u, rfl, ru⟩ := rv.one
  cases ru
  obtain ⟨z, its, n, r, hl, e⟩ := I.lstM hH
  obtain ⟨its2, r2, ⟨o, ho, hc, n2, hd⟩, hz2⟩ := I.tuple (SqT.of hB)
  have hl2 := r2.length
  refine call_meets PySem.F.slot_list_extend ⟨_, e, rfl⟩ PySem.F.entry_list_extend (PySem.F.args_list_extend_2 _ _)
    (meets_extend_tup l its.toArray n b its2.toArray n2 o hc hd (by rw [List.size_toArray, List.size_toArray]; omega)) ⟨e, ho, ?_⟩
  refine ⟨.non, _, I.lset (its' := its ++ its2) hH e (by simp) (r.append r2) ?_, rfl, q⟩
  rw [List.length_append]
  omega
end
end RL
/-! ### enumerate(a list, start=k) -/
namespace RL
open PySem PySem.Spec PyProof.Rows L2
section
variable {M : Model} {A : Around} {E : Value → Shared → Prop} {s : Shared} {env : Env}
theorem callWith_type_kwB {pos : Pos} {T : String} {first : List Value} {args : List (Bool × Sem Value)} {keywords : List (Option Str × Sem Value)} {Q : Value → Shared → Prop}
    (hplain : args.any (·.1) = false) (hkw : keywords.any (·.1.isNone) = false)
    (h : wpAny M A (evalArgs (.type T) true args keywords) (fun a s₁ => wpAny M A (call (.type T) (first ++ a.pos) a.kw) Q E s₁) E s) :
    wpAny M A (callWith pos (.type T) first args keywords) Q E s := by
  unfold callWith
  refine wpAny_bind (wpAny_holding (wpAny_mono h (fun a s₁ h₁ => wpAny_bind (wpAny_standAt ?_)) fun _ _ x => x))
  simp only [hplain, hkw, Bool.or_false]
  refine wpAny_bind (wpAny_pure ?_)
  exact wpAny_bind (wpAny_mono h₁ (fun r s₂ hr => wpAny_bind (wpAny_holding (wpAny_point (wpAny_pure hr)))) fun _ _ x => x)
theorem callWith_type_kw {pos : Pos} {T : String} {e : Expr} {rest : List Expr} {kws : List Keyword} {Q : Value → Shared → Prop}
    (h : wpAny M A (spliced (backTo pos (starEach (e :: rest) env))) (fun vs s₁ => wpAny M A (evalAll ((backToKw pos (keywordEach kws env)).map (·.2)))
      (fun kvs s₂ => wpAny M A (call (.type T) vs (((backToKw pos (keywordEach kws env)).filterMap (·.1)).zip kvs)) Q E s₂) E s₁) E s)
    (he : backTo pos (starEach (e :: rest) env) = (false, eval e env) :: backTo pos (starEach rest env))
    (hplain : (backTo pos (starEach (e :: rest) env)).any (·.1) = false)
    (hall : (backToKw pos (keywordEach kws env)).all (·.1.isSome) = true)
    (hkw : (backToKw pos (keywordEach kws env)).any (·.1.isNone) = false) :
    wpAny M A (callWith pos (.type T) [] (backTo pos (starEach (e :: rest) env)) (backToKw pos (keywordEach kws env))) Q E s := by
  refine callWith_type_kwB hplain hkw ?_
  rw [he] at h ⊢
  exact evalArgs_kwB hall h
end
/-- the list at a as it stands at each turn, each item in a new pair, counted from k -/
def IteS (K : PySem.W.Frag) (a : Addr) (k : Int) : It :=
  ⟨fun i H => ∃ (xs : List V) (x : V), SqL K H a xs ∧ xs[i]? = some x, fun i H v H' => ∃ T x, v = .ref T ∧ H T = none ∧ H' = upd H T (.tup [.int (k + (i : Nat)), x]) ∧ ∀ xs, SqL K H a xs → xs[i]? = some x, fun i H => ∃ xs : List V, SqL K H a xs ∧ xs.length = i⟩
theorem turn_enumS {P : Program} {w : World} {K : PySem.W.Frag} {elts : List Expr} {kk : Nat} {tpos : Pos} (a e it : Addr) (k : Int) :
    Turn P w K (.Tuple elts kk tpos) (IteS K a k) [e, it] e (fun i h => (∃ old, IsEnum h e it (k + ((i : Nat) : Int)) old) ∧ h.IsListIter it a i ∧ e ≠ it ∧ e ≠ a ∧ a ≠ it) where
  mem := by simp
  obj := fun i h st b hb => by
    obtain ⟨⟨old, he⟩, ⟨o, ho, hc, hd⟩, _⟩ := st
    have e' : b = e ∨ b = it := by simpa using hb
    rcases e' with z | z
    · rw [z]; exact ⟨_, he, fun v q => nomatch q⟩
    · rw [z]; exact ⟨o, ho, fun v q => by rw [hd] at q; cases q⟩
  keep := fun i h h' st k => let ⟨⟨old, he⟩, hi, hne⟩ := st; ⟨⟨old, k e (by simp) _ he⟩, hi.at fun o q => k it (by simp) o q, hne⟩
  item := by
    intro X hP hw hK hc i pins s σ H E I hf st hg
    subst hP hw hK
    obtain ⟨⟨old, he⟩, hit, hne, hea, hai⟩ := st
    obtain ⟨xs, x, hq, hx⟩ := hg
    obtain ⟨its, rv, p, hz⟩ := I.list hq
    obtain ⟨u, hu, ru⟩ := rv.get hx
    have hel : e < s.heap.objs.size := Heap.lt_size he
    have hil : it < s.heap.objs.size := by obtain ⟨_, q, _⟩ := hit; exact Heap.lt_size q
    have D := Draws.list (prog := X.prog) (w := X.w) (A := X.A.in1) (I.ok.hd hc) it a hai its.toArray
    have hlt : i < its.toArray.size := by
      have := (List.getElem?_eq_some_iff.mp hu).1
      simpa using this
    refine wpAny_pyNext_enum_itemC D he ⟨hit, p.isList⟩ hlt hne (by simp [hne, hea]) fun u' h' tk hu' ho hst' hT hsz hk => ?_
    have euu : u' = u := by
      have z : its.toArray[i]? = some u := by simpa using hu
      rw [z] at hu'
      exact (Option.some.inj hu').symm
    subst euu
    refine ⟨_, rfl, wpAny_letOwnedTupleGo_enum (s := { s with heap := h', toks := tk + 1 }) ho fun h'' he' sb => ?_⟩
    have hT2 : h''.get? s.heap.objs.size = some { cls := .type "tuple", data := .seq #[.int (k + (i : Nat)) tk, u'] } := (sb.2 _ (Nat.ne_of_gt hel)).trans hT
    have new : ObjOk X.prog X.w (upd H s.heap.objs.size (.tup [.int (k + (i : Nat)), x])) h'' s.heap.objs.size (.tup [.int (k + (i : Nat)), x]) :=
      ⟨by show 2 ≤ sizeLine; decide, [.int (k + (i : Nat)) tk, u'], .cons ⟨_, rfl⟩ (.cons ru .nil), ⟨_, hT2, rfl, _, rfl⟩⟩
    have I1 : Inv X pins σ (upd H s.heap.objs.size (.tup [.int (k + (i : Nat)), x])) { s with heap := h'', toks := tk + 1 } :=
      I.turnedNew (ch := [e, it]) (fun b ob hb q => (sb.2 b (fun z => hb (by simp [z]))).trans (hk b ob (fun z => hb (by simp [z])) (fun z => hb (by simp [z])) q)) hf (Nat.le_refl _) new
    refine ⟨.ref s.heap.objs.size, _, I1, rfl, ⟨_, x, rfl, I.hok.fresh (Nat.le_refl _), rfl, fun ys hy => by rw [I.list_inj hy hq]; exact hx⟩, ⟨⟨u', ?_⟩, hst'.1.at fun o q => (sb.2 it (Ne.symm hne)).trans q, hne, hea, hai⟩, fun b hb => ?_⟩
    · have e1 : k + ((i + 1 : Nat) : Int) = k + (i : Int) + 1 := by omega
      rw [e1]; exact he'
    · have hb' : b < s.heap.objs.size := by
        have e' : b = e ∨ b = it := by simpa using hb
        rcases e' with z | z
        · rw [z]; exact hel
        · rw [z]; exact hil
      rw [upd_ne (Nat.ne_of_lt hb')]
      exact (hf b hb).1
  done := by
    intro X hP hw hK hc i pins s σ H E I hf st hg
    subst hP hw hK
    obtain ⟨⟨old, he⟩, hit, hne, hea, hai⟩ := st
    obtain ⟨xs, hq, hx⟩ := hg
    obtain ⟨its, rv, p, hz⟩ := I.list hq
    obtain ⟨f0, f1, f2, f3, f4, f5⟩ := hf it (by simp)
    have hl := rv.length
    have D := Draws.list (prog := X.prog) (w := X.w) (A := X.A.in1) (I.ok.hd hc) it a hai its.toArray
    have en : i = its.toArray.size := by rw [List.size_toArray]; omega
    subst en
    exact wpAny_pyNext_enum_endD D he ⟨hit, p.isList⟩ fun h' eb => ⟨rfl, I.turned (t' := s.toks) (fun b o hb q => eb b o hb q) f0 f1 f3 f4 f5⟩
  self := fun A i s Q E st h => let ⟨⟨_, he⟩, _⟩ := st; wpAny_pyIter_enum he h
def iEnumS (K : PySem.W.Frag) (ta : TA) (tk : TA) : TI := fun σ H R => ta σ H fun vs H1 => tk σ H1 fun zs H2 => ∃ a xs k, vs = [.ref a] ∧ zs = [.int k] ∧ -(2 ^ 63) ≤ k ∧ k < 2 ^ 63 ∧ SqL K H2 a xs ∧ R (IteS K a k) H2
theorem pi_enumS {X : Cx} {e e2 : Expr} {ta tk : TA} {p pos tpos kp : Pos} {elts : List Expr} {kk : Nat} (hg : Gl X "enumerate") (hm : X.mg "enumerate" = none) (ha : PA X [e] ta) (hkw : PK X [⟨some ("start" : Str), e2, kp⟩] tk)
    (he : backTo pos (starEach [e] X.env) = (false, eval e X.env) :: backTo pos (starEach [] X.env) := by rfl) (hpl : (backTo pos (starEach [e] X.env)).any (·.1) = false := by rfl)
    (hall : (backToKw pos (keywordEach [⟨some ("start" : Str), e2, kp⟩] X.env)).all (·.1.isSome) = true := by rfl) (hnone : (backToKw pos (keywordEach [⟨some ("start" : Str), e2, kp⟩] X.env)).any (·.1.isNone) = false := by rfl)
    (hks : (backToKw pos (keywordEach [⟨some ("start" : Str), e2, kp⟩] X.env)).filterMap (·.1) = [("start" : Str)] := by rfl) :
    PI X (.Tuple elts kk tpos) (.Call (.Name "enumerate" p) [e] [⟨some ("start" : Str), e2, kp⟩] pos) (iEnumS X.K ta tk) := by
  refine ⟨fun pins s σ H R I h => ?_⟩
  refine wpAny_Call_Name_kw (ld_blt I hg hm boot_enumerate (callWith_type_kw (thn (ha.run pos pins s σ H _ I h) fun us s0 ⟨vs, H0, I0, r0, q0⟩ => thn (hkw.run pos pins s0 σ H0 _ I0 q0) fun ws s1 ⟨zs, H1, I1, r2, q1⟩ => ?_) he hpl hall hnone))
  rw [hks]
  obtain ⟨a, xs, k, ex, ez, hk0, hk1, hq, q⟩ := q1
  subst ex ez
  cases r0 with
  | cons r rr =>
    cases rr
    cases r
    cases r2 with
    | cons r3 rr3 =>
      cases rr3
      obtain ⟨t, rfl⟩ := r3
      obtain ⟨its, rv, p', hz⟩ := I1.list hq
      have hal : a < s1.heap.objs.size := by obtain ⟨_, z, _⟩ := p'.isList; exact Heap.lt_size z
      refine enum_begins_start (begins_list a its.toArray) p'.isList hk0 hk1 fun h' he' hit hsz hk => wpAny_pyIter_enum he' ?_
      have I2 : Inv X pins σ H1 { s1 with heap := h' } := I1.kept (t' := s1.toks) hk
      refine ⟨s1.heap.objs.size + 1, [s1.heap.objs.size + 1, s1.heap.objs.size], _, _, H1, rfl, I2, turn_enumS a (s1.heap.objs.size + 1) s1.heap.objs.size k, ⟨⟨.none, ?_⟩, ⟨_, hit, rfl, ?_⟩, Nat.succ_ne_self _, Nat.ne_of_gt (Nat.lt_succ_of_lt hal), Nat.ne_of_lt hal⟩, fun b hb => ?_, q⟩
      · rw [show k + ((0 : Nat) : Int) = k by omega]
        exact he'
      · rfl
      · have e' : b = s1.heap.objs.size + 1 ∨ b = s1.heap.objs.size := by simpa using hb
        have hle : s1.heap.objs.size ≤ b := by
          rcases e' with z | z
          · rw [z]; exact Nat.le_add_right _ _
          · rw [z]; exact Nat.le_refl _
        exact I1.fpOk hle (I1.hok.fresh hle)
end RL
/-! ### a text times an int -/
namespace RL
open PySem PySem.Spec PyProof.Rows L2
def repS (z : Str) (k : Nat) : Str := ⟨(List.replicate k z.cps).foldl (· ++ ·) #[]⟩
theorem foldl_size : ∀ (l : List (Array Nat)) (a : Array Nat), (l.foldl (· ++ ·) a).toList = a.toList ++ (l.map Array.toList).flatten
  | [], a => by simp
  | x :: r, a => by
    rw [List.foldl_cons, foldl_size r (a ++ x), Array.toList_append, List.map_cons, List.flatten_cons, List.append_assoc]
theorem repS_tl (z : Str) (k : Nat) : TL.tl (repS z k) = (List.replicate k z.cps.toList).flatten := by
  show ((List.replicate k z.cps).foldl (· ++ ·) #[]).toList = _
  rw [foldl_size, List.map_replicate]
  rfl
theorem repS_len (z : Str) (k : Nat) : (repS z k).length = k * z.length := by
  show (repS z k).cps.size = _
  rw [← Array.length_toList]
  have h := repS_tl z k
  unfold TL.tl at h
  rw [h]
  simp [List.length_flatten]
  rfl
def rMulS : R2 := fun x y H Q => ∃ (z : Str) (k : Nat), x = .str z ∧ y = .int (k : Int) ∧ 2 ≤ k ∧ k ≤ 100000 ∧ 1 ≤ z.length ∧ z.length ≤ 100 ∧ Q (.str (repS z k)) H
theorem op_mulS {X : Cx} : OpR X (binaryOp .Mult) rMulS := by
  intro pins s σ H x y v u Q I rx ry h
  obtain ⟨z, k, rfl, rfl, hk, hk2, hz, hz2, q⟩ := h
  obtain ⟨t, rfl⟩ := rx
  obtain ⟨t', rfl⟩ := ry
  have hle : z.length * k ≤ 10000000 := by
    have h1 : z.length * k ≤ 100 * k := Nat.mul_le_mul_right k hz2
    omega
  have hno : ((((k : Nat) : Int) == 1) || z.length == 0) = false := by
    have h1 : (((k : Nat) : Int) == 1) = false := by
      apply beq_false_of_ne
      omega
    have h2 : (z.length == 0) = false := by
      apply beq_false_of_ne
      omega
    rw [h1, h2]; rfl
  refine PySem.P.mul_str ?_ ?_ ?_ ?_
  · have h1 : ¬ (k : Int) < -(2 ^ 63 : Int) := by omega
    have h2 : ¬ (k : Int) ≥ 2 ^ 63 := by omega
    rw [decide_eq_false h1, decide_eq_false h2]; rfl
  · intro _ _
    have h3 : (1000 : Int) ≤ (2 ^ 63 - 1) / (k : Int) := by
      rw [Int.le_ediv_iff_mul_le (by omega)]
      omega
    omega
  · intro _ _
    rw [Int.toNat_natCast]
    have hs : 10000000 ≤ sizeLine := by decide
    unfold Builtin.Str.tooLong
    exact decide_eq_false (by omega)
  · rw [if_neg (by omega), if_neg (by rw [hno]; decide)]
    rw [Int.toNat_natCast]
    have hl := repS_len z k
    have hs : 10000000 ≤ sizeLine := by decide
    have hc : k * z.length = z.length * k := Nat.mul_comm _ _
    refine ⟨?_, ⟨.str (repS z k), H, I.tok _, ⟨_, rfl⟩, q⟩⟩
    show (repS z k).length ≤ sizeLine
    omega
end RL

/-! ### Z: single steps of readings, for walking by with_reducible refine -/
namespace Z
open PySem L2
/-- all but what stands at M is as it was -/
def Kp (M : List Addr) (H H' : Hp) : Prop := ∀ b o, b ∉ M → H b = some o → H' b = some o
theorem Kp.refl {M : List Addr} (H : Hp) : Kp M H H := fun _ _ _ h => h
theorem Kp.trans {M : List Addr} {H H1 H2 : Hp} (a : Kp M H H1) (b : Kp M H1 H2) : Kp M H H2 := fun c o n h => b c o n (a c o n h)
theorem Kp.new {M : List Addr} {H : Hp} {p : Addr} {o : HO} (h : H p = none) : Kp M H (upd H p o) := fun b u _ e => by
  rw [upd_ne (ne_of_none e h)]
  exact e
theorem Kp.put {M : List Addr} {H : Hp} {p : Addr} {o : HO} (h : p ∈ M) : Kp M H (upd H p o) := fun b u n e => by
  rw [upd_ne (fun q => n (by rw [q]; exact h))]
  exact e
theorem Kp.sub {M M' : List Addr} {H H' : Hp} (a : Kp M H H') (h : ∀ x, x ∈ M → x ∈ M') : Kp M' H H' := fun b o n e => a b o (fun z => n (h b z)) e
theorem Kp.same {H H' : Hp} (a : Kp [] H H') : Same H H' := fun b o e => a b o (by simp) e
theorem Kp.of_same {M : List Addr} {H H' : Hp} (a : Same H H') : Kp M H H' := fun b o _ e => a b o e
theorem Kp.none {M : List Addr} {H H' : Hp} (a : Kp M H H') {p : Addr} (n : p ∉ M) (h : H' p = Option.none) : H p = Option.none := by
  cases q : H p with
  | none => rfl
  | some o =>
    rw [a p o n q] at h
    cases h
/-- what was not there may be forgotten from M -/
theorem Kp.drop {M : List Addr} {H H' : Hp} {p : Addr} (a : Kp (p :: M) H H') (h : H p = Option.none) : Kp M H H' := fun b o n e => a b o (by
  intro z
  rcases List.mem_cons.mp z with z | z
  · rw [z, h] at e
    cases e
  · exact n z) e
theorem Kp.get {M : List Addr} {H H' : Hp} (a : Kp M H H') {b : Addr} {o : HO} (n : b ∉ M) (e : H b = some o) : H' b = some o := a b o n e
theorem Kp.seq {M : List Addr} {K : PySem.W.Frag} {H H' : Hp} (e : Kp M H H') {a : Addr} {xs : List V} (n : a ∉ M) (h : SqL K H a xs) : SqL K H' a xs := by
  rcases h with (h | ⟨o, h⟩) | h
  · exact .inl (.inl (e _ _ n h))
  · exact .inl (.inr ⟨o, e _ _ n h⟩)
  · exact .inr h
theorem Kp.tup {M : List Addr} {K : PySem.W.Frag} {H H' : Hp} (e : Kp M H H') {a : Addr} {xs : List V} (n : a ∉ M) (h : SqT K H a xs) : SqT K H' a xs := by
  rcases h with (h | ⟨o, h⟩) | h
  · exact .inl (.inl (e _ _ n h))
  · exact .inl (.inr ⟨o, e _ _ n h⟩)
  · exact .inr h
/-- what H0 does not know may change -/
theorem Kp.mut {M : List Addr} {H0 H H' : Hp} {l : Addr} {o : HO} (a : Kp M H0 H) (h : H0 l = Option.none) (e : H' = upd H l o) : Kp M H0 H' := fun b u n z => by
  rw [e, upd_ne (ne_of_none z h)]
  exact a b u n z
theorem Kp.then1 {M : List Addr} {H0 H H' : Hp} {l : Addr} (a : Kp M H0 H) (b : Kp [l] H H') (h : H0 l = Option.none) : Kp M H0 H' := fun c o n e => b c o (by
  intro z
  rw [List.mem_singleton.mp z, h] at e
  cases e) (a c o n e)
/-- a new instance and its dict -/
theorem Kp.made {M : List Addr} {H : Hp} {x dx : Addr} {o u : HO} (nx : H x = Option.none) (nd : H dx = Option.none) : Kp M H (upd (upd H dx u) x o) := fun c o n e => by
  rw [upd_ne (ne_of_none e nx), upd_ne (ne_of_none e nd)]
  exact e
theorem none2 {H : Hp} {x dx l : Addr} {o u : HO} (h : upd (upd H dx u) x o l = Option.none) : H l = Option.none := by
  unfold upd at h
  split at h
  · cases h
  · split at h
    · cases h
    · exact h
theorem nin1 {a b : Addr} (h : b ≠ a) : b ∉ [a] := by simpa using h
theorem nin0 {b : Addr} : b ∉ ([] : List Addr) := by simp
theorem lstL {K : PySem.W.Frag} {H : Hp} {a : Addr} {xs : List V} (h : H a = some (.lst xs)) : SqL K H a xs := .inl (.inl h)
theorem tupT {K : PySem.W.Frag} {H : Hp} {a : Addr} {xs : List V} (h : H a = some (.tup xs)) : SqT K H a xs := .inl (.inl h)

theorem cxK {CX : CXT} {P : Program} {w : World} {K : PySem.W.Frag} {mg : Str → Option Value} {base : Heap} {N : List Str} {qual : Str} {scope : Scope} {f : Addr} {cd : Value} {A : Around} {outer : List Env} {s : Shared} {H : Hp} {E : XK} : (cxOf CX P w K mg base N qual scope f cd A outer s H E).K = K := rfl
/-! named readings of rules -/
def rLenN (K : PySem.W.Frag) : List V → Hp → VK → Prop := fun xs H Q => ∃ p ys, xs = [.ref p] ∧ (SqL K H p ys ∨ SqT K H p ys) ∧ Q (.int ys.length) H
theorem c_len {X : Cx} : CallR X (.builtin "len") (rLenN X.K) := call_len_seq
def rListN (K : PySem.W.Frag) : List V → Hp → VK → Prop := fun xs H Q => ∃ p ys, xs = [.ref p] ∧ (SqL K H p ys ∨ SqT K H p ys) ∧ ∀ l, H l = none → Q (.ref l) (upd H l (.lst ys))
theorem c_list {X : Cx} : CallR X (.type "list") (rListN X.K) := call_list_of
def rTupN (K : PySem.W.Frag) : List V → Hp → VK → Prop := fun xs H Q => ∃ p ys, xs = [.ref p] ∧ ((SqL K H p ys ∧ ∀ l, H l = none → Q (.ref l) (upd H l (.tup ys))) ∨ (SqT K H p ys ∧ Q (.ref p) H))
theorem c_tuple {X : Cx} : CallR X (.type "tuple") (rTupN X.K) := call_tuple_of
def rInt1 : List V → Hp → VK → Prop := fun xs H Q => (∃ i, xs = [.int i] ∧ Q (.int i) H) ∨ ∃ k, xs = [.bl k] ∧ Q (.int (if k then 1 else 0)) H
theorem c_int {X : Cx} : CallR X (.type "int") rInt1 := call_int1
def rAbs : List V → Hp → VK → Prop := fun xs H Q => ∃ i, xs = [.int i] ∧ Q (.int (if i < 0 then -i else i)) H
theorem c_abs {X : Cx} : CallR X (.builtin "abs") rAbs := call_abs
def rIsN : R2 := fun x y H Q => y = .non ∧ Q (.bl (decide (x = .non))) H
theorem o_isN {X : Cx} : OpR X (compareOp .Is) rIsN := op_isN
def rNotN : R2 := fun x y H Q => y = .non ∧ Q (.bl (!decide (x = .non))) H
theorem o_notN {X : Cx} : OpR X (compareOp .IsNot) rNotN := op_notN
def rAddS : R2 := fun x y H Q => ∃ i j, x = .str i ∧ y = .str j ∧ i.length + j.length ≤ sizeLine ∧ Q (.str (i ++ j)) H
theorem o_addS {X : Cx} : OpR X (binaryOp .Add) rAddS := op_add_str
def rInSg : R2 := fun x y H Q => ∃ (c : Nat) (z : Str), x = .str ⟨#[c]⟩ ∧ y = .str z ∧ Q (.bl (decide (c ∈ z.cps.toList))) H
theorem o_inSg {X : Cx} : OpR X (compareOp .In) rInSg := op_in_sign
def rNinSg : R2 := fun x y H Q => ∃ (c : Nat) (z : Str), x = .str ⟨#[c]⟩ ∧ y = .str z ∧ Q (.bl (!decide (c ∈ z.cps.toList))) H
theorem o_ninSg {X : Cx} : OpR X (compareOp .NotIn) rNinSg := op_notIn_sign
/-- // by a divisor of any sign -/
def CDivA (_ j : Int) : Prop := j ≠ 0 ∧ j.natAbs.log2 < 9000
theorem op_fdivA {X : Cx} : OpR X (binaryOp .FloorDiv) (rI CDivA fun i j => .int (i.fdiv j)) := opI fun i j _ _ _ _ _ hc q => PyProof.Rows.floordiv_int hc.1 q (.inl (PyProof.noPylong_of_log2 hc.2))
theorem divA {i j : Int} {b : Nat} (h : j ≠ 0) (hb : j.natAbs < 2 ^ b) (h0 : 0 < b) (h9 : b ≤ 9000) : CDivA i j := ⟨h, Nat.lt_of_lt_of_le (PySem.Flt.log2_lt_of h0 hb) h9⟩
def rLenS : List V → Hp → VK → Prop := fun xs H Q => ∃ x : Str, xs = [.str x] ∧ x.cps.size ≤ 10000000 ∧ Q (.int (x.cps.size : Nat)) H
theorem c_lens {X : Cx} : CallR X (.builtin "len") rLenS := fun pins s σ H xs us Q I r h => call_len pins s σ H xs us Q I r (by obtain ⟨x, rfl, hz, q⟩ := h; exact ⟨.str x, _, rfl, ⟨Nat.le_trans hz (by decide), rfl⟩, q⟩)
def rPopQ : V → List V → Hp → VK → Prop := rPop
section
variable {σ : St} {H : Hp} {Q : VK} {v x y : V} {ta tb tc te : TE} {tA : TT} {D : Ends} {t u ts : TS} {r : R2} {K : PySem.W.Frag} {i : Nat} {A B : Prop}
/-! values -/
theorem var (h : σ[i]? = some (some v)) (q : Q v H) : tVar i σ H Q := ⟨v, h, q⟩
theorem cst (q : Q v H) : tC v σ H Q := q
theorem op (h : ta σ H fun x H1 => tb σ H1 fun y H2 => r x y H2 Q) : tOp r ta tb σ H Q := h
theorem un {r : V → Hp → VK → Prop} (h : ta σ H fun x H1 => r x H1 Q) : tUn r ta σ H Q := h
theorem i0 {g : Int → Int → V} {a b : Int} (q : Q (g a b) H) : rI0 g (.int a) (.int b) H Q := ⟨a, b, rfl, rfl, q⟩
theorem iC {C : Int → Int → Prop} {g : Int → Int → V} {a b : Int} (c : C a b) (q : Q (g a b) H) : rI C g (.int a) (.int b) H Q := ⟨a, b, rfl, rfl, c, q⟩
theorem iU {g : Int → V} {a : Int} (q : Q (g a) H) : rU g (.int a) H Q := ⟨a, rfl, q⟩
theorem eqII {a b : Int} (q : Q (.bl (decide (a = b))) H) : rEq (.int a) (.int b) H Q := ⟨rfl, by
  have e : decide (V.int a = V.int b) = decide (a = b) := by simp
  rw [e]; exact q⟩
theorem neII {a b : Int} (q : Q (.bl (!decide (a = b))) H) : rNe (.int a) (.int b) H Q := ⟨rfl, by
  have e : decide (V.int a = V.int b) = decide (a = b) := by simp
  rw [e]; exact q⟩
theorem eqSS {a b : Str} (q : Q (.bl (decide (a = b))) H) : rEq (.str a) (.str b) H Q := ⟨rfl, by
  have e : decide (V.str a = V.str b) = decide (a = b) := by simp
  rw [e]; exact q⟩
theorem neSS {a b : Str} (q : Q (.bl (!decide (a = b))) H) : rNe (.str a) (.str b) H Q := ⟨rfl, by
  have e : decide (V.str a = V.str b) = decide (a = b) := by simp
  rw [e]; exact q⟩
theorem eqBB {a b : Bool} (q : Q (.bl (decide (a = b))) H) : rEq (.bl a) (.bl b) H Q := ⟨rfl, by
  have e : decide (V.bl a = V.bl b) = decide (a = b) := by simp
  rw [e]; exact q⟩
theorem neBB {a b : Bool} (q : Q (.bl (!decide (a = b))) H) : rNe (.bl a) (.bl b) H Q := ⟨rfl, by
  have e : decide (V.bl a = V.bl b) = decide (a = b) := by simp
  rw [e]; exact q⟩
theorem bl {b : Bool} {q : Bool → Hp → Prop} (h : q b H) : ∃ k, V.bl b = .bl k ∧ q k H := ⟨b, rfl, h⟩
theorem bl' {b : Bool} {q : Bool → Prop} (h : q b) : ∃ k, V.bl b = .bl k ∧ q k := ⟨b, rfl, h⟩
theorem test {Q : Bool → Hp → Prop} (h : te σ H fun x H' => ∃ k, x = .bl k ∧ Q k H') : tTest te σ H Q := h
theorem tbb {Q : Bool → Hp → Prop} (h : te σ H fun x H' => ∃ k, x = .bl k ∧ Q k H') : tB te σ H Q := h
theorem tand {a b : TT} {Q : Bool → Hp → Prop} (h : a σ H fun c H1 => if c = true then b σ H1 Q else Q false H1) : tAnd a b σ H Q := h
theorem tor {a b : TT} {Q : Bool → Hp → Prop} (h : a σ H fun c H1 => if c = true then Q true H1 else b σ H1 Q) : tOr a b σ H Q := h
theorem tnot {a : TT} {Q : Bool → Hp → Prop} (h : a σ H fun c H1 => Q (!c) H1) : tNot a σ H Q := h
theorem tyes {Q : Bool → Hp → Prop} (h : Q true H) : tYes σ H Q := h
theorem andV (h : ta σ H fun x H1 => ∃ c, x = .bl c ∧ if c = true then tb σ H1 Q else Q (.bl false) H1) : tAndV ta tb σ H Q := h
theorem orV (h : ta σ H fun x H1 => ∃ c, x = .bl c ∧ if c = true then Q (.bl true) H1 else tb σ H1 Q) : tOrV ta tb σ H Q := h
theorem notV (h : ta σ H fun x H1 => ∃ c, x = .bl c ∧ Q (.bl (!c)) H1) : tNotV ta σ H Q := h
theorem ifE (h : tA σ H fun c H1 => if c = true then ta σ H1 Q else tb σ H1 Q) : L2.tIf tA ta tb σ H Q := h
theorem chain {r r' : R2} (h : ta σ H fun x H1 => tb σ H1 fun y H2 => r x y H2 fun z H3 => ∃ k, z = .bl k ∧ (if k = true then tc σ H3 fun w' H4 => r' y w' H4 Q else Q (.bl false) H3)) : tChain r r' ta tb tc σ H Q := h
/-! branches -/
theorem ite {p : Prop} [Decidable p] (h1 : p → A) (h2 : ¬p → B) : if decide p = true then A else B := by
  by_cases h : p
  · rw [decide_eq_true h, if_pos rfl]; exact h1 h
  · rw [decide_eq_false h, if_neg Bool.false_ne_true]; exact h2 h
theorem iteN {p : Prop} [Decidable p] (h1 : ¬p → A) (h2 : p → B) : if (!decide p) = true then A else B := by
  by_cases h : p
  · rw [decide_eq_true h]; exact h2 h
  · rw [decide_eq_false h]; exact h1 h
theorem iteB {b : Bool} (h1 : b = true → A) (h2 : b = false → B) : if b = true then A else B := by
  cases b with
  | true => exact h1 rfl
  | false => exact h2 rfl
theorem yes {p : Prop} [Decidable p] (h : p) (q : A) : if decide p = true then A else B := by rw [decide_eq_true h, if_pos rfl]; exact q
theorem no {p : Prop} [Decidable p] (h : ¬p) (q : B) : if decide p = true then A else B := by rw [decide_eq_false h, if_neg Bool.false_ne_true]; exact q
theorem yesN {p : Prop} [Decidable p] (h : ¬p) (q : A) : if (!decide p) = true then A else B := by rw [decide_eq_false h]; exact q
theorem noN {p : Prop} [Decidable p] (h : p) (q : B) : if (!decide p) = true then A else B := by rw [decide_eq_true h]; exact q
theorem yesB (q : A) : if true = true then A else B := q
theorem noNB (q : B) : if (!true) = true then A else B := q
theorem yesNB (q : A) : if (!false) = true then A else B := q
theorem noB (q : B) : if false = true then A else B := q
/-! calls -/
theorem nil {Q : List V → Hp → Prop} (q : Q [] H) : tNil σ H Q := q
theorem cons {Q : List V → Hp → Prop} {tr : TA} (h : ta σ H fun x H1 => tr σ H1 fun xs H2 => Q (x :: xs) H2) : tCons ta tr σ H Q := h
theorem cb {r : List V → Hp → VK → Prop} {a : TA} (h : a σ H fun vs H1 => r vs H1 Q) : tCB r a σ H Q := h
theorem call {sp : Sp} {dvs : List V} {E : XK} {a : TA} (h : a σ H fun vs H1 => sp (vs ++ dvs) H1 Q E) : tCall sp dvs E a σ H Q := h
theorem meth {C : Addr} {m : Str} {sp : Sp} {dvs : List V} {E : XK} {a : TA} (h : ta σ H fun x H1 => ∃ p dx fs, x = .ref p ∧ H1 p = some (.ins C dx fs) ∧ fs.lookup m = none ∧ a σ H1 fun vs H2 => sp (x :: (vs ++ dvs)) H2 Q E) : tMeth C m sp dvs E ta a σ H Q := h
theorem fld {f : Str} (h : ta σ H fun x H1 => ∃ a C dx fs v, x = .ref a ∧ H1 a = some (.ins C dx fs) ∧ Cls K C ∧ NoAttr K C f ∧ fs.lookup f = some v ∧ Q v H1) : tFld K ta f σ H Q := h
theorem int1 {a : Int} (q : Q (.int a) H) : rInt1 [.int a] H Q := .inl ⟨a, rfl, q⟩
theorem intb {b : Bool} (q : Q (.int (if b then 1 else 0)) H) : rInt1 [.bl b] H Q := .inr ⟨b, rfl, q⟩
theorem abs1 {a : Int} (q : Q (.int (if a < 0 then -a else a)) H) : rAbs [.int a] H Q := ⟨a, rfl, q⟩
theorem isN (q : Q (.bl (decide (x = .non))) H) : rIsN x .non H Q := ⟨rfl, q⟩
theorem notN (q : Q (.bl (!decide (x = .non))) H) : rNotN x .non H Q := ⟨rfl, q⟩
theorem addS {a b : Str} (h : a.length + b.length ≤ sizeLine) (q : Q (.str (a ++ b)) H) : rAddS (.str a) (.str b) H Q := ⟨a, b, rfl, rfl, h, q⟩
theorem inSg {c : Nat} {z : Str} (q : Q (.bl (decide (c ∈ z.cps.toList))) H) : rInSg (.str ⟨#[c]⟩) (.str z) H Q := ⟨c, z, rfl, rfl, q⟩
theorem ninSg {c : Nat} {z : Str} (q : Q (.bl (!decide (c ∈ z.cps.toList))) H) : rNinSg (.str ⟨#[c]⟩) (.str z) H Q := ⟨c, z, rfl, rfl, q⟩
/-- a new object -/
theorem new {o : HO} (h : ∀ p, H p = none → Q (.ref p) (upd H p o)) : ∀ p, H p = none → Q (.ref p) (upd H p o) := h
def TupN (Q : VK) (xs : List V) (H1 : Hp) : Prop := xs.length ≤ sizeLine ∧ ∀ p, H1 p = none → Q (.ref p) (upd H1 p (.tup xs))
def LstN (Q : VK) (xs : List V) (H1 : Hp) : Prop := xs.length ≤ sizeLine ∧ ∀ p, H1 p = none → Q (.ref p) (upd H1 p (.lst xs))
theorem tup {a : TA} (h : a σ H (TupN Q)) : tTup a σ H Q := h
theorem lst {a : TA} (h : a σ H (LstN Q)) : tLst a σ H Q := h
/-- a new object, the heap behind it a letter -/
theorem mk {o : HO} {H0 : Hp} {R : Addr → Hp → Prop} (h : ∀ p H1, H0 p = none → Kp [] H0 H1 → H1 p = some o → R p H1) : ∀ p, H0 p = none → R p (upd H0 p o) := fun p n => h p _ n (Kp.new n) upd_same
theorem tupK {xs : List V} (q : ∀ p H1, H p = none → Kp [] H H1 → H1 p = some (.tup xs) → Q (.ref p) H1) (h : xs.length ≤ 100000 := by simp) : TupN Q xs H := ⟨Nat.le_trans h (by decide), mk q⟩
theorem lstK {xs : List V} (q : ∀ p H1, H p = none → Kp [] H H1 → H1 p = some (.lst xs) → Q (.ref p) H1) (h : xs.length ≤ 100000 := by simp) : LstN Q xs H := ⟨Nat.le_trans h (by decide), mk q⟩
theorem sz {n m : Nat} (h : n ≤ m) (hm : m ≤ 10000000 := by decide) : n ≤ sizeLine := Nat.le_trans h (Nat.le_trans hm (by decide))
theorem szl {n m : Nat} (h : n ≤ m) (hm : m ≤ 10000000 := by decide) : n < sizeLine := Nat.lt_of_le_of_lt (Nat.le_trans h hm) (by decide)
/-! subscripts -/
theorem ixL {p : Addr} {xs : List V} {j : Int} (h : SqL K H p xs) (e : atI xs j = some v) (q : Q v H) : rIxL K (.ref p) (.int j) H Q := ⟨p, xs, j, v, rfl, rfl, h, e, q⟩
theorem ixT {p : Addr} {xs : List V} {j : Int} (h : SqT K H p xs) (e : atI xs j = some v) (q : Q v H) : rIxT K (.ref p) (.int j) H Q := ⟨p, xs, j, v, rfl, rfl, h, e, q⟩
theorem setL {p : Addr} {xs : List V} {k : Int} {j : Nat} {v : V} {q : Hp → Prop} (h : H p = some (.lst xs)) (e : ixN xs.length k = some j) (hq : q (upd H p (.lst (xs.set j v)))) : rSetL (.ref p) (.int k) v H q := ⟨p, xs, k, j, rfl, rfl, h, e, hq⟩
theorem gsub {to ti : TE} {t : TSet} {Q : St → Hp → Prop} (h : to σ H fun o H1 => ti σ H1 fun i H2 => t o i v H2 fun H3 => Q σ H3) : gSub to ti t v σ H Q := h
/-! statements -/
/-- a statement whose ways join ahead of the rest -/
def tSeqJ (t u : TS) : TS := tSeq t u
theorem pss_consJ {X : Cx} {st : Stmt} {rest : List Stmt} {t u : TS} (h1 : PS X st t) (h2 : PSs X rest u) : PSs X (st :: rest) (tSeqJ t u) := pss_cons h1 h2
theorem seqJ (J : St → Hp → Prop) (h2 : ∀ σ H, J σ H → u D σ H) (h1 : ∀ N : St → Hp → Prop, (∀ σ H, J σ H → N σ H) → t { D with nx := N } σ H) : tSeqJ t u D σ H := h1 (u D) h2
theorem seqJ' (h : tSeq t u D σ H) : tSeqJ t u D σ H := h
theorem seq (h : t { D with nx := u D } σ H) : tSeq t u D σ H := h
theorem asg {g : TG} (h : te σ H fun x H1 => g x σ H1 D.nx) : tAsg te g D σ H := h
theorem gname {Q : St → Hp → Prop} {σ' : St} (e : σ.set i (some v) = σ') (h : Q σ' H) : gName i v σ H Q := by
  subst e; exact h
def ParK (i j : Nat) (D : Ends) (σ : St) (vs : List V) (H1 : Hp) : Prop := ∃ v w, vs = [v, w] ∧ D.nx ((σ.set i (some v)).set j (some w)) H1
theorem par {i j : Nat} {a : TA} (h : a σ H (ParK i j D σ)) : tPar i j a D σ H := h
theorem par2 {i j : Nat} {v w : V} {σ' : St} (e : (σ.set i (some v)).set j (some w) = σ') (h : D.nx σ' H) : ParK i j D σ [v, w] H := ⟨v, w, rfl, by rw [e]; exact h⟩
theorem aug {ti : TIp} {x : V} (e : σ[i]? = some (some x)) (h : te σ H fun y H1 => ti x y H1 fun z H2 => D.nx (σ.set i (some z)) H2) : tAug i te ti D σ H := ⟨x, e, h⟩
theorem ipI' {f : Int → Int → Int} {a b : Int} (q : Q (.int (f a b)) H) : ipI f (.int a) (.int b) H Q := ⟨a, b, rfl, rfl, q⟩
theorem ifs {c : TT} (h : c σ H fun b H1 => if b = true then t D σ H1 else u D σ H1) : tIfS c t u D σ H := h
theorem ret (h : te σ H D.rt) : tRet te D σ H := h
theorem retN (h : D.rt .non H) : tRetN D σ H := h
theorem next (h : D.nx σ H) : tNext D σ H := h
theorem brk (h : D.bk σ H) : tBreak D σ H := h
theorem drop (h : te σ H fun _ H1 => D.nx σ H1) : tDrop te D σ H := h
theorem bm {T : String} {r : V → List V → Hp → VK → Prop} {to : TE} {a : TA} (h : to σ H fun x H1 => tyV K T x H1 ∧ a σ H1 fun xs H2 => r x xs H2 Q) : tBM K T r to a σ H Q := h
theorem bm0 {T : String} {r : V → List V → Hp → VK → Prop} {to : TE} (h : to σ H fun x H1 => tyV K T x H1 ∧ r x [] H1 Q) : tBM0 K T r to σ H Q := h
theorem app {l : Addr} {xs : List V} {y : V} (h : H l = some (.lst xs)) (z : xs.length < sizeLine) (q : Q .non (upd H l (.lst (xs ++ [y])))) : rAppend (.ref l) [y] H Q := ⟨l, xs, y, rfl, rfl, h, z, q⟩
theorem tyL {p : Addr} {xs : List V} (h : H p = some (.lst xs)) : tyV K "list" (.ref p) H := .inl ⟨rfl, _, SqL.of h⟩
theorem sfld {tv : TE} {f : Str} (h : tv σ H fun y H1 => ta σ H1 fun x H2 => ∃ a C dx fs, x = .ref a ∧ H2 a = some (.ins C dx fs) ∧ Cls K C ∧ NoAttr K C f ∧ fs.length < 1000 ∧ D.nx σ (upd H2 a (.ins C dx (putF f y fs)))) : sFld K ta tv f D σ H := h
theorem sfldaug {tv : TE} {rd : V → V → Hp → VK → Prop} {f : Str} (h : ta σ H fun x H1 => ∃ a C dx fs v, x = .ref a ∧ H1 a = some (.ins C dx fs) ∧ Cls K C ∧ NoAttr K C f ∧ fs.lookup f = some v ∧ tv σ H1 fun y H2 => rd v y H2 fun z H3 => ∃ dx' fs', H3 a = some (.ins C dx' fs') ∧ fs'.length < 1000 ∧ D.nx σ (upd H3 a (.ins C dx' (putF f z fs')))) : sFldAug K ta tv rd f D σ H := h
theorem radd {a b : Int} (q : Q (.int (a + b)) H) : rAdd (.int a) (.int b) H Q := ⟨a, b, rfl, rfl, q⟩
theorem make {C : Addr} {sp : Sp} {dvs : List V} {E : XK} {a : TA} (h : a σ H fun vs H1 => ∀ x dx, H1 x = none → H1 dx = none → dx ≠ x → sp (.ref x :: (vs ++ dvs)) (upd (upd H1 dx (.own x)) x (.ins C dx [])) (fun v H2 => v = .non ∧ Q (.ref x) H2) E) : tMake C sp dvs E a σ H Q := h
/-- while -/
def WhB (W : Nat → St → Hp → Prop) (m : Nat) (tb : TS) (D : Ends) (σ : St) (H1 : Hp) : Prop := ∃ N : St → Hp → Prop, (∀ σ' H', N σ' H' → ∃ m', m' < m ∧ W m' σ' H') ∧ tb { D with nx := N, ct := N, bk := D.nx } σ H1
theorem whb {W : Nat → St → Hp → Prop} {m : Nat} {tb : TS} (h : tb { D with nx := fun σ' H' => ∃ m', m' < m ∧ W m' σ' H', ct := fun σ' H' => ∃ m', m' < m ∧ W m' σ' H', bk := D.nx } σ H) : WhB W m tb D σ H := ⟨_, fun _ _ z => z, h⟩
theorem wh {c : TT} {tb : TS} (W : Nat → St → Hp → Prop) (m : Nat) (h0 : W m σ H) (hs : ∀ m σ H, W m σ H → c σ H fun b H1 => if b = true then WhB W m tb D σ H1 else D.nx σ H1) : tWhile c tb D σ H := ⟨W, ⟨m, h0⟩, hs⟩
/-- calls by values -/
theorem sumL {a : Addr} {ns : List Int} (h : SqL K H a (ns.map V.int)) (q : Q (.int ns.sum) H) : rSum K [.ref a] H Q := ⟨a, ns, rfl, h, q⟩
theorem gcd {a b : Int} (q : Q (.int ((Nat.gcd a.natAbs b.natAbs : Nat) : Int)) H) : rGcd [.int a, .int b] H Q := ⟨a, b, rfl, q⟩
theorem mkN {C : Addr} {sp : Sp} {Q : XK} (h : ∀ a, H a = none → sp [.ref a] (upd H a (exo a C none)) (fun v H2 => v = .non ∧ H2 a = some (exo a C none) ∧ Q (.ref C) none (del H2 a)) (fun _ _ _ => False)) : Sup.tMkN C sp σ H Q := h
theorem gtup {n : Nat} {t : TGs} {a : Addr} {xs : List V} {Q : St → Hp → Prop} (h : SqT K H a xs) (e : xs.length = n) (q : t xs σ H Q) : gTup K n t (.ref a) σ H Q := ⟨a, xs, rfl, h, e, q⟩
theorem gcons {t : TG} {u : TGs} {v : V} {r : List V} {Q : St → Hp → Prop} (q : t v σ H fun σ' H' => u r σ' H' Q) : gCons t u (v :: r) σ H Q := ⟨v, r, rfl, q⟩
theorem gnil {Q : St → Hp → Prop} (q : Q σ H) : gNil [] σ H Q := ⟨rfl, q⟩
theorem lenL {a : Addr} {xs : List V} (h : SqL K H a xs) (q : Q (.int xs.length) H) : rLenN K [.ref a] H Q := ⟨a, xs, rfl, .inl h, q⟩
theorem lenT {a : Addr} {xs : List V} (h : SqT K H a xs) (q : Q (.int xs.length) H) : rLenN K [.ref a] H Q := ⟨a, xs, rfl, .inr h, q⟩
theorem listL {a : Addr} {xs : List V} (h : SqL K H a xs) (q : ∀ p H1, H p = none → Kp [] H H1 → H1 p = some (.lst xs) → Q (.ref p) H1) : rListN K [.ref a] H Q := ⟨a, xs, rfl, .inl h, mk q⟩
theorem isi {A B : String} {x : V} {b : Bool} (ht : TyX K H x (.type A)) (hk : kitB A B = some b) (q : Q (.bl b) H) : rIsi K [x, .ty B] H Q := ⟨x, _, _, _, b, rfl, .ty _, ht, kit_ty hk, q⟩
theorem isiI {B : String} {a : Int} {b : Bool} (hk : kitB "int" B = some b) (q : Q (.bl b) H) : rIsi K [.int a, .ty B] H Q := isi (.base (.int _)) hk q
theorem atM {ns : List Int} {j : Nat} {x : Int} (h : ns[j]? = some x) : atI (ns.map V.int) (j : Int) = some (.int x) := atI_nat (by rw [List.getElem?_map, h]; rfl)
theorem ixN_nat {n j : Nat} (hj : j < n) : ixN n (j : Int) = some j := by
  unfold ixN
  rw [if_pos (by omega), if_pos (by omega)]
  simp
/-- a comprehension, a loop over range(n), over a list -/
def ForK (g : TG) (tb : TS) (D : Ends) (σ : St) (J : It) (H1 : Hp) : Prop := ∃ W : Nat → Nat → St → Hp → Prop, (∃ m, W 0 m σ H1) ∧ ∀ i m σ H, W i m σ H →
  (J.stop i H ∧ D.nx σ H) ∨ (J.go i H ∧ ∃ N : St → Hp → Prop, (∀ σ' H', N σ' H' → ∃ m', m' < m ∧ W (i + 1) m' σ' H') ∧ ∀ x H', J.yld i H x H' → g x σ H' fun σ2 H2 => tb { D with nx := N, ct := N, bk := D.nx } σ2 H2)
def LcK (g : TG) (tt : TT) (te : TE) (vs : List Nat) (σ : St) (Q : VK) (J : It) (H1 : Hp) : Prop := ∀ D, H1 D = none → ∃ W : Nat → Nat → Hp → Prop, (∃ m, W 0 m (upd H1 D (.lst []))) ∧ ∀ i m H, W i m H →
      (J.stop i H ∧ Q (.ref D) H) ∨ (J.go i H ∧ ∃ Nx : Hp → Prop, (∀ H', Nx H' → ∃ m', m' < m ∧ W (i + 1) m' H') ∧ ∀ x H', J.yld i H x H' → g x (wipe σ vs) H' fun σ2 H2 => wipe σ2 vs = wipe σ vs ∧ tt σ2 H2 fun b H3 => if b = true then te σ2 H3 fun y H4 => ∃ acc, H4 D = some (.lst acc) ∧ acc.length < sizeLine ∧ Nx (upd H4 D (.lst (acc ++ [y]))) else Nx H3)
def Rng1K (R : It → Hp → Prop) (vs : List V) (H1 : Hp) : Prop := ∃ j : Int, vs = [.int j] ∧ -(2 ^ 62) ≤ j ∧ j < 2 ^ 62 ∧ R (Itr 0 j.toNat) H1
def ListK (K : PySem.W.Frag) (R : It → Hp → Prop) (x : V) (H1 : Hp) : Prop := ∃ a, x = .ref a ∧ (∃ xs, SqL K H1 a xs) ∧ R (Itl K a) H1
theorem lc {wi : TI} {g : TG} {tt : TT} {vs : List Nat} (h : wi σ H (LcK g tt te vs σ Q)) : tLc wi g tt te vs σ H Q := h
theorem rng1 {a : TA} {R : It → Hp → Prop} (h : a σ H (Rng1K R)) : iRng1 a σ H R := h
theorem ilist {R : It → Hp → Prop} (h : ta σ H (ListK K R)) : iList K ta σ H R := h
theorem for_ {wi : TI} {g : TG} {tb : TS} (h : wi σ H (ForK g tb D σ)) : tFor wi g tb D σ H := h
/-- what one turn of a comprehension asks -/
def LcT (g : TG) (tt : TT) (te : TE) (vs : List Nat) (σ : St) (D : Addr) (P : Hp → Prop) (x : V) (H1 : Hp) : Prop := g x (wipe σ vs) H1 fun σ2 H2 => wipe σ2 vs = wipe σ vs ∧ tt σ2 H2 fun b H3 => if b = true then te σ2 H3 fun y H4 => ∃ acc, H4 D = some (.lst acc) ∧ acc.length < sizeLine ∧ P (upd H4 D (.lst (acc ++ [y]))) else P H3
theorem lcr {g : TG} {tt : TT} {vs : List Nat} {e : Int} (n : Nat) (he : e = (n : Int)) (hb : n < 4611686018427387904) (Pv : Addr → Nat → Hp → Prop) (h0 : ∀ D H1, H D = none → Kp [] H H1 → H1 D = some (.lst []) → Pv D 0 H1)
    (hs : ∀ D i H1, H D = none → i < n → Pv D i H1 → g (.int (i : Int)) (wipe σ vs) H1 fun σ2 H2 => wipe σ2 vs = wipe σ vs ∧ tt σ2 H2 fun b H3 => if b = true then te σ2 H3 fun y H4 => ∃ acc, H4 D = some (.lst acc) ∧ acc.length < sizeLine ∧ Pv D (i + 1) (upd H4 D (.lst (acc ++ [y]))) else Pv D (i + 1) H3)
    (hd : ∀ D H1, H D = none → Pv D n H1 → Q (.ref D) H1) : Rng1K (LcK g tt te vs σ Q) [.int e] H := by
  subst he
  refine ⟨(n : Int), rfl, by omega, by omega, fun D hD => ?_⟩
  rw [show ((n : Int)).toNat = n by simp]
  refine lc_range (lo := 0) (n := n) (Pv D) (h0 D _ hD (Kp.new hD) upd_same) (fun i H1 hi p => ?_) fun H1 p => hd D H1 hD p
  rw [show (0 : Int) + (i : Int) = (i : Int) by omega]
  exact hs D i H1 hD hi p
theorem lcl {g : TG} {tt : TT} {vs : List Nat} {a : Addr} (xs : List V) (hS : SqL K H a xs) (Pv : Addr → Nat → Hp → Prop) (h0 : ∀ D H1, H D = none → Kp [] H H1 → H1 D = some (.lst []) → Pv D 0 H1)
    (hl : ∀ D i H1, H D = none → i ≤ xs.length → Pv D i H1 → SqL K H1 a xs)
    (hs : ∀ D i x H1, H D = none → xs[i]? = some x → Pv D i H1 → g x (wipe σ vs) H1 fun σ2 H2 => wipe σ2 vs = wipe σ vs ∧ tt σ2 H2 fun b H3 => if b = true then te σ2 H3 fun y H4 => ∃ acc, H4 D = some (.lst acc) ∧ acc.length < sizeLine ∧ Pv D (i + 1) (upd H4 D (.lst (acc ++ [y]))) else Pv D (i + 1) H3)
    (hd : ∀ D H1, H D = none → Pv D xs.length H1 → Q (.ref D) H1) : ListK K (LcK g tt te vs σ Q) (.ref a) H :=
  ⟨a, rfl, ⟨xs, hS⟩, fun D hD => lc_list (K := K) (a := a) (xs := xs) (Pv D) (h0 D _ hD (Kp.new hD) upd_same) (fun i H1 hi p => hl D i H1 hD hi p) (fun i x H1 hx p => hs D i x H1 hD hx p) fun H1 p => hd D H1 hD p⟩
/-- over a tuple -/
def TupK (K : PySem.W.Frag) (R : It → Hp → Prop) (x : V) (H1 : Hp) : Prop := ∃ a, x = .ref a ∧ (∃ xs, SqT K H1 a xs) ∧ R (Itt K a) H1
theorem itup {R : It → Hp → Prop} (h : ta σ H (TupK K R)) : iTup K ta σ H R := h
theorem lct {g : TG} {tt : TT} {vs : List Nat} {a : Addr} (xs : List V) (hS : SqT K H a xs) (Pv : Addr → Nat → Hp → Prop) (h0 : ∀ D H1, H D = none → Kp [] H H1 → H1 D = some (.lst []) → Pv D 0 H1)
    (hl : ∀ D i H1, H D = none → i ≤ xs.length → Pv D i H1 → SqT K H1 a xs)
    (hs : ∀ D i x H1, H D = none → xs[i]? = some x → Pv D i H1 → g x (wipe σ vs) H1 fun σ2 H2 => wipe σ2 vs = wipe σ vs ∧ tt σ2 H2 fun b H3 => if b = true then te σ2 H3 fun y H4 => ∃ acc, H4 D = some (.lst acc) ∧ acc.length < sizeLine ∧ Pv D (i + 1) (upd H4 D (.lst (acc ++ [y]))) else Pv D (i + 1) H3)
    (hd : ∀ D H1, H D = none → Pv D xs.length H1 → Q (.ref D) H1) : TupK K (LcK g tt te vs σ Q) (.ref a) H :=
  ⟨a, rfl, ⟨xs, hS⟩, fun D hD => lc_tup (K := K) (a := a) (xs := xs) (Pv D) (h0 D _ hD (Kp.new hD) upd_same) (fun i H1 hi p => hl D i H1 hD hi p) (fun i x H1 hx p => hs D i x H1 hD hx p) fun H1 p => hd D H1 hD p⟩
theorem allL {a : Addr} {bs : List Bool} (h : SqL K H a (bs.map V.bl)) (q : Q (.bl (bs.all id)) H) : rAll K [.ref a] H Q := ⟨a, bs, rfl, h, q⟩
theorem anyL {a : Addr} {bs : List Bool} (h : SqL K H a (bs.map V.bl)) (q : Q (.bl (bs.any id)) H) : rAny K [.ref a] H Q := ⟨a, bs, rfl, h, q⟩
theorem forr {g : TG} {tb : TS} {e : Int} (n : Nat) (he : e = (n : Int)) (hb : n < 4611686018427387904) (Pv : Nat → St → Hp → Prop) (h0 : Pv 0 σ H)
    (hs : ∀ i σ H, i < n → Pv i σ H → g (.int (i : Int)) σ H fun σ2 H2 => tb { D with nx := Pv (i + 1), ct := Pv (i + 1), bk := D.nx } σ2 H2) (hd : ∀ σ H, Pv n σ H → D.nx σ H) : Rng1K (ForK g tb D σ) [.int e] H := by
  subst he
  refine ⟨(n : Int), rfl, by omega, by omega, ?_⟩
  rw [show ((n : Int)).toNat = n by simp]
  refine for_range (lo := 0) (n := n) Pv h0 (fun i σ H1 hi p => ?_) hd
  rw [show (0 : Int) + (i : Int) = (i : Int) by omega]
  exact hs i σ H1 hi p
theorem forl {g : TG} {tb : TS} {a : Addr} (xs : List V) (hS : SqL K H a xs) (Pv : Nat → St → Hp → Prop) (h0 : Pv 0 σ H) (hl : ∀ i σ H, i ≤ xs.length → Pv i σ H → SqL K H a xs)
    (hs : ∀ i x σ H, xs[i]? = some x → Pv i σ H → g x σ H fun σ2 H2 => tb { D with nx := Pv (i + 1), ct := Pv (i + 1), bk := D.nx } σ2 H2) (hd : ∀ σ H, Pv xs.length σ H → D.nx σ H) : ListK K (ForK g tb D σ) (.ref a) H :=
  ⟨a, rfl, ⟨xs, hS⟩, for_list (K := K) (a := a) (xs := xs) Pv h0 hl hs hd⟩
/-! texts -/
def StrK (R : It → Hp → Prop) (v : V) (H1 : Hp) : Prop := ∃ x, v = .str x ∧ R (Its x) H1
theorem istr {R : It → Hp → Prop} (h : ta σ H (StrK R)) : iStr ta σ H R := h
theorem fors {g : TG} {tb : TS} {x : Str} (Pv : Nat → St → Hp → Prop) (h0 : Pv 0 σ H)
    (hs : ∀ i c σ H, x.cps[i]? = some c → Pv i σ H → g (.str ⟨#[c]⟩) σ H fun σ2 H2 => tb { D with nx := Pv (i + 1), ct := Pv (i + 1), bk := D.nx } σ2 H2) (hd : ∀ σ H, Pv x.cps.size σ H → D.nx σ H) : StrK (ForK g tb D σ) (.str x) H :=
  ⟨x, rfl, for_it walk_str Pv h0 (fun _ _ _ _ _ => trivial) (fun i v σ H H' hi p y => by obtain ⟨rfl, c, hc, rfl⟩ := y; exact hs i c σ _ hc p) hd⟩
theorem lcs {g : TG} {tt : TT} {vs : List Nat} {x : Str} (Pv : Addr → Nat → Hp → Prop) (h0 : ∀ D H1, H D = none → Kp [] H H1 → H1 D = some (.lst []) → Pv D 0 H1)
    (hs : ∀ D i c H1, H D = none → x.cps[i]? = some c → Pv D i H1 → g (.str ⟨#[c]⟩) (wipe σ vs) H1 fun σ2 H2 => wipe σ2 vs = wipe σ vs ∧ tt σ2 H2 fun b H3 => if b = true then te σ2 H3 fun y H4 => ∃ acc, H4 D = some (.lst acc) ∧ acc.length < sizeLine ∧ Pv D (i + 1) (upd H4 D (.lst (acc ++ [y]))) else Pv D (i + 1) H3)
    (hd : ∀ D H1, H D = none → Pv D x.cps.size H1 → Q (.ref D) H1) : StrK (LcK g tt te vs σ Q) (.str x) H :=
  ⟨x, rfl, fun D hD => lc_it walk_str (Pv D) (h0 D _ hD (Kp.new hD) upd_same) (fun _ _ _ _ => trivial) (fun i v H H' hi p y => by obtain ⟨rfl, c, hc, rfl⟩ := y; exact hs D i c _ hD hc p) fun H1 p => hd D H1 hD p⟩
theorem lenS {x : Str} (hz : x.cps.size ≤ 10000000) (q : Q (.int (x.cps.size : Nat)) H) : rLenS [.str x] H Q := ⟨x, rfl, hz, q⟩
/-! enumerate -/
def EnumK (K : PySem.W.Frag) (R : It → Hp → Prop) (vs : List V) (H1 : Hp) : Prop := ∃ a xs, vs = [.ref a] ∧ SqL K H1 a xs ∧ R (Ite K a) H1
theorem ienum {a : TA} {R : It → Hp → Prop} (h : a σ H (EnumK K R)) : iEnum K a σ H R := h
theorem fore {g : TG} {tb : TS} {a : Addr} (xs : List V) (hS : SqL K H a xs) (Pv : Nat → St → Hp → Prop) (h0 : Pv 0 σ H) (hl : ∀ i σ H, i ≤ xs.length → Pv i σ H → SqL K H a xs)
    (hs : ∀ i x σ H H' T, xs[i]? = some x → Pv i σ H → H T = none → Kp [] H H' → H' T = some (.tup [.int (i : Nat), x]) → g (.ref T) σ H' fun σ2 H2 => tb { D with nx := Pv (i + 1), ct := Pv (i + 1), bk := D.nx } σ2 H2) (hd : ∀ σ H, Pv xs.length σ H → D.nx σ H) : EnumK K (ForK g tb D σ) [.ref a] H :=
  ⟨a, xs, rfl, hS, for_it (walk_enum (K := K) (a := a) (xs := xs)) Pv h0 hl (fun i v σ H H' hi p y => by
    obtain ⟨T, x, z, rfl, h1, rfl, h2, h3⟩ := y
    cases h2
    exact hs i z σ H _ T h3 p h1 (Kp.new h1) upd_same) hd⟩
/-! dicts -/
theorem dnew (h : ∀ p H1, H p = none → Kp [] H H1 → H1 p = some (.dK []) → Q (.ref p) H1) : tDNewK σ H Q := mk h
theorem din {ty td : TE} (h : ty σ H fun y H1 => td σ H1 fun x H2 => ∃ a o, x = .ref a ∧ DGet H2 a y o ∧ Q (.bl o.isSome) H2) : tDIn ty td σ H Q := h
theorem dput {td ty tv : TE} (h : tv σ H fun v H1 => td σ H1 fun x H2 => ty σ H2 fun y H3 => ∃ a H4, x = .ref a ∧ DPut H3 a y v H4 ∧ D.nx σ H4) : sDPut td ty tv D σ H := h
theorem dget2 {td ty tx : TE} (h : td σ H fun x H1 => ∃ a, x = .ref a ∧ IsD H1 a ∧ ty σ H1 fun y H2 => tx σ H2 fun z H3 => ∃ o, DGet H3 a y o ∧ Q (o.getD z) H3) : tDGet2 td ty tx σ H Q := h
theorem dget {td ty : TE} (h : td σ H fun x H1 => ty σ H1 fun y H2 => ∃ a v, x = .ref a ∧ DGet H2 a y (some v) ∧ Q v H2) : tDGet td ty σ H Q := h
/-! lists and tuples -/
theorem ixA {p : Addr} {xs : List V} {j : Int} (h : SqL K H p xs ∨ SqT K H p xs) (e : atI xs j = some v) (q : Q v H) : rIx K (.ref p) (.int j) H Q := h.elim (fun h => .inl (ixL h e q)) (fun h => .inr (.inl (ixT h e q)))
theorem lenA {a : Addr} {xs : List V} (h : SqL K H a xs ∨ SqT K H a xs) (q : Q (.int xs.length) H) : rLenN K [.ref a] H Q := ⟨a, xs, rfl, h, q⟩
theorem sl {r : V → Option Int → Option Int → Hp → VK → Prop} {tl th : TO} (h : ta σ H fun x H1 => tl σ H1 fun l H2 => th σ H2 fun u H3 => r x l u H3 Q) : tSl r ta tl th σ H Q := h
theorem slno {Q : Option Int → Hp → Prop} (h : Q none H) : tNoPart σ H Q := h
theorem slpart {Q : Option Int → Hp → Prop} (h : ta σ H fun x H1 => ∃ i, x = .int i ∧ Q (some i) H1) : tPart ta σ H Q := h
theorem bint {i : Int} {q : Int → Prop} (h : q i) : ∃ k, V.int i = .int k ∧ q k := ⟨i, rfl, h⟩
theorem slL {p : Addr} {xs : List V} {lo hi : Option Int} (h : SqL K H p xs) (q : ∀ d H1, H d = none → Kp [] H H1 → H1 d = some (.lst (cutV xs lo hi)) → Q (.ref d) H1) : rSlL K (.ref p) lo hi H Q := ⟨p, xs, rfl, h, mk q⟩
theorem cut_take {xs : List V} {k : Nat} (h : k ≤ xs.length) : cutV xs none (some (k : Int)) = xs.take k := by
  unfold cutV
  rw [HT.sIx_none, HT.sIx_nat, List.drop_zero, Nat.sub_zero, Nat.min_eq_left h]
theorem cut_drop {xs : List V} {k : Nat} (h : k ≤ xs.length) : cutV xs (some (k : Int)) none = xs.drop k := by
  unfold cutV
  rw [HT.sIx_none, HT.sIx_nat, Nat.min_eq_left h]
  exact List.take_of_length_le (by rw [List.length_drop] <;> omega)
theorem inq {neg : Bool} {p : Addr} {xs : List V} (h : SqL K H p xs ∨ SqT K H p xs) (fx : flatV x = true) (fs : xs.all flatV = true) (q : Q (.bl (if neg then !inV x xs else inV x xs)) H) : rIn K neg x (.ref p) H Q := ⟨p, xs, rfl, h, fx, fs, q⟩
theorem inV_strs {a : Str} {l : List Str} : inV (.str a) (l.map V.str) = decide (a ∈ l) := by
  unfold inV
  induction l with
  | nil => simp
  | cons b r ih =>
    rw [List.map_cons, List.any_cons, ih]
    show ((b == a) || _) = _
    by_cases e : b = a
    · subst e; simp
    · have e' : ¬ a = b := fun z => e z.symm
      simp [e, e']
theorem strs_flat {l : List Str} : (l.map V.str).all flatV = true := by simp [flatV]
theorem pop {l : Addr} {xs : List V} {y : V} (h : H l = some (.lst xs)) (e : xs[xs.length - 1]? = some y) (q : Q y (upd H l (.lst xs.dropLast))) : rPop (.ref l) [] H Q := ⟨l, xs, y, rfl, rfl, h, e, q⟩
def LRK (K : PySem.W.Frag) (Q : VK) (x : V) (H1 : Hp) : Prop := ∃ a xs, x = .ref a ∧ SqL K H1 a xs ∧ ∀ p, H1 p = none → Q (.ref p) (upd H1 p (.lst xs.reverse))
theorem listrev (h : ta σ H (LRK K Q)) : RL.tListRev K ta σ H Q := h
theorem lrk {a : Addr} {xs : List V} (hS : SqL K H a xs) (q : ∀ p H1, H p = none → Kp [] H H1 → H1 p = some (.lst xs.reverse) → Q (.ref p) H1) : LRK K Q (.ref a) H := ⟨a, xs, rfl, hS, mk q⟩
theorem popS {l : Addr} {xs : List V} {y : V} (h : H l = some (.lst (xs ++ [y]))) (q : Q y (upd H l (.lst xs))) : rPop (.ref l) [] H Q := ⟨l, _, y, rfl, rfl, h, by simp, by rw [List.dropLast_concat]; exact q⟩
theorem extT {l b : Addr} {xs zs : List V} (h : H l = some (.lst xs)) (h2 : H b = some (.tup zs)) (hz : xs.length + zs.length ≤ 10000000) (q : Q .non (upd H l (.lst (xs ++ zs)))) : RL.rExtT (.ref l) [.ref b] H Q := ⟨l, b, xs, zs, rfl, rfl, h, h2, Nat.le_trans hz (by decide), q⟩
theorem slT {p : Addr} {xs : List V} {k : Nat} (h : SqT K H p xs) (h0 : 0 < k) (h1 : k ≤ xs.length) (q : ∀ d H1, H d = none → Kp [] H H1 → H1 d = some (.tup (xs.drop k)) → Q (.ref d) H1) : rSlT K (.ref p) (some (k : Int)) none H Q := ⟨p, xs, rfl, h, fun z => by
  rw [HT.sIx_nat, Nat.min_eq_left h1] at z
  omega, mk (by rw [cut_drop h1]; exact q)⟩
theorem revl (h : ta σ H (LRK K Q)) : tRevL K ta σ H Q := h
theorem idx {a : Addr} {ys : List V} {y : V} (j : Nat) {z : V} (hS : SqL K H a ys) (fy : flatV y = true) (fs : ys.all flatV = true) (hz : ys[j]? = some z) (hy : eqV z y = true) (hn : ∀ (m : Nat) (z' : V), m < j → ys[m]? = some z' → eqV z' y = false) (q : Q (.int (j : Nat)) H) : rIndex K (.ref a) [y] H Q := ⟨a, ys, y, j, z, rfl, rfl, hS, fy, fs, hz, hy, hn, q⟩
theorem truL {p : Addr} {xs : List V} {q : Bool → Prop} (h : H p = some (.lst xs)) (hq : q (!xs.isEmpty)) : ∃ k, TruV K (.ref p) H k ∧ q k := ⟨_, .inl ⟨xs, lstL h, rfl⟩, hq⟩
theorem glst {n : Nat} {t : TGs} {a : Addr} {xs : List V} {Q : St → Hp → Prop} (h : SqL K H a xs) (e : xs.length = n) (q : t xs σ H Q) : gLst K n t (.ref a) σ H Q := ⟨a, xs, rfl, h, e, q⟩
def rSplitQ : V → List V → Hp → VK → Prop := fun x xs H Q => ∃ a b, x = .str a ∧ xs = [.str b] ∧ (b.length == 0) = false ∧ a.length + 2 ≤ sizeLine ∧ rNewStrs (Txt.split a b) H Q
theorem m_split {X : Cx} : MtR X "str.split" rSplitQ := mt_split
theorem split {a b : Str} (hb : (b.length == 0) = false) (hz : a.length ≤ 10000000) (q : ∀ p H1, H p = none → Kp [] H H1 → H1 p = some (.lst ((Txt.split a b).map V.str)) → Q (.ref p) H1) : rSplitQ (.str a) [.str b] H Q := ⟨a, b, rfl, rfl, hb, Nat.le_trans (Nat.add_le_add_right hz 2) (by decide), mk q⟩
def EnSK (K : PySem.W.Frag) (R : It → Hp → Prop) (vs zs : List V) (H2 : Hp) : Prop := ∃ a xs k, vs = [.ref a] ∧ zs = [.int k] ∧ -(2 ^ 63) ≤ k ∧ k < 2 ^ 63 ∧ SqL K H2 a xs ∧ R (RL.IteS K a k) H2
theorem ienumS {a b : TA} {R : It → Hp → Prop} (h : a σ H fun vs H1 => b σ H1 fun zs H2 => EnSK K R vs zs H2) : RL.iEnumS K a b σ H R := h
theorem walk_enumS {a : Addr} {xs : List V} {k : Int} : Walk (RL.IteS K a k) xs.length (fun H => SqL K H a xs) (YPair (fun i => some (.int (k + (i : Nat)))) (fun i => xs[i]?)) := by
  refine ⟨fun i _ hi q => ⟨xs, xs[i], q, by simp [hi]⟩, fun _ q => ⟨xs, q, rfl⟩, fun i H v H' _ q y => ?_⟩
  obtain ⟨T, x, h1, h2, h3, h4⟩ := y
  exact ⟨T, .int (k + (i : Nat)), x, h1, h2, h3, rfl, h4 xs q⟩
theorem fores {g : TG} {tb : TS} {a : Addr} {k : Int} (xs : List V) (hk0 : -(2 ^ 63) ≤ k) (hk1 : k < 2 ^ 63) (hS : SqL K H a xs) (Pv : Nat → St → Hp → Prop) (h0 : Pv 0 σ H) (hl : ∀ i σ H, i ≤ xs.length → Pv i σ H → SqL K H a xs)
    (hs : ∀ i x σ H H' T, xs[i]? = some x → Pv i σ H → H T = none → Kp [] H H' → H' T = some (.tup [.int (k + (i : Nat)), x]) → g (.ref T) σ H' fun σ2 H2 => tb { D with nx := Pv (i + 1), ct := Pv (i + 1), bk := D.nx } σ2 H2) (hd : ∀ σ H, Pv xs.length σ H → D.nx σ H) : EnSK K (ForK g tb D σ) [.ref a] [.int k] H :=
  ⟨a, xs, k, rfl, rfl, hk0, hk1, hS, for_it (walk_enumS (K := K) (a := a) (xs := xs) (k := k)) Pv h0 hl (fun i v σ H H' hi p y => by
    obtain ⟨T, x, z, rfl, h1, rfl, h2, h3⟩ := y
    cases h2
    exact hs i z σ H _ T h3 p h1 (Kp.new h1) upd_same) hd⟩
/-- an f-string of two parts or more -/
def tJoin (ts : List TE) : TE := fun σ H Q => tJs ts Str.empty σ H fun out H1 => Q (.str out) H1
theorem pe_joinedN {X : Cx} {v1 v2 : Expr} {rest : List Expr} {ts : List TE} {pos : Pos} (h : PJ X (v1 :: v2 :: rest) ts) : PE X (.JoinedStr (v1 :: v2 :: rest) pos) (tJoin ts) := pe_joined h
def rJoinQ (K : PySem.W.Frag) : V → List V → Hp → VK → Prop := fun x xs H Q => ∃ a p, ∃ ys : List Str, x = .str a ∧ xs = [.ref p] ∧ (SqL K H p (ys.map V.str) ∨ SqT K H p (ys.map V.str)) ∧ (ys.map (·.length)).sum + ys.length * a.length ≤ 16777216 ∧ Q (.str (Txt.join a ys)) H
theorem m_join {X : Cx} : MtR X "str.join" (rJoinQ X.K) := mt_join
theorem join {a : Str} {p : Addr} {ys : List Str} (h : SqL K H p (ys.map V.str)) (hz : (ys.map (·.length)).sum + ys.length * a.length ≤ 16777216) (q : Q (.str (Txt.join a ys)) H) : rJoinQ K (.str a) [.ref p] H Q := ⟨a, p, ys, rfl, rfl, .inl h, hz, q⟩
theorem lens_le {n : Nat} : ∀ {ys : List Str}, (∀ y ∈ ys, y.length ≤ n) → (ys.map (·.length)).sum ≤ n * ys.length
  | [], _ => by simp
  | y :: r, h => by
    have h1 := h y (by simp)
    have h2 := lens_le (n := n) (ys := r) fun z hz => h z (by simp [hz])
    rw [List.map_cons, List.sum_cons, List.length_cons, Nat.mul_add]
    omega
theorem mulS {x : Str} {k : Nat} (h1 : 2 ≤ k) (h2 : k ≤ 100000) (h3 : 1 ≤ x.length) (h4 : x.length ≤ 100) (q : Q (.str (RL.repS x k)) H) : RL.rMulS (.str x) (.int (k : Int)) H Q := ⟨x, k, rfl, rfl, h1, h2, h3, h4, q⟩
theorem cat {l b : Addr} {xs zs : List V} (h : H l = some (.lst xs)) (h2 : H b = some (.lst zs)) (hz : xs.length + zs.length ≤ 100000) (q : ∀ p H1, H p = none → Kp [] H H1 → H1 p = some (.lst (xs ++ zs)) → Q (.ref p) H1) : rCat (.ref l) (.ref b) H Q := ⟨l, b, xs, zs, rfl, rfl, h, h2, Nat.le_trans hz (by decide), mk q⟩
end
end Z

/-! ### zip of two lists of one length -/
namespace Z
open PySem L2
section
variable {σ : St} {H : Hp} {Q : VK} {te : TE} {D : Ends} {K : PySem.W.Frag}
def ZipK (K : PySem.W.Frag) (R : It → Hp → Prop) (vs : List V) (H1 : Hp) : Prop := ∃ a b xs ys, vs = [.ref a, .ref b] ∧ SqL K H1 a xs ∧ SqL K H1 b ys ∧ R (Itz K a b) H1
theorem izip {a : TA} {R : It → Hp → Prop} (h : a σ H (ZipK K R)) : iZip K a σ H R := h
theorem forz {g : TG} {tb : TS} {a b : Addr} (xs ys : List V) (hn : xs.length = ys.length) (hS : SqL K H a xs) (hS2 : SqL K H b ys) (Pv : Nat → St → Hp → Prop) (h0 : Pv 0 σ H) (hl : ∀ i σ H, i ≤ xs.length → Pv i σ H → SqL K H a xs ∧ SqL K H b ys)
    (hs : ∀ i x y σ H H' T, xs[i]? = some x → ys[i]? = some y → Pv i σ H → H T = none → Kp [] H H' → H' T = some (.tup [x, y]) → g (.ref T) σ H' fun σ2 H2 => tb { D with nx := Pv (i + 1), ct := Pv (i + 1), bk := D.nx } σ2 H2) (hd : ∀ σ H, Pv xs.length σ H → D.nx σ H) : ZipK K (ForK g tb D σ) [.ref a, .ref b] H :=
  ⟨a, b, xs, ys, rfl, hS, hS2, for_it (walk_zip (K := K) (a := a) (b := b) (xs := xs) (ys := ys) (n := xs.length) (by omega)) Pv h0 hl (fun i v σ H H' hi p y => by
    obtain ⟨T, x, z, rfl, h1, rfl, h2, h3⟩ := y
    exact hs i x z σ H _ T h2 h3 p h1 (Kp.new h1) upd_same) hd⟩
theorem lcz {g : TG} {tt : TT} {vs : List Nat} {a b : Addr} (xs ys : List V) (hn : xs.length = ys.length) (hS : SqL K H a xs) (hS2 : SqL K H b ys) (Pv : Addr → Nat → Hp → Prop) (h0 : ∀ D H1, H D = none → Kp [] H H1 → H1 D = some (.lst []) → Pv D 0 H1)
    (hl : ∀ D i H1, H D = none → Pv D i H1 → SqL K H1 a xs ∧ SqL K H1 b ys)
    (hs : ∀ D i x y H1 H1' T, H D = none → xs[i]? = some x → ys[i]? = some y → Pv D i H1 → H1 T = none → Kp [] H1 H1' → H1' T = some (.tup [x, y]) → g (.ref T) (wipe σ vs) H1' fun σ2 H2 => wipe σ2 vs = wipe σ vs ∧ tt σ2 H2 fun b H3 => if b = true then te σ2 H3 fun y H4 => ∃ acc, H4 D = some (.lst acc) ∧ acc.length < sizeLine ∧ Pv D (i + 1) (upd H4 D (.lst (acc ++ [y]))) else Pv D (i + 1) H3)
    (hd : ∀ D H1, H D = none → Pv D xs.length H1 → Q (.ref D) H1) : ZipK K (LcK g tt te vs σ Q) [.ref a, .ref b] H :=
  ⟨a, b, xs, ys, rfl, hS, hS2, fun D hD => lc_it (walk_zip (K := K) (a := a) (b := b) (xs := xs) (ys := ys) (n := xs.length) (by omega)) (Pv D) (h0 D _ hD (Kp.new hD) upd_same) (fun _ _ _ p => hl D _ _ hD p) (fun i v H H' hi p y => by
    obtain ⟨T, x, z, rfl, h1, rfl, h2, h3⟩ := y
    exact hs D i x z H _ T hD h2 h3 p h1 (Kp.new h1) upd_same) fun H1 p => hd D H1 hD p⟩
end
end Z

namespace Z
open PySem L2
/-- what is never reached -/
def tDead : TS := fun _ _ _ => False
theorem ps_dead {X : Cx} {s : Stmt} : PS X s tDead := ⟨fun _ _ _ _ _ _ h => h.elim⟩
theorem u65 {k : Nat} {A : Around} (hr : Room k A) : A.units + 65 < cLine := by have := hr.un; omega
end Z

namespace Z
open PySem L2
/-! range(lo, e) -/
def Rng2K (R : It → Hp → Prop) (vs : List V) (H1 : Hp) : Prop := ∃ i j : Int, vs = [.int i, .int j] ∧ (-(2 ^ 62) ≤ i ∧ i < 2 ^ 62 ∧ -(2 ^ 62) ≤ j ∧ j < 2 ^ 62) ∧ R (Itr i (j - i).toNat) H1
theorem irng2 {a : TA} {σ : L2.St} {H : Hp} {R : It → Hp → Prop} (h : a σ H (Rng2K R)) : iRng2 a σ H R := h
theorem forr2 {σ : L2.St} {H : Hp} {D : Ends} {g : TG} {tb : TS} {lo e : Int} (n : Nat) (he : (e - lo).toNat = n) (hb : -1000000 ≤ lo ∧ lo ≤ 1000000 ∧ -1000000 ≤ e ∧ e ≤ 1000000) (Pv : Nat → L2.St → Hp → Prop) (h0 : Pv 0 σ H)
    (hs : ∀ i σ H, i < n → Pv i σ H → g (.int (lo + (i : Int))) σ H fun σ2 H2 => tb { D with nx := Pv (i + 1), ct := Pv (i + 1), bk := D.nx } σ2 H2) (hd : ∀ σ H, Pv n σ H → D.nx σ H) : Rng2K (ForK g tb D σ) [.int lo, .int e] H := by
  refine ⟨lo, e, rfl, ⟨by omega, by omega, by omega, by omega⟩, ?_⟩
  rw [he]
  exact for_range (lo := lo) (n := n) Pv h0 (fun i σ H1 hi p => hs i σ H1 hi p) hd
end Z

/-! ### xs[i] += y; comprehensions over range(lo, hi) -/
namespace Z
open PySem L2 PySem.Spec PyProof.Rows
theorem pget_list {X : Cx} : PGet X (rIxL X.K) := by
  rintro pins s σ H _ _ v u Q I rx ry ⟨p, xs, i, z, rfl, rfl, hS, hz, q⟩
  obtain rfl : v = Value.ref p := by cases rx; rfl
  obtain ⟨tok, rfl⟩ := ry
  have ⟨items, vals, plain, _⟩ := I.list hS
  have ⟨k, k1, k2, k3, k4, k5⟩ := atI_get hz
  have ⟨val, hval, rel⟩ := vals.get k2
  have len := vals.length
  have big := line63
  have done : EP X pins σ Q val s := ⟨z, H, I, rel, q⟩
  rcases Int.lt_or_le i 0 with neg | pos
  · rw [seqIndex_neg neg k4] at k1
    have ek := Option.some.inj k1
    refine wpAny_getItem_list_neg plain.isList neg (by rw [List.size_toArray]; omega) (by omega) ?_ done
    rw [List.size_toArray, ← len, ek]
    simpa using hval
  · rw [seqIndex_of pos k5] at k1
    have ek := Option.some.inj k1
    refine wpAny_getItem_list plain.isList pos (by omega) ?_ done
    rw [ek]
    simpa using hval
theorem augs {σ : L2.St} {H : Hp} {D : Ends} {to ti te : TE} {tget : V → V → Hp → VK → Prop} {tip : TIp} {tset : TSet} (h : to σ H fun o H1 => ti σ H1 fun i H2 => tget o i H2 fun x H3 => te σ H3 fun y H4 => tip x y H4 fun z H5 => tset o i z H5 fun H6 => D.nx σ H6) : tAugS to ti te tget tip tset D σ H := h
theorem lcr2 {σ : L2.St} {H : Hp} {Q : VK} {te : TE} {g : TG} {tt : TT} {vs : List Nat} {lo e : Int} (n : Nat) (he : (e - lo).toNat = n) (hb : -1000000 ≤ lo ∧ lo ≤ 1000000 ∧ -1000000 ≤ e ∧ e ≤ 1000000) (Pv : Addr → Nat → Hp → Prop) (h0 : ∀ D H1, H D = none → Kp [] H H1 → H1 D = some (.lst []) → Pv D 0 H1)
    (hs : ∀ D i H1, H D = none → i < n → Pv D i H1 → g (.int (lo + (i : Int))) (wipe σ vs) H1 fun σ2 H2 => wipe σ2 vs = wipe σ vs ∧ tt σ2 H2 fun b H3 => if b = true then te σ2 H3 fun y H4 => ∃ acc, H4 D = some (.lst acc) ∧ acc.length < sizeLine ∧ Pv D (i + 1) (upd H4 D (.lst (acc ++ [y]))) else Pv D (i + 1) H3)
    (hd : ∀ D H1, H D = none → Pv D n H1 → Q (.ref D) H1) : Rng2K (LcK g tt te vs σ Q) [.int lo, .int e] H := by
  refine ⟨lo, e, rfl, ⟨by omega, by omega, by omega, by omega⟩, ?_⟩
  rw [he]
  exact fun D hD => lc_it (walk_range (lo := lo) (n := n)) (Pv D) (h0 D _ hD (Kp.new hD) upd_same) (fun _ _ _ _ => trivial) (fun i v H H' hi p y => by
    obtain ⟨rfl, rfl⟩ := y
    exact hs D i _ hD hi p) fun H1 p => hd D H1 hD p
end Z


namespace K54
open PySem L2 Z
def topS (i : Nat) : Stmt := PySem.Challenge.pw_samphire_k54_whole_places_for_strata.main.body.getD i (.Pass ⟨0, 0, 0, 0⟩)
abbrev s_lowest : Stmt := topS 7
abbrev N_lowest : List Str := ["p", "q", "common"]
theorem sc_lowest : FnScope N_lowest ["p", "q"] (defScope s_lowest) := ⟨rfl, rfl, rfl, by decide +kernel, rfl, by decide +kernel, by decide +kernel⟩
abbrev s_plus : Stmt := topS 8
abbrev N_plus : List Str := ["a", "b"]
theorem sc_plus : FnScope N_plus ["a", "b"] (defScope s_plus) := ⟨rfl, rfl, rfl, by decide +kernel, rfl, by decide +kernel, by decide +kernel⟩
abbrev s_minus : Stmt := topS 9
abbrev N_minus : List Str := ["a", "b"]
theorem sc_minus : FnScope N_minus ["a", "b"] (defScope s_minus) := ⟨rfl, rfl, rfl, by decide +kernel, rfl, by decide +kernel, by decide +kernel⟩
abbrev s_times : Stmt := topS 10
abbrev N_times : List Str := ["a", "b"]
theorem sc_times : FnScope N_times ["a", "b"] (defScope s_times) := ⟨rfl, rfl, rfl, by decide +kernel, rfl, by decide +kernel, by decide +kernel⟩
abbrev s_over : Stmt := topS 11
abbrev N_over : List Str := ["a", "b"]
theorem sc_over : FnScope N_over ["a", "b"] (defScope s_over) := ⟨rfl, rfl, rfl, by decide +kernel, rfl, by decide +kernel, by decide +kernel⟩
abbrev s_less : Stmt := topS 12
abbrev N_less : List Str := ["a", "b"]
theorem sc_less : FnScope N_less ["a", "b"] (defScope s_less) := ⟨rfl, rfl, rfl, by decide +kernel, rfl, by decide +kernel, by decide +kernel⟩
abbrev s_sum_of : Stmt := topS 13
abbrev N_sum_of : List Str := ["fractions", "total", "fraction"]
theorem sc_sum_of : FnScope N_sum_of ["fractions"] (defScope s_sum_of) := ⟨rfl, rfl, rfl, by decide +kernel, rfl, by decide +kernel, by decide +kernel⟩
abbrev s_is_deal : Stmt := topS 15
abbrev N_is_deal : List Str := ["limits", "places", "numbers", "number", "limit"]
theorem sc_is_deal : FnScope N_is_deal ["limits", "places", "numbers"] (defScope s_is_deal) := ⟨rfl, rfl, rfl, by decide +kernel, rfl, by decide +kernel, by decide +kernel⟩
abbrev s_variance_of : Stmt := topS 16
abbrev N_variance_of : List Str := ["costs", "deal", "cost", "number"]
theorem sc_variance_of : FnScope N_variance_of ["costs", "deal"] (defScope s_variance_of) := ⟨rfl, rfl, rfl, by decide +kernel, rfl, by decide +kernel, by decide +kernel⟩
abbrev s_fall : Stmt := topS 17
abbrev N_fall : List Str := ["cost", "number"]
theorem sc_fall : FnScope N_fall ["cost", "number"] (defScope s_fall) := ⟨rfl, rfl, rfl, by decide +kernel, rfl, by decide +kernel, by decide +kernel⟩
abbrev s_steepest : Stmt := topS 18
abbrev N_steepest : List Str := ["falls", "limits", "numbers", "found", "stratum", "number"]
theorem sc_steepest : FnScope N_steepest ["falls", "limits", "numbers"] (defScope s_steepest) := ⟨rfl, rfl, rfl, by decide +kernel, rfl, by decide +kernel, by decide +kernel⟩
abbrev s_deal : Stmt := topS 19
abbrev N_deal : List Str := ["costs", "limits", "places", "numbers", "falls", "price", "stratum", "_", "cost"]
theorem sc_deal : FnScope N_deal ["costs", "limits", "places"] (defScope s_deal) := ⟨rfl, rfl, rfl, by decide +kernel, rfl, by decide +kernel, by decide +kernel⟩
abbrev s_least_value : Stmt := topS 20
abbrev N_least_value : List Str := ["cost", "limit", "price", "found", "number", "value"]
theorem sc_least_value : FnScope N_least_value ["cost", "limit", "price"] (defScope s_least_value) := ⟨rfl, rfl, rfl, by decide +kernel, rfl, by decide +kernel, by decide +kernel⟩
abbrev s_deal_bound : Stmt := topS 21
abbrev N_deal_bound : List Str := ["costs", "limits", "places", "price", "values", "cost", "limit"]
theorem sc_deal_bound : FnScope N_deal_bound ["costs", "limits", "places", "price"] (defScope s_deal_bound) := ⟨rfl, rfl, rfl, by decide +kernel, rfl, by decide +kernel, by decide +kernel⟩
abbrev s__law_mix : Stmt := topS 23
abbrev N__law_mix : List Str := ["number", "k"]
theorem sc__law_mix : FnScope N__law_mix ["number", "k"] (defScope s__law_mix) := ⟨rfl, rfl, rfl, by decide +kernel, rfl, by decide +kernel, by decide +kernel⟩
abbrev s__law_numbers : Stmt := topS 24
abbrev N__law_numbers : List Str := ["script", "count", "row", "base", "cell", "rest", "k"]
theorem sc__law_numbers : FnScope N__law_numbers ["script", "count"] (defScope s__law_numbers) := ⟨rfl, rfl, rfl, by decide +kernel, rfl, by decide +kernel, by decide +kernel⟩
abbrev s__law_take : Stmt := topS 25
abbrev N__law_take : List Str := ["row", "bound"]
theorem sc__law_take : FnScope N__law_take ["row", "bound"] (defScope s__law_take) := ⟨rfl, rfl, rfl, by decide +kernel, rfl, by decide +kernel, by decide +kernel⟩
abbrev s__law_low : Stmt := topS 26
abbrev N__law_low : List Str := ["p", "q", "first", "second"]
theorem sc__law_low : FnScope N__law_low ["p", "q"] (defScope s__law_low) := ⟨rfl, rfl, rfl, by decide +kernel, rfl, by decide +kernel, by decide +kernel⟩
abbrev s__law_plus : Stmt := topS 27
abbrev N__law_plus : List Str := ["one", "other"]
theorem sc__law_plus : FnScope N__law_plus ["one", "other"] (defScope s__law_plus) := ⟨rfl, rfl, rfl, by decide +kernel, rfl, by decide +kernel, by decide +kernel⟩
abbrev s__law_times : Stmt := topS 28
abbrev N__law_times : List Str := ["one", "other"]
theorem sc__law_times : FnScope N__law_times ["one", "other"] (defScope s__law_times) := ⟨rfl, rfl, rfl, by decide +kernel, rfl, by decide +kernel, by decide +kernel⟩
abbrev s__law_less : Stmt := topS 29
abbrev N__law_less : List Str := ["one", "other"]
theorem sc__law_less : FnScope N__law_less ["one", "other"] (defScope s__law_less) := ⟨rfl, rfl, rfl, by decide +kernel, rfl, by decide +kernel, by decide +kernel⟩
abbrev s__law_variance : Stmt := topS 30
abbrev N__law_variance : List Str := ["costs", "numbers", "found", "k"]
theorem sc__law_variance : FnScope N__law_variance ["costs", "numbers"] (defScope s__law_variance) := ⟨rfl, rfl, rfl, by decide +kernel, rfl, by decide +kernel, by decide +kernel⟩
abbrev s__law_deals : Stmt := topS 31
abbrev N__law_deals : List Str := ["limits", "places", "found", "limit", "longer", "one", "number"]
theorem sc__law_deals : FnScope N__law_deals ["limits", "places"] (defScope s__law_deals) := ⟨rfl, rfl, rfl, by decide +kernel, rfl, by decide +kernel, by decide +kernel⟩
abbrev s__law_fall : Stmt := topS 32
abbrev N__law_fall : List Str := ["cost", "number"]
theorem sc__law_fall : FnScope N__law_fall ["cost", "number"] (defScope s__law_fall) := ⟨rfl, rfl, rfl, by decide +kernel, rfl, by decide +kernel, by decide +kernel⟩
abbrev s__law_greedy : Stmt := topS 33
abbrev N__law_greedy : List Str := ["costs", "limits", "places", "numbers", "price", "turn", "chosen", "k", "by", "limit"]
theorem sc__law_greedy : FnScope N__law_greedy ["costs", "limits", "places"] (defScope s__law_greedy) := ⟨rfl, rfl, rfl, by decide +kernel, rfl, by decide +kernel, by decide +kernel⟩
abbrev s__law_bound : Stmt := topS 34
abbrev N__law_bound : List Str := ["costs", "limits", "places", "price", "bound", "k", "best", "number", "term"]
theorem sc__law_bound : FnScope N__law_bound ["costs", "limits", "places", "price"] (defScope s__law_bound) := ⟨rfl, rfl, rfl, by decide +kernel, rfl, by decide +kernel, by decide +kernel⟩
abbrev s__law_told : Stmt := topS 35
abbrev N__law_told : List Str := ["costs", "limits", "places"]
theorem sc__law_told : FnScope N__law_told ["costs", "limits", "places"] (defScope s__law_told) := ⟨rfl, rfl, rfl, by decide +kernel, rfl, by decide +kernel, by decide +kernel⟩
abbrev s_law : Stmt := topS 36
abbrev N_law : List Str := ["script", "row", "costs", "limits", "places", "given", "bounds", "told", "deals", "least", "numbers", "turn", "price", "bound", "k", "cost", "limit"]
theorem sc_law : FnScope N_law ["script"] (defScope s_law) := ⟨rfl, rfl, rfl, by decide +kernel, rfl, by decide +kernel, by decide +kernel⟩
abbrev s_ZeroDenominator_init : Stmt := inClass (topS 3) 0
abbrev N_ZeroDenominator_init : List Str := ["self", "__class__"]
theorem sc_ZeroDenominator_init : NdefX.NScope N_ZeroDenominator_init ["self"] ["__class__"] (defScope s_ZeroDenominator_init) := NdefX.nscope_by (by decide +kernel)
abbrev NF_ZeroDenominator (cc c : Addr) : NdefX.NF := ⟨"__init__", "ZeroDenominator.__init__", defArgs s_ZeroDenominator_init, defBody s_ZeroDenominator_init, defScope s_ZeroDenominator_init, [(("__class__" : Str), cc)], c⟩
abbrev s_NoDeal_init : Stmt := inClass (topS 4) 0
abbrev N_NoDeal_init : List Str := ["self", "__class__"]
theorem sc_NoDeal_init : NdefX.NScope N_NoDeal_init ["self"] ["__class__"] (defScope s_NoDeal_init) := NdefX.nscope_by (by decide +kernel)
abbrev NF_NoDeal (cc c : Addr) : NdefX.NF := ⟨"__init__", "NoDeal.__init__", defArgs s_NoDeal_init, defBody s_NoDeal_init, defScope s_NoDeal_init, [(("__class__" : Str), cc)], c⟩
structure T (P : Program) (K : PySem.W.Frag) (mg : Str → Option Value) where
  a_lowest : Addr
  fd_lowest : FuncData
  F_lowest : Fun K "lowest" "lowest" s_lowest a_lowest fd_lowest
  b_lowest : Binds K fd_lowest ["p", "q"] []
  g_lowest : mg "lowest" = some (.ref a_lowest)
  a_plus : Addr
  fd_plus : FuncData
  F_plus : Fun K "plus" "plus" s_plus a_plus fd_plus
  b_plus : Binds K fd_plus ["a", "b"] []
  g_plus : mg "plus" = some (.ref a_plus)
  a_minus : Addr
  fd_minus : FuncData
  F_minus : Fun K "minus" "minus" s_minus a_minus fd_minus
  b_minus : Binds K fd_minus ["a", "b"] []
  g_minus : mg "minus" = some (.ref a_minus)
  a_times : Addr
  fd_times : FuncData
  F_times : Fun K "times" "times" s_times a_times fd_times
  b_times : Binds K fd_times ["a", "b"] []
  g_times : mg "times" = some (.ref a_times)
  a_over : Addr
  fd_over : FuncData
  F_over : Fun K "over" "over" s_over a_over fd_over
  b_over : Binds K fd_over ["a", "b"] []
  g_over : mg "over" = some (.ref a_over)
  a_less : Addr
  fd_less : FuncData
  F_less : Fun K "less" "less" s_less a_less fd_less
  b_less : Binds K fd_less ["a", "b"] []
  g_less : mg "less" = some (.ref a_less)
  a_sum_of : Addr
  fd_sum_of : FuncData
  F_sum_of : Fun K "sum_of" "sum_of" s_sum_of a_sum_of fd_sum_of
  b_sum_of : Binds K fd_sum_of ["fractions"] []
  g_sum_of : mg "sum_of" = some (.ref a_sum_of)
  a_is_deal : Addr
  fd_is_deal : FuncData
  F_is_deal : Fun K "is_deal" "is_deal" s_is_deal a_is_deal fd_is_deal
  b_is_deal : Binds K fd_is_deal ["limits", "places", "numbers"] []
  g_is_deal : mg "is_deal" = some (.ref a_is_deal)
  a_variance_of : Addr
  fd_variance_of : FuncData
  F_variance_of : Fun K "variance_of" "variance_of" s_variance_of a_variance_of fd_variance_of
  b_variance_of : Binds K fd_variance_of ["costs", "deal"] []
  g_variance_of : mg "variance_of" = some (.ref a_variance_of)
  a_fall : Addr
  fd_fall : FuncData
  F_fall : Fun K "fall" "fall" s_fall a_fall fd_fall
  b_fall : Binds K fd_fall ["cost", "number"] []
  g_fall : mg "fall" = some (.ref a_fall)
  a_steepest : Addr
  fd_steepest : FuncData
  F_steepest : Fun K "steepest" "steepest" s_steepest a_steepest fd_steepest
  b_steepest : Binds K fd_steepest ["falls", "limits", "numbers"] []
  g_steepest : mg "steepest" = some (.ref a_steepest)
  a_deal : Addr
  fd_deal : FuncData
  F_deal : Fun K "deal" "deal" s_deal a_deal fd_deal
  b_deal : Binds K fd_deal ["costs", "limits", "places"] []
  g_deal : mg "deal" = some (.ref a_deal)
  a_least_value : Addr
  fd_least_value : FuncData
  F_least_value : Fun K "least_value" "least_value" s_least_value a_least_value fd_least_value
  b_least_value : Binds K fd_least_value ["cost", "limit", "price"] []
  g_least_value : mg "least_value" = some (.ref a_least_value)
  a_deal_bound : Addr
  fd_deal_bound : FuncData
  F_deal_bound : Fun K "deal_bound" "deal_bound" s_deal_bound a_deal_bound fd_deal_bound
  b_deal_bound : Binds K fd_deal_bound ["costs", "limits", "places", "price"] []
  g_deal_bound : mg "deal_bound" = some (.ref a_deal_bound)
  a__law_mix : Addr
  fd__law_mix : FuncData
  F__law_mix : Fun K "_law_mix" "_law_mix" s__law_mix a__law_mix fd__law_mix
  b__law_mix : Binds K fd__law_mix ["number", "k"] []
  g__law_mix : mg "_law_mix" = some (.ref a__law_mix)
  a__law_numbers : Addr
  fd__law_numbers : FuncData
  F__law_numbers : Fun K "_law_numbers" "_law_numbers" s__law_numbers a__law_numbers fd__law_numbers
  b__law_numbers : Binds K fd__law_numbers ["script", "count"] []
  g__law_numbers : mg "_law_numbers" = some (.ref a__law_numbers)
  a__law_take : Addr
  fd__law_take : FuncData
  F__law_take : Fun K "_law_take" "_law_take" s__law_take a__law_take fd__law_take
  b__law_take : Binds K fd__law_take ["row", "bound"] []
  g__law_take : mg "_law_take" = some (.ref a__law_take)
  a__law_low : Addr
  fd__law_low : FuncData
  F__law_low : Fun K "_law_low" "_law_low" s__law_low a__law_low fd__law_low
  b__law_low : Binds K fd__law_low ["p", "q"] []
  g__law_low : mg "_law_low" = some (.ref a__law_low)
  a__law_plus : Addr
  fd__law_plus : FuncData
  F__law_plus : Fun K "_law_plus" "_law_plus" s__law_plus a__law_plus fd__law_plus
  b__law_plus : Binds K fd__law_plus ["one", "other"] []
  g__law_plus : mg "_law_plus" = some (.ref a__law_plus)
  a__law_times : Addr
  fd__law_times : FuncData
  F__law_times : Fun K "_law_times" "_law_times" s__law_times a__law_times fd__law_times
  b__law_times : Binds K fd__law_times ["one", "other"] []
  g__law_times : mg "_law_times" = some (.ref a__law_times)
  a__law_less : Addr
  fd__law_less : FuncData
  F__law_less : Fun K "_law_less" "_law_less" s__law_less a__law_less fd__law_less
  b__law_less : Binds K fd__law_less ["one", "other"] []
  g__law_less : mg "_law_less" = some (.ref a__law_less)
  a__law_variance : Addr
  fd__law_variance : FuncData
  F__law_variance : Fun K "_law_variance" "_law_variance" s__law_variance a__law_variance fd__law_variance
  b__law_variance : Binds K fd__law_variance ["costs", "numbers"] []
  g__law_variance : mg "_law_variance" = some (.ref a__law_variance)
  a__law_deals : Addr
  fd__law_deals : FuncData
  F__law_deals : Fun K "_law_deals" "_law_deals" s__law_deals a__law_deals fd__law_deals
  b__law_deals : Binds K fd__law_deals ["limits", "places"] []
  g__law_deals : mg "_law_deals" = some (.ref a__law_deals)
  a__law_fall : Addr
  fd__law_fall : FuncData
  F__law_fall : Fun K "_law_fall" "_law_fall" s__law_fall a__law_fall fd__law_fall
  b__law_fall : Binds K fd__law_fall ["cost", "number"] []
  g__law_fall : mg "_law_fall" = some (.ref a__law_fall)
  a__law_greedy : Addr
  fd__law_greedy : FuncData
  F__law_greedy : Fun K "_law_greedy" "_law_greedy" s__law_greedy a__law_greedy fd__law_greedy
  b__law_greedy : Binds K fd__law_greedy ["costs", "limits", "places"] []
  g__law_greedy : mg "_law_greedy" = some (.ref a__law_greedy)
  a__law_bound : Addr
  fd__law_bound : FuncData
  F__law_bound : Fun K "_law_bound" "_law_bound" s__law_bound a__law_bound fd__law_bound
  b__law_bound : Binds K fd__law_bound ["costs", "limits", "places", "price"] []
  g__law_bound : mg "_law_bound" = some (.ref a__law_bound)
  a__law_told : Addr
  fd__law_told : FuncData
  F__law_told : Fun K "_law_told" "_law_told" s__law_told a__law_told fd__law_told
  b__law_told : Binds K fd__law_told ["costs", "limits", "places"] []
  g__law_told : mg "_law_told" = some (.ref a__law_told)
  a_law : Addr
  fd_law : FuncData
  F_law : Fun K "law" "law" s_law a_law fd_law
  b_law : Binds K fd_law ["script"] []
  g_law : mg "law" = some (.ref a_law)
  C_SamphireError : Addr
  mg_SamphireError : mg "SamphireError" = some (.ref C_SamphireError)
  C_ZeroDenominator : Addr
  a_ZeroDenominator_init : Addr
  c_ZeroDenominator : Addr
  cc_ZeroDenominator : Addr
  x_ZeroDenominator : Sup.ExcT P K mg "ZeroDenominator" C_ZeroDenominator a_ZeroDenominator_init c_ZeroDenominator cc_ZeroDenominator
  doc_ZeroDenominator : Value
  pm_ZeroDenominator : Value
  ctv_ZeroDenominator : Value
  oc_ZeroDenominator : Value
  od_ZeroDenominator : Option Addr
  osl_ZeroDenominator : Array (Option Value)
  lk_ZeroDenominator : K.lookup a_ZeroDenominator_init = some ⟨oc_ZeroDenominator, od_ZeroDenominator, .func ((NF_ZeroDenominator cc_ZeroDenominator c_ZeroDenominator).fd doc_ZeroDenominator pm_ZeroDenominator ctv_ZeroDenominator), osl_ZeroDenominator⟩
  hc_ZeroDenominator : PySem.W.codeIn K (.ref c_ZeroDenominator) "ZeroDenominator.__init__" = true
  bx_ZeroDenominator : Binds K ((NF_ZeroDenominator cc_ZeroDenominator c_ZeroDenominator).fd doc_ZeroDenominator pm_ZeroDenominator ctv_ZeroDenominator) ["self"] []
  C_NoDeal : Addr
  a_NoDeal_init : Addr
  c_NoDeal : Addr
  cc_NoDeal : Addr
  x_NoDeal : Sup.ExcT P K mg "NoDeal" C_NoDeal a_NoDeal_init c_NoDeal cc_NoDeal
  doc_NoDeal : Value
  pm_NoDeal : Value
  ctv_NoDeal : Value
  oc_NoDeal : Value
  od_NoDeal : Option Addr
  osl_NoDeal : Array (Option Value)
  lk_NoDeal : K.lookup a_NoDeal_init = some ⟨oc_NoDeal, od_NoDeal, .func ((NF_NoDeal cc_NoDeal c_NoDeal).fd doc_NoDeal pm_NoDeal ctv_NoDeal), osl_NoDeal⟩
  hc_NoDeal : PySem.W.codeIn K (.ref c_NoDeal) "NoDeal.__init__" = true
  bx_NoDeal : Binds K ((NF_NoDeal cc_NoDeal c_NoDeal).fd doc_NoDeal pm_NoDeal ctv_NoDeal) ["self"] []
  z_abs : mg "abs" = none
  z_enumerate : mg "enumerate" = none
  z_int : mg "int" = none
  z_isinstance : mg "isinstance" = none
  z_len : mg "len" = none
  z_list : mg "list" = none
  z_max : mg "max" = none
  z_range : mg "range" = none
  z_sum : mg "sum" = none
  z_super : mg "super" = none
  z_tuple : mg "tuple" = none
  z_zip : mg "zip" = none
  k_ZERO : Addr
  g_ZERO : mg "ZERO" = some (.ref k_ZERO)
  q_ZERO : ∀ H, SqT K H k_ZERO [.int (0), .int (1)]
  g_gcd : mg "gcd" = some (.builtin "math.gcd")
/-! ### the walk by single steps -/
local macro_rules | `(tactic| walk_at "z1") => `(tactic| first
  | with_reducible refine Z.seq ?_
  | with_reducible refine Z.asg ?_
  | ((with_reducible refine' Z.gname ?zv ?_); (case zv => first | (dsimp only [List.set]; done) | (dsimp only [List.set]; exact rfl)))
  | ((with_reducible refine' Z.var ?zv ?_); (case zv => exact rfl))
  | with_reducible refine Z.cst ?_
  | with_reducible refine Z.op ?_
  | with_reducible refine Z.un ?_
  | with_reducible refine Z.i0 ?_
  | with_reducible refine Z.iU ?_
  | with_reducible refine Z.eqII ?_
  | with_reducible refine Z.neII ?_
  | with_reducible refine Z.eqSS ?_
  | with_reducible refine Z.neSS ?_
  | with_reducible refine Z.eqBB ?_
  | with_reducible refine Z.neBB ?_
  | with_reducible refine Z.bl' ?_
  | with_reducible refine Z.test ?_
  | with_reducible refine Z.tbb ?_
  | with_reducible refine Z.tand ?_
  | with_reducible refine Z.tor ?_
  | with_reducible refine Z.tnot ?_
  | with_reducible refine Z.tyes ?_
  | with_reducible refine Z.andV ?_
  | with_reducible refine Z.orV ?_
  | with_reducible refine Z.notV ?_
  | with_reducible refine Z.ifE ?_
  | with_reducible refine Z.chain ?_
  | with_reducible refine Z.yesB ?_
  | with_reducible refine Z.noB ?_
  | with_reducible refine Z.noNB ?_
  | with_reducible refine Z.yesNB ?_
  | with_reducible refine Z.nil ?_
  | with_reducible refine Z.cons ?_
  | with_reducible refine Z.cb ?_
  | with_reducible refine Z.call ?_
  | with_reducible refine Z.meth ?_
  | with_reducible refine Z.fld ?_
  | with_reducible refine Z.int1 ?_
  | with_reducible refine Z.intb ?_
  | with_reducible refine Z.abs1 ?_
  | with_reducible refine Z.gcons ?_
  | with_reducible refine Z.gnil ?_
  | with_reducible refine Z.gcd ?_
  | ((with_reducible refine' Z.par2 ?zv ?_); (case zv => first | (dsimp only [List.set]; done) | (dsimp only [List.set]; exact rfl)))
  | with_reducible refine Z.isN ?_
  | with_reducible refine Z.notN ?_
  | with_reducible refine Z.inSg ?_
  | with_reducible refine Z.ninSg ?_
  | with_reducible refine Z.tup ?_
  | with_reducible refine Z.lst ?_
  | with_reducible refine Z.gsub ?_
  | with_reducible refine Z.par ?_
  | ((with_reducible refine' Z.aug ?zv ?_); (case zv => exact rfl))
  | with_reducible refine Z.ipI' ?_
  | with_reducible refine Z.ifs ?_
  | with_reducible refine Z.ret ?_
  | with_reducible refine Z.retN ?_
  | with_reducible refine Z.next ?_
  | with_reducible refine Z.brk ?_
  | with_reducible refine Z.drop ?_
  | with_reducible refine Z.bm ?_
  | with_reducible refine Z.bm0 ?_
  | with_reducible refine Z.sfld ?_
  | with_reducible refine Z.sfldaug ?_
  | with_reducible refine Z.radd ?_
  | with_reducible refine Z.make ?_
  | with_reducible refine Z.lc ?_
  | with_reducible refine Z.rng1 ?_
  | with_reducible refine Z.ilist ?_
  | with_reducible refine Z.itup ?_
  | with_reducible refine Z.for_ ?_
  | with_reducible refine Z.istr ?_
  | with_reducible refine Z.ienum ?_
  | with_reducible refine Z.izip ?_
  | with_reducible refine Z.irng2 ?_
  | with_reducible refine Z.augs ?_
  | with_reducible refine Z.ienumS ?_
  | with_reducible refine Z.din ?_
  | with_reducible refine Z.dput ?_
  | with_reducible refine Z.dget ?_
  | with_reducible refine Z.dget2 ?_
  | with_reducible refine Z.sl ?_
  | with_reducible refine Z.slno ?_
  | with_reducible refine Z.slpart ?_
  | with_reducible refine Z.bint ?_
  | with_reducible refine Z.listrev ?_
  | with_reducible refine Z.revl ?_
  | dsimp only)
local macro_rules | `(tactic| walk_at "z0") => `(tactic| ((try simp only [Z.cxK]); (try dsimp only [L2.start, List.map, List.length, Nat.reduceAdd, Nat.reduceSub, List.replicate, List.cons_append, List.nil_append])))
local macro_rules | `(tactic| walk_at "z") => `(tactic| (repeat (walk_at "z1")))

/-! ### the numbers of a law: _law_mix, _law_numbers, _law_take -/
def DrawsAt (H : Hp) (a : Addr) : Prop := ∃ ns : List Int, H a = some (.lst (ns.map V.int))
theorem DrawsAt.ne {H : Hp} {a l : Addr} (d : DrawsAt H a) (h : H l = none) : a ≠ l := ne_of_none d.choose_spec h
theorem DrawsAt.kp {M : List Addr} {H H' : Hp} {a : Addr} (d : DrawsAt H a) (k : Kp M H H') (n : a ∉ M) : DrawsAt H' a := let ⟨ns, h⟩ := d; ⟨ns, k _ _ n h⟩
theorem DrawsAt.kp0 {H H' : Hp} {a : Addr} (d : DrawsAt H a) (k : Kp [] H H') : DrawsAt H' a := d.kp k nin0
theorem DrawsAt.put {H : Hp} {a b : Addr} {o : HO} (d : DrawsAt H a) (n : a ≠ b) : DrawsAt (upd H b o) a := let ⟨ns, h⟩ := d; ⟨ns, (upd_ne n).trans h⟩
def spMix : Sp := fun vs H Q _ => ∃ n k : Int, vs = [.int n, .int k] ∧ ∀ v, 0 ≤ v → v < 998244353 → Q (.int v) H
theorem ok__law_mix {P : Program} {w : World} {K : PySem.W.Frag} {mg : Str → Option Value} {base : Heap} (T : T P K mg) : FnOk P w K mg base CX0 1 T.a__law_mix T.fd__law_mix ["number", "k"] spMix := by
  refine T.F__law_mix.ok sc__law_mix (fun vs H Q E h => ?_) (fun cdv A outer s H vs Q E hr h => ?_)
  · obtain ⟨n, k, rfl, _⟩ := h
    rfl
  · obtain ⟨n, k, rfl, q⟩ := h
    refine ⟨_, (pss_one (ps_ret (pe_op op_mod (pe_op op_mul (pe_op op_mod (pe_callTy c_int (by rfl) T.z_int (by decide +kernel) (pa_cons (pe_op op_mul (pe_op op_add (pe_op op_add (pe_op op_mod (pe_callTy c_int (by rfl) T.z_int (by decide +kernel) (pa_cons (pv 0) pa_nil)) pe_int) (pe_op op_mul pe_int (pv 1))) pe_int) pe_int) pa_nil)) pe_int) pe_int) pe_int))), ?_⟩
    walk_at "z0"
    walk_at "z"
    refine Z.iC (by decide) ?_
    walk_at "z"
    refine Z.iC (.inl (by decide)) ?_
    walk_at "z"
    refine Z.iC (.inr (by decide)) ?_
    walk_at "z"
    refine Z.iC (by decide) ?_
    walk_at "z"
    refine Z.iC (.inr (by decide)) ?_
    walk_at "z"
    refine Z.iC (by decide) ?_
    walk_at "z"
    exact q _ (Int.emod_nonneg _ (by omega)) (Int.emod_lt_of_pos _ (by omega))
def spTake (K : PySem.W.Frag) : Sp := fun vs H Q _ => ∃ (a : Addr) (m : Int), vs = [.ref a, .int m] ∧ DrawsAt H a ∧ 1 ≤ m ∧ m < 18446744073709551616 ∧ ∀ H' v, 0 ≤ v → v < m → Kp [a] H H' → DrawsAt H' a → Q (.int v) H'
theorem ok__law_take {P : Program} {w : World} {K : PySem.W.Frag} {mg : Str → Option Value} {base : Heap} (T : T P K mg) : FnOk P w K mg base CX0 1 T.a__law_take T.fd__law_take ["row", "bound"] (spTake K) := by
  refine T.F__law_take.ok sc__law_take (fun vs H Q E h => ?_) (fun cdv A outer s H vs Q E hr h => ?_)
  · obtain ⟨a, m, rfl, _⟩ := h
    rfl
  · obtain ⟨a, m, rfl, ⟨ns, ha⟩, h0, h1, q⟩ := h
    refine ⟨_, (pss_cons (ps_if (pt_not (pt_truth (pv 0) (by intro _; rfl))) (pss_one (ps_ret pe_int)) pss_nil)
      (pss_one (ps_ret (pe_op op_mod (pe_callTy c_int (by rfl) T.z_int (by decide +kernel) (pa_cons (pe_bm0 PySem.F.plainAttrs_list PySem.F.slot_list_pop PySem.F.type_list_pop mt_pop (pv 0)) pa_nil)) (pv 1))))), ?_⟩
    walk_at "z0"
    walk_at "z"
    refine Z.truL ha ?_
    cases hns : ns with
    | nil =>
      walk_at "z"
      exact q _ _ (by omega) (by omega) (Kp.refl _) ⟨ns, ha⟩
    | cons n r =>
      rw [show (!!(List.map V.int (n :: r)).isEmpty) = false from rfl]
      walk_at "z"
      refine ⟨Z.tyL ha, ?_⟩
      have hl : 0 < ns.length := by rw [hns]; simp
      have hi : ns.length - 1 < ns.length := by omega
      refine Z.pop ha (y := .int ns[ns.length - 1]) (by rw [List.length_map, List.getElem?_map, List.getElem?_eq_getElem hi]; rfl) ?_
      walk_at "z"
      refine Z.iC (by omega) ?_
      exact q _ _ (Int.emod_nonneg _ (by omega)) (Int.emod_lt_of_pos _ (by omega)) (Kp.put (by simp)) ⟨ns.dropLast, by rw [upd_same, List.map_dropLast]⟩
def spNumbers (K : PySem.W.Frag) : Sp := fun vs H Q _ => ∃ (c : Addr) (ns : List Int) (n : Nat), vs = [.ref c, .int (n : Int)] ∧ SqL K H c (ns.map V.int) ∧ n ≤ 1000 ∧ (∀ z ∈ ns, Builtin.Int.intBits z ≤ 1048576) ∧ ∀ a H', H a = none → Kp [] H H' → DrawsAt H' a → Q (.ref a) H'
theorem ok__law_numbers {P : Program} {w : World} {K : PySem.W.Frag} {mg : Str → Option Value} {base : Heap} (T : T P K mg) : FnOk P w K mg base CX0 2 T.a__law_numbers T.fd__law_numbers ["script", "count"] (spNumbers K) := by
  refine T.F__law_numbers.ok sc__law_numbers (fun vs H Q E h => ?_) (fun cdv A outer s H vs Q E hr h => ?_)
  · obtain ⟨c, ns, n, rfl, _⟩ := h
    rfl
  · obtain ⟨c, ns, n, rfl, hS, hn, hb, q⟩ := h
    refine ⟨_, (pss_cons (ps_set (i := 2) sc__law_numbers.nd rfl (by first | exact Or.inl rfl | exact Or.inr rfl) (pe_lst pa_nil))
      (pss_cons (ps_set (i := 3) sc__law_numbers.nd rfl (by first | exact Or.inl rfl | exact Or.inr rfl) pe_int)
      (Z.pss_consJ (ps_for PassesOwn.never rfl (pi_list (pe_slice sl_list (pv 0) po_none (po_some pe_int))) (pg_name (i := 4) sc__law_numbers.nd rfl (by first | exact Or.inl rfl | exact Or.inr rfl)) (pss_cons (ps_set (i := 3) sc__law_numbers.nd rfl (by first | exact Or.inl rfl | exact Or.inr rfl) (pe_op op_add (pv 3) (pv 4)))
      (pss_one (ps_if (pt_cmpR op_ge (pv 4) pe_int (nomark _)) (pss_cons (ps_set (i := 5) sc__law_numbers.nd rfl (by first | exact Or.inl rfl | exact Or.inr rfl) (pv 4))
      (pss_one (ps_for PassesOwn.never rfl (pi_range1 (by rfl) T.z_range (pa_cons pe_int pa_nil)) (pg_name (i := 6) sc__law_numbers.nd rfl (by first | exact Or.inl rfl | exact Or.inr rfl)) (pss_cons (ps_expr (pe_bm PySem.F.plainAttrs_list PySem.F.slot_list_append PySem.F.type_list_append mt_append (pv 2) (pa_cons (pe_op op_mod (pe_callTy c_int (by rfl) T.z_int (by decide +kernel) (pa_cons (pv 5) pa_nil)) pe_int) pa_nil)))
      (pss_cons (ps_set (i := 5) sc__law_numbers.nd rfl (by first | exact Or.inl rfl | exact Or.inr rfl) (pe_op op_fdivW (pv 5) pe_int))
      (pss_one (ps_if (pt_cmpR op_eq (pv 5) pe_int (nomark _)) (pss_one ps_break) pss_nil))))))) (pss_one (ps_expr (pe_bm PySem.F.plainAttrs_list PySem.F.slot_list_append PySem.F.type_list_append mt_append (pv 2) (pa_cons (pe_call (ok__law_mix T) (hr.mono (by decide)) (by rfl) T.g__law_mix T.F__law_mix.kp T.b__law_mix .nil pass0 (pa_cons (pe_call (ok__law_mix T) (hr.mono (by decide)) (by rfl) T.g__law_mix T.F__law_mix.kp T.b__law_mix .nil pass0 (pa_cons (pv 4) (pa_cons pe_int pa_nil))) (pa_cons pe_int pa_nil))) pa_nil))))))))
      (pss_cons (ps_for PassesOwn.never rfl (pi_range1 (by rfl) T.z_range (pa_cons (pv 1) pa_nil)) (pg_name (i := 6) sc__law_numbers.nd rfl (by first | exact Or.inl rfl | exact Or.inr rfl)) (pss_one (ps_expr (pe_bm PySem.F.plainAttrs_list PySem.F.slot_list_append PySem.F.type_list_append mt_append (pv 2) (pa_cons (pe_call (ok__law_mix T) (hr.mono (by decide)) (by rfl) T.g__law_mix T.F__law_mix.kp T.b__law_mix .nil pass0 (pa_cons (pe_call (ok__law_mix T) (hr.mono (by decide)) (by rfl) T.g__law_mix T.F__law_mix.kp T.b__law_mix .nil pass0 (pa_cons (pe_op op_add (pv 3) (pe_op op_mul pe_int (pv 6))) (pa_cons (pe_op op_add pe_int (pv 6)) pa_nil))) (pa_cons pe_int pa_nil))) pa_nil)))))
      (pss_cons (ps_expr (pe_bm0 PySem.F.plainAttrs_list PySem.F.slot_list_reverse PySem.F.type_list_reverse mt_reverse (pv 2)))
      (pss_one (ps_ret (pv 2)))))))), ?_⟩
    walk_at "z0"
    walk_at "z"
    refine Z.lstK (fun D H1 nD k1 e1 => ?_)
    walk_at "z"
    refine Z.seqJ' ?_
    walk_at "z"
    refine Z.slL (k1.seq nin0 hS) (fun S H2 nS k2 e2 => ?_)
    have e2D := k2.get nin0 e1
    have nDS : D ≠ S := ne_of_none e1 nS
    have hcut : ∃ ms : List Int, cutV (ns.map V.int) none (some 63) = ms.map V.int ∧ ms.length ≤ 63 := by
      unfold cutV
      rw [HT.sIx_none, show (63 : Int) = ((63 : Nat) : Int) from rfl, HT.sIx_nat, List.drop_zero, Nat.sub_zero, ← List.map_take]
      exact ⟨_, rfl, by rw [List.length_take]; omega⟩
    obtain ⟨ms, hms, hm63⟩ := hcut
    rw [hms] at e2
    walk_at "z"
    refine Z.forl (ms.map V.int) (lstL e2) (fun i σ' H' => ∃ y4 y5 y6, ∃ (z : Int) (ds : List Int), σ' = [some (.ref c), some (.int (n : Int)), some (.ref D), some (.int z), y4, y5, y6] ∧ Kp [D] H2 H' ∧ H' D = some (.lst (ds.map V.int)) ∧ ds.length ≤ i * 61) ⟨_, _, _, _, [], rfl, Kp.refl _, e2D, by simp⟩ ?_ ?_ ?_
    · rintro i σ' H' hi ⟨y4, y5, y6, z, ds, rfl, k3, e3, hl⟩
      exact lstL (k3.get (nin1 nDS.symm) e2)
    · rintro i x σ' H' hx ⟨y4, y5, y6, z, ds, rfl, k3, e3, hl⟩
      obtain ⟨u, hu, rfl⟩ : ∃ u, ms[i]? = some u ∧ x = .int u := by
        rw [List.getElem?_map] at hx
        cases hw : ms[i]? with
        | none => rw [hw] at hx; cases hx
        | some r => rw [hw] at hx; exact ⟨r, rfl, (Option.some.inj hx).symm⟩
      have hi : i < ms.length := (List.getElem?_eq_some_iff.mp hu).1
      walk_at "z"
      refine Z.ite (fun h2 => ?_) (fun h2 => ?_)
      · walk_at "z"
        refine Z.forr 60 (by rfl) (by decide) (fun j σ' H' => ∃ y6, ∃ (v : Int) (ds : List Int), σ' = [some (.ref c), some (.int (n : Int)), some (.ref D), some (.int (z + u)), some (.int u), some (.int v), y6] ∧ Kp [D] H2 H' ∧ H' D = some (.lst (ds.map V.int)) ∧ ds.length ≤ i * 61 + j) ⟨_, _, ds, rfl, k3, e3, by omega⟩ ?_ ?_
        · rintro j σ' H' hj ⟨y6, v, ds, rfl, k4, e4, hl4⟩
          walk_at "z"
          refine ⟨Z.tyL e4, ?_⟩
          walk_at "z"
          refine Z.iC (by decide) ?_
          walk_at "z"
          refine Z.app e4 (Z.szl (m := 100000) (by rw [List.length_map]; omega)) ?_
          walk_at "z"
          refine Z.iC ⟨by decide, by decide⟩ ?_
          walk_at "z"
          have e5 : upd H' D (.lst (ds.map V.int ++ [.int (v % 840)])) D = some (.lst ((ds ++ [v % 840]).map V.int)) := by rw [upd_same, List.map_append]; rfl
          have k5 : Kp [D] H2 (upd H' D (.lst (ds.map V.int ++ [.int (v % 840)]))) := k4.trans (Kp.put (by simp))
          refine Z.ite (fun h3 => ?_) (fun h3 => ?_)
          · walk_at "z"
            exact ⟨_, _, _, _, ds ++ [v % 840], rfl, k5, e5, by simp; omega⟩
          · walk_at "z"
            exact ⟨_, _, ds ++ [v % 840], rfl, k5, e5, by simp; omega⟩
        · rintro σ' H' ⟨y6, v, ds, rfl, k4, e4, hl4⟩
          exact ⟨_, _, _, _, ds, rfl, k4, e4, by omega⟩
      · walk_at "z"
        refine ⟨Z.tyL e3, ?_⟩
        walk_at "z"
        refine ⟨_, _, rfl, fun v0 _ _ => ?_⟩
        walk_at "z"
        refine ⟨_, _, rfl, fun v1 _ _ => ?_⟩
        walk_at "z"
        refine Z.app e3 (Z.szl (m := 100000) (by rw [List.length_map]; omega)) ?_
        walk_at "z"
        exact ⟨_, _, _, _, ds ++ [v1], rfl, k3.trans (Kp.put (by simp)), by rw [upd_same, List.map_append]; rfl, by simp; omega⟩
    · rintro σ' H' ⟨y4, y5, y6, z, ds, rfl, k3, e3, hl⟩
      rw [List.length_map] at hl
      walk_at "z"
      refine Z.forr n (by rfl) (by omega) (fun j σ' H' => ∃ y6, ∃ (ds : List Int), σ' = [some (.ref c), some (.int (n : Int)), some (.ref D), some (.int z), y4, y5, y6] ∧ Kp [D] H2 H' ∧ H' D = some (.lst (ds.map V.int)) ∧ ds.length ≤ ms.length * 61 + j) ⟨_, ds, rfl, k3, e3, by omega⟩ ?_ ?_
      · rintro j σ' H' hj ⟨y6, ds, rfl, k4, e4, hl4⟩
        walk_at "z"
        refine ⟨Z.tyL e4, ?_⟩
        walk_at "z"
        refine Z.iC (.inl (by decide)) ?_
        walk_at "z"
        refine ⟨_, _, rfl, fun v0 _ _ => ?_⟩
        walk_at "z"
        refine ⟨_, _, rfl, fun v1 _ _ => ?_⟩
        walk_at "z"
        refine Z.app e4 (Z.szl (m := 100000) (by rw [List.length_map]; omega)) ?_
        walk_at "z"
        exact ⟨_, ds ++ [v1], rfl, k4.trans (Kp.put (by simp)), by rw [upd_same, List.map_append]; rfl, by simp; omega⟩
      · rintro σ' H' ⟨y6, ds, rfl, k4, e4, hl4⟩
        walk_at "z"
        refine ⟨Z.tyL e4, ?_⟩
        refine ⟨D, _, rfl, rfl, e4, ?_⟩
        walk_at "z"
        have nSD : H1 D = none → False := fun z => by rw [e1] at z; cases z
        refine q D _ nD ?_ ⟨ds.reverse, by rw [upd_same, List.map_reverse]⟩
        exact ((k1.trans k2).then1 k4 nD).mut nD rfl

/-! ### sums of lists of ints -/
theorem sum_nonneg : ∀ {l : List Int}, (∀ n ∈ l, 0 ≤ n) → 0 ≤ l.sum
  | [], _ => by simp
  | a :: r, h => by
    have h1 := h a (by simp)
    have h2 := sum_nonneg (l := r) fun n hn => h n (by simp [hn])
    rw [List.sum_cons]
    omega
theorem sum_le {c : Int} : ∀ {l : List Int}, (∀ n ∈ l, n ≤ c) → l.sum ≤ c * l.length
  | [], _ => by simp
  | a :: r, h => by
    have h1 := h a (by simp)
    have h2 := sum_le (c := c) (l := r) fun n hn => h n (by simp [hn])
    rw [List.sum_cons, List.length_cons, show c * ((r.length + 1 : Nat) : Int) = c * r.length + c by rw [Int.natCast_add, Int.mul_add]; simp]
    omega
theorem sum_ge_mem : ∀ {l : List Int}, (∀ n ∈ l, 0 ≤ n) → ∀ x ∈ l, x ≤ l.sum
  | [], _, x, hx => by simp at hx
  | a :: r, h, x, hx => by
    have h1 := h a (by simp)
    have h3 := sum_nonneg (l := r) fun n hn => h n (by simp [hn])
    rw [List.sum_cons]
    rcases List.mem_cons.mp hx with e | e
    · omega
    · have h2 := sum_ge_mem (l := r) (fun n hn => h n (by simp [hn])) x e
      omega
theorem take_nonneg {l : List Int} (h : ∀ n ∈ l, 0 ≤ n) (i : Nat) : 0 ≤ (l.take i).sum := sum_nonneg fun n hn => h n (List.mem_of_mem_take hn)
/-! ### lists of ints as data -/
theorem layInts : ∀ ws : List Int, PyData.canLayAll0 (ws.map PyData.int) = true
  | [] => by simp [PyData.canLayAll0]
  | w :: r => by simp [PyData.canLayAll0, PyData.canLay0, layInts r]
theorem depthInts : ∀ ws : List Int, PyData.depthAll (ws.map PyData.int) = 0
  | [] => by simp [PyData.depthAll]
  | w :: r => by simp [PyData.depthAll, PyData.depth, depthInts r]
theorem shInts (ws : List Int) : SeqAt.shaped (.list (ws.map PyData.int)) = true := by
  simp [SeqAt.shaped, PyData.canLay0, PyData.depth, layInts, depthInts]
theorem dpInts {K : PySem.W.Frag} {H : Hp} : ∀ ws : List Int, DpAll K H (ws.map V.int) (ws.map PyData.int)
  | [] => .nil
  | w :: r => .cons (.int w) (dpInts r)
theorem dpI {K : PySem.W.Frag} {H : Hp} {a : Addr} {ws : List Int} (h : SqL K H a (ws.map V.int)) : Dp K H (.ref a) (.list (ws.map PyData.int)) := .lst h (dpInts ws)
theorem eqvI (ws : List Int) : PyData.eqv (.list (ws.map PyData.int)) (.list (ws.map PyData.int)) = true := SeqAt.eqv_refl _ (by simp [PyData.canLay0, layInts])
theorem neLL {K : PySem.W.Frag} {H : Hp} {Q : VK} {a b : Addr} {ws : List Int} (h1 : SqL K H a (ws.map V.int)) (h2 : SqL K H b (ws.map V.int)) (q : Q (.bl false) H) : rNeD K (.ref a) (.ref b) H Q :=
  ⟨_, _, dpI h1, dpI h2, shInts _, shInts _, by rw [eqvI]; exact q⟩
theorem eqLL {K : PySem.W.Frag} {H : Hp} {Q : VK} {a b : Addr} {ws : List Int} (h1 : SqL K H a (ws.map V.int)) (h2 : SqL K H b (ws.map V.int)) (q : Q (.bl true) H) : rEqD K (.ref a) (.ref b) H Q :=
  ⟨_, _, dpI h1, dpI h2, shInts _, shInts _, by rw [eqvI]; exact q⟩

/-! ### Euclid and lowest terms -/
def eStep (p : Nat × Nat) : Nat × Nat := if p.2 = 0 then p else (p.2, p.1 % p.2)
def euc : Nat → Nat × Nat → Nat × Nat
  | 0, p => p
  | i + 1, p => euc i (eStep p)
theorem euc_succ : ∀ (i : Nat) (p : Nat × Nat), euc (i + 1) p = eStep (euc i p)
  | 0, p => rfl
  | i + 1, p => euc_succ i (eStep p)
theorem eStep_gcd (p : Nat × Nat) : Nat.gcd (eStep p).1 (eStep p).2 = Nat.gcd p.1 p.2 := by
  unfold eStep
  split
  · rfl
  · show Nat.gcd p.2 (p.1 % p.2) = Nat.gcd p.1 p.2
    rw [Nat.gcd_comm p.1 p.2, Nat.gcd_rec p.2 p.1, Nat.gcd_comm]
theorem euc_gcd : ∀ (i : Nat) (p : Nat × Nat), Nat.gcd (euc i p).1 (euc i p).2 = Nat.gcd p.1 p.2
  | 0, p => rfl
  | i + 1, p => (euc_gcd i (eStep p)).trans (eStep_gcd p)
theorem eStep_zero {p : Nat × Nat} (h : p.2 = 0) : eStep p = p := if_pos h
theorem euc_zero : ∀ (i : Nat) {p : Nat × Nat}, p.2 = 0 → euc i p = p
  | 0, _, _ => rfl
  | i + 1, p, h => by
    show euc i (eStep p) = p
    rw [eStep_zero h]
    exact euc_zero i h
theorem eStep2 (p : Nat × Nat) : 2 * (eStep (eStep p)).2 ≤ p.2 := by
  obtain ⟨a, b⟩ := p
  by_cases hb : b = 0
  · rw [eStep_zero (p := (a, b)) hb, eStep_zero (p := (a, b)) hb]
    show 2 * b ≤ b
    omega
  · have e1 : eStep (a, b) = (b, a % b) := if_neg hb
    rw [e1]
    have hc : a % b < b := Nat.mod_lt _ (by omega)
    by_cases h0 : a % b = 0
    · rw [eStep_zero (p := (b, a % b)) h0]
      show 2 * (a % b) ≤ b
      omega
    · have e2 : eStep (b, a % b) = (a % b, b % (a % b)) := if_neg h0
      rw [e2]
      show 2 * (b % (a % b)) ≤ b
      have h1 : b % (a % b) < a % b := Nat.mod_lt _ (by omega)
      have h2 := Nat.div_add_mod b (a % b)
      have h3 : 1 ≤ b / (a % b) := Nat.div_pos (by omega) (by omega)
      have h4 : (a % b) * 1 ≤ (a % b) * (b / (a % b)) := Nat.mul_le_mul_left _ h3
      omega
theorem euc_end : ∀ (n : Nat) (p : Nat × Nat), p.2 < 2 ^ n → (euc (2 * n) p).2 = 0
  | 0, p, h => by
    have h' : p.2 < 1 := h
    show p.2 = 0
    omega
  | n + 1, p, h => by
    show (euc (2 * n) (eStep (eStep p))).2 = 0
    refine euc_end n _ ?_
    have := eStep2 p
    rw [Nat.pow_succ] at h
    omega
theorem euc_add : ∀ (i j : Nat) (p : Nat × Nat), euc (i + j) p = euc j (euc i p)
  | 0, j, p => by rw [Nat.zero_add]; rfl
  | i + 1, j, p => by
    rw [show i + 1 + j = (i + j) + 1 by omega]
    exact euc_add i j (eStep p)
theorem euc_5000 {p : Nat × Nat} (h : p.2 < 2 ^ 2400) : (euc 5000 p).2 = 0 := by
  rw [show (5000 : Nat) = 2 * 2400 + 200 from rfl, euc_add, euc_zero 200 (euc_end 2400 p h)]
  exact euc_end 2400 p h
def gN (p q : Int) : Nat := Nat.gcd p.natAbs q.natAbs
def gI (p q : Int) : Int := if q < 0 then -(gN p q : Int) else (gN p q : Int)
def lo (p q : Int) : Int × Int := (p.fdiv (gI p q), q.fdiv (gI p q))
theorem gN_pos {p q : Int} (h : q ≠ 0) : 0 < gN p q := Nat.gcd_pos_of_pos_right _ (by omega)
theorem gI_ne {p q : Int} (h : q ≠ 0) : gI p q ≠ 0 := by
  have := gN_pos (p := p) h
  unfold gI
  split <;> omega
theorem gN_le {p q : Int} (h : q ≠ 0) : gN p q ≤ q.natAbs := Nat.le_of_dvd (by omega) (Nat.gcd_dvd_right _ _)
theorem gI_abs (p q : Int) : (gI p q).natAbs = gN p q := by
  unfold gI
  split <;> omega
theorem dvdI {g : Nat} {p : Int} (h : g ∣ p.natAbs) : ∃ a : Int, p = (g : Int) * a ∧ p.natAbs = g * a.natAbs := by
  obtain ⟨c, hc⟩ := Int.ofNat_dvd_left.mpr h
  refine ⟨c, hc, ?_⟩
  rw [hc, Int.natAbs_mul]
  simp
/-- lowest terms: exactly divided, a denominator of at least 1, no common part -/
theorem lo_spec {p q : Int} (h : q ≠ 0) : ∃ a b : Int, lo p q = (a, b) ∧ 1 ≤ b ∧ Nat.gcd a.natAbs b.natAbs = 1 ∧ p = gI p q * a ∧ q = gI p q * b := by
  obtain ⟨a, ha, ha2⟩ := dvdI (Nat.gcd_dvd_left p.natAbs q.natAbs)
  obtain ⟨b, hb, hb2⟩ := dvdI (Nat.gcd_dvd_right p.natAbs q.natAbs)
  have hg := gN_pos (p := p) h
  have hcop : Nat.gcd a.natAbs b.natAbs = 1 := by
    have e := Nat.gcd_mul_left (gN p q) a.natAbs b.natAbs
    have e2 : gN p q * a.natAbs = p.natAbs := ha2.symm
    have e3 : gN p q * b.natAbs = q.natAbs := hb2.symm
    rw [e2, e3] at e
    have e4 : gN p q * 1 = gN p q * Nat.gcd a.natAbs b.natAbs := by rw [Nat.mul_one]; exact e
    exact (Nat.eq_of_mul_eq_mul_left hg e4).symm
  have ha' : p = (gN p q : Int) * a := ha
  have hb' : q = (gN p q : Int) * b := hb
  have gpos : (0 : Int) < (gN p q : Int) := by omega
  have hb0 : b ≠ 0 := fun z => by
    rw [z, Int.mul_zero] at hb'
    exact h hb'
  by_cases hq : q < 0
  · have eg : gI p q = -(gN p q : Int) := if_pos hq
    have hbn : b < 0 := by
      rcases Int.lt_or_le b 0 with z | z
      · exact z
      · have := Int.mul_nonneg (Int.le_of_lt gpos) z
        omega
    have ep : p = gI p q * -a := by rw [eg, Int.neg_mul_neg]; exact ha'
    have eq : q = gI p q * -b := by rw [eg, Int.neg_mul_neg]; exact hb'
    refine ⟨-a, -b, ?_, by omega, by rw [Int.natAbs_neg, Int.natAbs_neg]; exact hcop, ep, eq⟩
    have g0 := gI_ne (p := p) h
    unfold lo
    have f1 : p.fdiv (gI p q) = -a := by
      have := Int.mul_fdiv_cancel_left (-a) g0
      rw [← ep] at this
      exact this
    have f2 : q.fdiv (gI p q) = -b := by
      have := Int.mul_fdiv_cancel_left (-b) g0
      rw [← eq] at this
      exact this
    rw [f1, f2]
  · have eg : gI p q = (gN p q : Int) := if_neg hq
    have hbp : 0 < b := by
      rcases Int.lt_or_le 0 b with z | z
      · exact z
      · have := Int.mul_nonpos_of_nonneg_of_nonpos (Int.le_of_lt gpos) z
        omega
    have ep : p = gI p q * a := by rw [eg]; exact ha'
    have eq : q = gI p q * b := by rw [eg]; exact hb'
    refine ⟨a, b, ?_, by omega, hcop, ep, eq⟩
    have g0 := gI_ne (p := p) h
    unfold lo
    have f1 : p.fdiv (gI p q) = a := by
      have := Int.mul_fdiv_cancel_left a g0
      rw [← ep] at this
      exact this
    have f2 : q.fdiv (gI p q) = b := by
      have := Int.mul_fdiv_cancel_left b g0
      rw [← eq] at this
      exact this
    rw [f1, f2]
theorem lo_pos {p q : Int} (h : q ≠ 0) : 1 ≤ (lo p q).2 := by
  obtain ⟨a, b, e, h1, _⟩ := lo_spec (p := p) h
  rw [e]; exact h1
theorem lo_cop {p q : Int} (h : q ≠ 0) : Nat.gcd (lo p q).1.natAbs (lo p q).2.natAbs = 1 := by
  obtain ⟨a, b, e, _, h1, _⟩ := lo_spec (p := p) h
  rw [e]; exact h1
theorem abs_le_mul {g a : Int} (h : g ≠ 0) : a.natAbs ≤ (g * a).natAbs := by
  rw [Int.natAbs_mul]
  exact Nat.le_mul_of_pos_left _ (by omega)
theorem lo_abs1 {p q : Int} (h : q ≠ 0) : (lo p q).1.natAbs ≤ p.natAbs := by
  obtain ⟨a, b, e, _, _, h1, _⟩ := lo_spec (p := p) h
  rw [e]
  have := abs_le_mul (a := a) (gI_ne (p := p) h)
  rw [← h1] at this
  exact this
theorem lo_abs2 {p q : Int} (h : q ≠ 0) : (lo p q).2.natAbs ≤ q.natAbs := by
  obtain ⟨a, b, e, _, _, _, h1⟩ := lo_spec (p := p) h
  rw [e]
  have := abs_le_mul (a := b) (gI_ne (p := p) h)
  rw [← h1] at this
  exact this

/-! ### fractions: tuples of two ints -/
section frac
variable {K : PySem.W.Frag}
abbrev Fr := Int × Int
def frV (f : Fr) : List V := [.int f.1, .int f.2]
/-- at x there is no tuple -/
def NoTup (H : Hp) (x : Addr) : Prop := ∀ xs, ¬ Rd H x (.tup xs)
theorem NoTup.of {H : Hp} {x : Addr} {o : HO} (h : H x = some o) (n : ∀ xs, o ≠ .tup xs ∧ ∀ u, o ≠ .frz u (.tup xs)) : NoTup H x := fun xs r => by
  rcases r with r | ⟨u, r⟩
  · rw [h] at r; exact (n xs).1 (Option.some.inj r)
  · rw [h] at r; exact (n xs).2 u (Option.some.inj r)
theorem NoTup.lst {H : Hp} {x : Addr} {xs : List V} (h : H x = some (.lst xs)) : NoTup H x := NoTup.of h fun ys => ⟨by simp, by simp⟩
theorem NoTup.new {H : Hp} {x : Addr} (h : H x = none) : NoTup H x := fun xs r => by
  rcases r with r | ⟨u, r⟩ <;> rw [h] at r <;> cases r
theorem kpTup {K : PySem.W.Frag} {M : List Addr} {H H' : Hp} {a : Addr} {xs : List V} (h : SqT K H a xs) (k : Kp M H H') (n : ∀ x ∈ M, NoTup H x) : SqT K H' a xs := by
  rcases h with h | h
  · have na : a ∉ M := fun z => n a z xs h
    exact k.tup na (.inl h)
  · exact .inr h
/-- a fraction at a, a new one or one of the top -/
def FrAt (K : PySem.W.Frag) (H : Hp) (a : Addr) (f : Fr) : Prop := SqT K H a (frV f)
theorem FrAt.kp {M : List Addr} {H H' : Hp} {a : Addr} {f : Fr} (h : FrAt K H a f) (k : Kp M H H') (n : ∀ x ∈ M, NoTup H x) : FrAt K H' a f := kpTup h k n
theorem FrAt.kp0 {H H' : Hp} {a : Addr} {f : Fr} (h : FrAt K H a f) (k : Kp [] H H') : FrAt K H' a f := k.tup nin0 h
theorem FrAt.kpl {H H' : Hp} {a l : Addr} {f : Fr} {xs : List V} (h : FrAt K H a f) (k : Kp [l] H H') (e : H l = some (.lst xs)) : FrAt K H' a f := kpTup h k fun x hx => by
  rw [List.mem_singleton.mp hx]
  exact NoTup.lst e
theorem fr0 (f : Fr) : atI (frV f) 0 = some (.int f.1) := rfl
theorem fr1 (f : Fr) : atI (frV f) 1 = some (.int f.2) := rfl
/-- small enough for the machine's ints -/
def FrB (n : Nat) (f : Fr) : Prop := f.1.natAbs < 2 ^ n ∧ f.2.natAbs < 2 ^ n
theorem FrB.mono {n m : Nat} {f : Fr} (h : FrB n f) (l : n ≤ m) : FrB m f := ⟨Nat.lt_of_lt_of_le h.1 (Nat.pow_le_pow_right (by decide) l), Nat.lt_of_lt_of_le h.2 (Nat.pow_le_pow_right (by decide) l)⟩
theorem lo_B {n : Nat} {p q : Int} (h : q ≠ 0) (h1 : p.natAbs < 2 ^ n) (h2 : q.natAbs < 2 ^ n) : FrB n (lo p q) := ⟨Nat.lt_of_le_of_lt (lo_abs1 h) h1, Nat.lt_of_le_of_lt (lo_abs2 h) h2⟩
theorem add_B {n : Nat} {a b : Int} (h1 : a.natAbs < 2 ^ n) (h2 : b.natAbs < 2 ^ n) : (a + b).natAbs < 2 ^ (n + 1) := by
  rw [Nat.pow_succ]
  omega
theorem sub_B {n : Nat} {a b : Int} (h1 : a.natAbs < 2 ^ n) (h2 : b.natAbs < 2 ^ n) : (a - b).natAbs < 2 ^ (n + 1) := by
  rw [Nat.pow_succ]
  omega
theorem mul_B {n m : Nat} {a b : Int} (h1 : a.natAbs < 2 ^ n) (h2 : b.natAbs < 2 ^ m) : (a * b).natAbs < 2 ^ (n + m) := wide_lt h1 h2
theorem up_B {n m : Nat} {a : Int} (h : a.natAbs < 2 ^ n) (l : n ≤ m) : a.natAbs < 2 ^ m := Nat.lt_of_lt_of_le h (Nat.pow_le_pow_right (by decide) l)
theorem mul_ok {n : Nat} {a b : Int} (h1 : a.natAbs < 2 ^ n) (h2 : b.natAbs < 2 ^ n) (h0 : 0 < n := by omega) (h : n ≤ 400000 := by omega) : CMulW a b := wide_mul h1 h2 h0 h0 (by omega)
def fplus (f g : Fr) : Fr := lo (f.1 * g.2 + g.1 * f.2) (f.2 * g.2)
def fminus (f g : Fr) : Fr := lo (f.1 * g.2 - g.1 * f.2) (f.2 * g.2)
def ftimes (f g : Fr) : Fr := lo (f.1 * g.1) (f.2 * g.2)
def fover (f g : Fr) : Fr := lo (f.1 * g.2) (f.2 * g.1)
def fless (f g : Fr) : Bool := decide (f.1 * g.2 < g.1 * f.2)
theorem fplus_B {n m : Nat} {f g : Fr} (hf : FrB n f) (hg : FrB m g) (h1 : f.2 ≠ 0) (h2 : g.2 ≠ 0) : FrB (n + m + 1) (fplus f g) :=
  lo_B (Int.mul_ne_zero h1 h2) (add_B (mul_B hf.1 hg.2) (by rw [Nat.add_comm n m]; exact mul_B hg.1 hf.2)) (up_B (mul_B hf.2 hg.2) (by omega))
theorem fminus_B {n m : Nat} {f g : Fr} (hf : FrB n f) (hg : FrB m g) (h1 : f.2 ≠ 0) (h2 : g.2 ≠ 0) : FrB (n + m + 1) (fminus f g) :=
  lo_B (Int.mul_ne_zero h1 h2) (sub_B (mul_B hf.1 hg.2) (by rw [Nat.add_comm n m]; exact mul_B hg.1 hf.2)) (up_B (mul_B hf.2 hg.2) (by omega))
theorem ftimes_B {n m : Nat} {f g : Fr} (hf : FrB n f) (hg : FrB m g) (h1 : f.2 ≠ 0) (h2 : g.2 ≠ 0) : FrB (n + m) (ftimes f g) := lo_B (Int.mul_ne_zero h1 h2) (mul_B hf.1 hg.1) (mul_B hf.2 hg.2)
theorem fplus_pos {f g : Fr} (h1 : f.2 ≠ 0) (h2 : g.2 ≠ 0) : 1 ≤ (fplus f g).2 := lo_pos (Int.mul_ne_zero h1 h2)
/-! ### samphire.errors, samphire.ratios -/
def spZD (C : Addr) : Sp := fun vs H Q _ => ∃ a : Addr, vs = [.ref a] ∧ H a = some (exo a C none) ∧ Q .non H
theorem ok_ZeroDenominator_init {P : Program} {w : World} {K : PySem.W.Frag} {mg : Str → Option Value} {base : Heap} (T : T P K mg) : FnOk P w K mg base CX0 1 T.a_ZeroDenominator_init ((NF_ZeroDenominator T.cc_ZeroDenominator T.c_ZeroDenominator).fd T.doc_ZeroDenominator T.pm_ZeroDenominator T.ctv_ZeroDenominator) ["self"] (spZD T.C_ZeroDenominator) := by
  refine Sup.fn_super (F := NF_ZeroDenominator T.cc_ZeroDenominator T.c_ZeroDenominator) (p := "self") (ps' := []) T.x_ZeroDenominator.S T.lk_ZeroDenominator rfl T.hc_ZeroDenominator sc_ZeroDenominator_init rfl ⟨_, rfl, rfl⟩ rfl rfl (fun _ => rfl) (fun _ => ⟨_, rfl⟩) (fun _ => rfl) (fun vs H Q E h => ?_) (fun A outer s H vs Q E hr h => ?_)
  · obtain ⟨a, rfl, _⟩ := h
    rfl
  · obtain ⟨a, rfl, ha, q⟩ := h
    exact ⟨a, [], _, _, rfl, ha, pa_cons pe_str pa_nil, pss_nil, by decide, ha, q⟩
def spLowest (K : PySem.W.Frag) (C : Addr) : Sp := fun vs H Q E => ∃ p q : Int, vs = [.int p, .int q] ∧ q.natAbs < 2 ^ 8000 ∧ (q = 0 → E (.ref C) none H) ∧ (q ≠ 0 → ∀ H' b, H b = none → Kp [] H H' → FrAt K H' b (lo p q) → Q (.ref b) H')
theorem del_upd {H : Hp} {a : Addr} {o : HO} (h : H a = none) : del (upd H a o) a = H := by
  funext b
  by_cases hb : b = a
  · rw [hb, del_same, h]
  · rw [del_ne hb, upd_ne hb]
theorem ok_lowest {P : Program} {w : World} {K : PySem.W.Frag} {mg : Str → Option Value} {base : Heap} (T : T P K mg) : FnOk P w K mg base (L2.CX P w) 3 T.a_lowest T.fd_lowest ["p", "q"] (spLowest K T.C_ZeroDenominator) := by
  refine T.F_lowest.okX sc_lowest (fun vs H Q E h => ?_) (fun cdv A outer s H vs Q E hr h => ?_)
  · obtain ⟨p, q, rfl, _⟩ := h
    rfl
  · obtain ⟨p, q, rfl, hb, h0, h1⟩ := h
    refine ⟨_, (pss_cons (ps_if (pt_cmpR op_eq (pv 1) pe_int (nomark _)) (pss_one (ps_raise rfl (takes_of rfl rfl rfl rfl) (Sup.pmk_oexN T.x_ZeroDenominator.S.T T.x_ZeroDenominator.iC T.x_ZeroDenominator.tI (ok_ZeroDenominator_init T) (hr.mono (by decide)) (T.bx_ZeroDenominator) pass0 (by rfl) T.x_ZeroDenominator.g))) pss_nil)
      (pss_cons (ps_set (i := 2) sc_lowest.nd rfl (by first | exact Or.inl rfl | exact Or.inr rfl) (pe_callBfun cr_gcd (by rfl) T.g_gcd (pa_cons (pv 0) (pa_cons (pv 1) pa_nil))))
      (Z.pss_consJ (ps_if (pt_cmpR op_lt (pv 1) pe_int (nomark _)) (pss_one (ps_set (i := 2) sc_lowest.nd rfl (by first | exact Or.inl rfl | exact Or.inr rfl) (pe_un un_neg (pv 2)))) pss_nil)
      (pss_one (ps_ret (pe_tup (pa_cons (pe_op Z.op_fdivA (pv 0) (pv 2)) (pa_cons (pe_op Z.op_fdivA (pv 1) (pv 2)) pa_nil)))))))), ?_⟩
    walk_at "z0"
    walk_at "z"
    refine Z.ite (fun hq => ?_) (fun hq => ?_)
    · refine Z.mkN fun a na => ⟨a, rfl, upd_same, rfl, upd_same, ?_⟩
      rw [del_upd na]
      exact h0 hq
    · walk_at "z"
      have hg := gI_ne (p := p) hq
      have hdv : Z.CDivA p (gI p q) := Z.divA (b := 8000) hg (by rw [gI_abs]; exact Nat.lt_of_le_of_lt (gN_le hq) hb) (by decide) (by decide)
      have hdv2 : Z.CDivA q (gI p q) := hdv
      refine Z.seqJ (fun σ' H' => σ' = [some (.int p), some (.int q), some (.int (gI p q))] ∧ H' = H) ?_ ?_
      · rintro σ' H' ⟨rfl, rfl⟩
        walk_at "z"
        refine Z.iC hdv ?_
        walk_at "z"
        refine Z.iC hdv2 ?_
        refine Z.tupK (fun b H1 nb k1 e1 => ?_)
        exact h1 hq _ _ nb k1 (tupT e1)
      · intro N jn
        walk_at "z"
        refine Z.ite (fun h2 => ?_) (fun h2 => ?_)
        · walk_at "z"
          refine jn _ _ ⟨?_, rfl⟩
          unfold gI
          rw [if_pos h2]; rfl
        · walk_at "z"
          refine jn _ _ ⟨?_, rfl⟩
          unfold gI
          rw [if_neg h2]; rfl
/-- two fractions in, a fraction out -/
def spF2 (K : PySem.W.Frag) (o : Fr → Fr → Fr) : Sp := fun vs H Q _ => ∃ (a b : Addr) (f g : Fr), vs = [.ref a, .ref b] ∧ FrAt K H a f ∧ FrAt K H b g ∧ f.2 ≠ 0 ∧ g.2 ≠ 0 ∧ FrB 3900 f ∧ FrB 3900 g ∧ ∀ H' c, H c = none → Kp [] H H' → FrAt K H' c (o f g) → Q (.ref c) H'
theorem ok_plus {P : Program} {w : World} {K : PySem.W.Frag} {mg : Str → Option Value} {base : Heap} (T : T P K mg) : FnOk P w K mg base CX0 4 T.a_plus T.fd_plus ["a", "b"] (spF2 K fplus) := by
  refine T.F_plus.ok sc_plus (fun vs H Q E h => ?_) (fun cdv A outer s H vs Q E hr h => ?_)
  · obtain ⟨a, b, f, g, rfl, _⟩ := h
    rfl
  · obtain ⟨a, b, f, g, rfl, ha, hb, hf, hg, Bf, Bg, q⟩ := h
    refine ⟨_, (pss_one (ps_ret (pe_call (ok_lowest T) (hr.mono (by decide)) (by rfl) T.g_lowest T.F_lowest.kp T.b_lowest .nil passL (pa_cons (pe_op op_add (pe_op op_mulW (pe_ix ix_tup (pv 0) pe_int (fun _ _ => rfl)) (pe_ix ix_tup (pv 1) pe_int (fun _ _ => rfl))) (pe_op op_mulW (pe_ix ix_tup (pv 1) pe_int (fun _ _ => rfl)) (pe_ix ix_tup (pv 0) pe_int (fun _ _ => rfl)))) (pa_cons (pe_op op_mulW (pe_ix ix_tup (pv 0) pe_int (fun _ _ => rfl)) (pe_ix ix_tup (pv 1) pe_int (fun _ _ => rfl))) pa_nil))))), ?_⟩
    walk_at "z0"
    walk_at "z"
    refine Z.ixT ha (fr0 f) ?_
    walk_at "z"
    refine Z.ixT hb (fr1 g) ?_
    walk_at "z"
    refine Z.iC (mul_ok Bf.1 Bg.2) ?_
    walk_at "z"
    refine Z.ixT hb (fr0 g) ?_
    walk_at "z"
    refine Z.ixT ha (fr1 f) ?_
    walk_at "z"
    refine Z.iC (mul_ok Bg.1 Bf.2) ?_
    walk_at "z"
    refine Z.ixT ha (fr1 f) ?_
    walk_at "z"
    refine Z.ixT hb (fr1 g) ?_
    walk_at "z"
    refine Z.iC (mul_ok Bf.2 Bg.2) ?_
    walk_at "z"
    exact ⟨_, _, rfl, up_B (mul_B Bf.2 Bg.2) (by decide), fun z => absurd z (Int.mul_ne_zero hf hg), fun _ H' c nc k e => q _ _ nc k e⟩
theorem ok_minus {P : Program} {w : World} {K : PySem.W.Frag} {mg : Str → Option Value} {base : Heap} (T : T P K mg) : FnOk P w K mg base CX0 4 T.a_minus T.fd_minus ["a", "b"] (spF2 K fminus) := by
  refine T.F_minus.ok sc_minus (fun vs H Q E h => ?_) (fun cdv A outer s H vs Q E hr h => ?_)
  · obtain ⟨a, b, f, g, rfl, _⟩ := h
    rfl
  · obtain ⟨a, b, f, g, rfl, ha, hb, hf, hg, Bf, Bg, q⟩ := h
    refine ⟨_, (pss_one (ps_ret (pe_call (ok_lowest T) (hr.mono (by decide)) (by rfl) T.g_lowest T.F_lowest.kp T.b_lowest .nil passL (pa_cons (pe_op op_sub (pe_op op_mulW (pe_ix ix_tup (pv 0) pe_int (fun _ _ => rfl)) (pe_ix ix_tup (pv 1) pe_int (fun _ _ => rfl))) (pe_op op_mulW (pe_ix ix_tup (pv 1) pe_int (fun _ _ => rfl)) (pe_ix ix_tup (pv 0) pe_int (fun _ _ => rfl)))) (pa_cons (pe_op op_mulW (pe_ix ix_tup (pv 0) pe_int (fun _ _ => rfl)) (pe_ix ix_tup (pv 1) pe_int (fun _ _ => rfl))) pa_nil))))), ?_⟩
    walk_at "z0"
    walk_at "z"
    refine Z.ixT ha (fr0 f) ?_
    walk_at "z"
    refine Z.ixT hb (fr1 g) ?_
    walk_at "z"
    refine Z.iC (mul_ok Bf.1 Bg.2) ?_
    walk_at "z"
    refine Z.ixT hb (fr0 g) ?_
    walk_at "z"
    refine Z.ixT ha (fr1 f) ?_
    walk_at "z"
    refine Z.iC (mul_ok Bg.1 Bf.2) ?_
    walk_at "z"
    refine Z.ixT ha (fr1 f) ?_
    walk_at "z"
    refine Z.ixT hb (fr1 g) ?_
    walk_at "z"
    refine Z.iC (mul_ok Bf.2 Bg.2) ?_
    walk_at "z"
    exact ⟨_, _, rfl, up_B (mul_B Bf.2 Bg.2) (by decide), fun z => absurd z (Int.mul_ne_zero hf hg), fun _ H' c nc k e => q _ _ nc k e⟩
theorem ok_times {P : Program} {w : World} {K : PySem.W.Frag} {mg : Str → Option Value} {base : Heap} (T : T P K mg) : FnOk P w K mg base CX0 4 T.a_times T.fd_times ["a", "b"] (spF2 K ftimes) := by
  refine T.F_times.ok sc_times (fun vs H Q E h => ?_) (fun cdv A outer s H vs Q E hr h => ?_)
  · obtain ⟨a, b, f, g, rfl, _⟩ := h
    rfl
  · obtain ⟨a, b, f, g, rfl, ha, hb, hf, hg, Bf, Bg, q⟩ := h
    refine ⟨_, (pss_one (ps_ret (pe_call (ok_lowest T) (hr.mono (by decide)) (by rfl) T.g_lowest T.F_lowest.kp T.b_lowest .nil passL (pa_cons (pe_op op_mulW (pe_ix ix_tup (pv 0) pe_int (fun _ _ => rfl)) (pe_ix ix_tup (pv 1) pe_int (fun _ _ => rfl))) (pa_cons (pe_op op_mulW (pe_ix ix_tup (pv 0) pe_int (fun _ _ => rfl)) (pe_ix ix_tup (pv 1) pe_int (fun _ _ => rfl))) pa_nil))))), ?_⟩
    walk_at "z0"
    walk_at "z"
    refine Z.ixT ha (fr0 f) ?_
    walk_at "z"
    refine Z.ixT hb (fr0 g) ?_
    walk_at "z"
    refine Z.iC (mul_ok Bf.1 Bg.1) ?_
    walk_at "z"
    refine Z.ixT ha (fr1 f) ?_
    walk_at "z"
    refine Z.ixT hb (fr1 g) ?_
    walk_at "z"
    refine Z.iC (mul_ok Bf.2 Bg.2) ?_
    walk_at "z"
    exact ⟨_, _, rfl, up_B (mul_B Bf.2 Bg.2) (by decide), fun z => absurd z (Int.mul_ne_zero hf hg), fun _ H' c nc k e => q _ _ nc k e⟩
def spOver (K : PySem.W.Frag) (C : Addr) : Sp := fun vs H Q E => ∃ (a b : Addr) (f g : Fr), vs = [.ref a, .ref b] ∧ FrAt K H a f ∧ FrAt K H b g ∧ f.2 ≠ 0 ∧ FrB 3900 f ∧ FrB 3900 g ∧ (g.1 = 0 → E (.ref C) none H) ∧ (g.1 ≠ 0 → ∀ H' c, H c = none → Kp [] H H' → FrAt K H' c (fover f g) → Q (.ref c) H')
theorem ok_over {P : Program} {w : World} {K : PySem.W.Frag} {mg : Str → Option Value} {base : Heap} (T : T P K mg) : FnOk P w K mg base (L2.CX P w) 4 T.a_over T.fd_over ["a", "b"] (spOver K T.C_ZeroDenominator) := by
  refine T.F_over.okX sc_over (fun vs H Q E h => ?_) (fun cdv A outer s H vs Q E hr h => ?_)
  · obtain ⟨a, b, f, g, rfl, _⟩ := h
    rfl
  · obtain ⟨a, b, f, g, rfl, ha, hb, hf, Bf, Bg, q0, q1⟩ := h
    refine ⟨_, (pss_one (ps_ret (pe_call (ok_lowest T) (hr.mono (by decide)) (by rfl) T.g_lowest T.F_lowest.kp T.b_lowest .nil (passes_call (takes_of rfl rfl rfl rfl) (fun _ _ _ _ h => h)) (pa_cons (pe_op op_mulW (pe_ix ix_tup (pv 0) pe_int (fun _ _ => rfl)) (pe_ix ix_tup (pv 1) pe_int (fun _ _ => rfl))) (pa_cons (pe_op op_mulW (pe_ix ix_tup (pv 0) pe_int (fun _ _ => rfl)) (pe_ix ix_tup (pv 1) pe_int (fun _ _ => rfl))) pa_nil))))), ?_⟩
    walk_at "z0"
    walk_at "z"
    refine Z.ixT ha (fr0 f) ?_
    walk_at "z"
    refine Z.ixT hb (fr1 g) ?_
    walk_at "z"
    refine Z.iC (mul_ok Bf.1 Bg.2) ?_
    walk_at "z"
    refine Z.ixT ha (fr1 f) ?_
    walk_at "z"
    refine Z.ixT hb (fr0 g) ?_
    walk_at "z"
    refine Z.iC (mul_ok Bf.2 Bg.1) ?_
    walk_at "z"
    refine ⟨_, _, rfl, up_B (mul_B Bf.2 Bg.1) (by decide), fun z => ?_, fun z H' c nc k e => ?_⟩
    · rcases Int.mul_eq_zero.mp z with z | z
      · exact absurd z hf
      · exact q0 z
    · exact q1 (fun y => z (by rw [y, Int.mul_zero])) _ _ nc k e
def spLess (K : PySem.W.Frag) : Sp := fun vs H Q _ => ∃ (a b : Addr) (f g : Fr), vs = [.ref a, .ref b] ∧ FrAt K H a f ∧ FrAt K H b g ∧ FrB 3900 f ∧ FrB 3900 g ∧ Q (.bl (fless f g)) H
theorem ok_less {P : Program} {w : World} {K : PySem.W.Frag} {mg : Str → Option Value} {base : Heap} (T : T P K mg) : FnOk P w K mg base CX0 1 T.a_less T.fd_less ["a", "b"] (spLess K) := by
  refine T.F_less.ok sc_less (fun vs H Q E h => ?_) (fun cdv A outer s H vs Q E hr h => ?_)
  · obtain ⟨a, b, f, g, rfl, _⟩ := h
    rfl
  · obtain ⟨a, b, f, g, rfl, ha, hb, Bf, Bg, q⟩ := h
    refine ⟨_, (pss_one (ps_ret (pe_cmpR op_lt (pe_op op_mulW (pe_ix ix_tup (pv 0) pe_int (fun _ _ => rfl)) (pe_ix ix_tup (pv 1) pe_int (fun _ _ => rfl))) (pe_op op_mulW (pe_ix ix_tup (pv 1) pe_int (fun _ _ => rfl)) (pe_ix ix_tup (pv 0) pe_int (fun _ _ => rfl))) (nomark _)))), ?_⟩
    walk_at "z0"
    walk_at "z"
    refine Z.ixT ha (fr0 f) ?_
    walk_at "z"
    refine Z.ixT hb (fr1 g) ?_
    walk_at "z"
    refine Z.iC (mul_ok Bf.1 Bg.2) ?_
    walk_at "z"
    refine Z.ixT hb (fr0 g) ?_
    walk_at "z"
    refine Z.ixT ha (fr1 f) ?_
    walk_at "z"
    refine Z.iC (mul_ok Bg.1 Bf.2) ?_
    walk_at "z"
    exact q
/-- lists of fractions -/
def FrsAt (K : PySem.W.Frag) (H : Hp) (as : List Addr) (fs : List Fr) : Prop := Paired (fun a f => FrAt K H a f) as fs
theorem FrsAt.kp {M : List Addr} {H H' : Hp} {as : List Addr} {fs : List Fr} (h : FrsAt K H as fs) (k : Kp M H H') (n : ∀ x ∈ M, NoTup H x) : FrsAt K H' as fs := by
  induction h with
  | nil => exact .nil
  | cons r t ih => exact .cons (FrAt.kp r k n) ih
theorem FrsAt.kp0 {H H' : Hp} {as : List Addr} {fs : List Fr} (h : FrsAt K H as fs) (k : Kp [] H H') : FrsAt K H' as fs := h.kp k fun _ h => by cases h
theorem FrsAt.kpl {H H' : Hp} {as : List Addr} {fs : List Fr} {l : Addr} {xs : List V} (h : FrsAt K H as fs) (k : Kp [l] H H') (e : H l = some (.lst xs)) : FrsAt K H' as fs := h.kp k fun x hx => by
  rw [List.mem_singleton.mp hx]
  exact NoTup.lst e
theorem FrsAt.get {H : Hp} : ∀ {as : List Addr} {fs : List Fr} {i : Nat} {v : V}, FrsAt K H as fs → (as.map V.ref)[i]? = some v → ∃ a f, v = .ref a ∧ fs[i]? = some f ∧ FrAt K H a f
  | _, _, i, v, .nil, h => by simp at h
  | _, _, 0, v, .cons r t, h => by
    simp at h
    exact ⟨_, _, h.symm, rfl, r⟩
  | _, _, i + 1, v, .cons r t, h => by
    obtain ⟨a, f, e1, e2, e3⟩ := FrsAt.get (i := i) t (by simpa using h)
    exact ⟨a, f, e1, by simpa using e2, e3⟩
theorem FrsAt.len {H : Hp} {as : List Addr} {fs : List Fr} (h : FrsAt K H as fs) : as.length = fs.length := Paired.length h
theorem FrsAt.snoc {H : Hp} {as : List Addr} {fs : List Fr} {a : Addr} {f : Fr} (h : FrsAt K H as fs) (r : FrAt K H a f) : FrsAt K H (as ++ [a]) (fs ++ [f]) := by
  induction h with
  | nil => exact .cons r .nil
  | cons r t ih => exact .cons r ih
theorem FrsAt.app {H : Hp} {as bs : List Addr} {fs gs : List Fr} (h : FrsAt K H as fs) (r : FrsAt K H bs gs) : FrsAt K H (as ++ bs) (fs ++ gs) := by
  induction h with
  | nil => exact r
  | cons r t ih => exact .cons r ih
theorem FrsAt.take {H : Hp} : ∀ {as : List Addr} {fs : List Fr} (i : Nat), FrsAt K H as fs → FrsAt K H (as.take i) (fs.take i)
  | _, _, 0, _ => by rw [List.take_zero, List.take_zero]; exact .nil
  | _, _, i + 1, .nil => by rw [List.take_nil, List.take_nil]; exact .nil
  | _, _, i + 1, .cons r t => .cons r (FrsAt.take i t)
theorem FrsAt.drop {H : Hp} : ∀ {as : List Addr} {fs : List Fr} (i : Nat), FrsAt K H as fs → FrsAt K H (as.drop i) (fs.drop i)
  | _, _, 0, h => h
  | _, _, i + 1, .nil => by rw [List.drop_nil, List.drop_nil]; exact .nil
  | _, _, i + 1, .cons r t => FrsAt.drop i t
/-- data -/
def frD (f : Fr) : PyData := .tuple [.int f.1, .int f.2]
theorem dpF {H : Hp} {a : Addr} {f : Fr} (h : FrAt K H a f) : Dp K H (.ref a) (frD f) := .tup h (.cons (.int _) (.cons (.int _) .nil))
theorem frD_sh (f : Fr) : SeqAt.shaped (frD f) = true := by
  simp [frD, SeqAt.shaped, PyData.canLay0, PyData.canLayAll0, PyData.depth, PyData.depthAll]
theorem frD_eq (f : Fr) : PyData.eqv (frD f) (frD f) = true := SeqAt.eqv_refl _ (by simp [frD, PyData.canLay0, PyData.canLayAll0])
theorem neFF {K : PySem.W.Frag} {H : Hp} {Q : VK} {a b : Addr} {f : Fr} (h1 : FrAt K H a f) (h2 : FrAt K H b f) (q : Q (.bl false) H) : rNeD K (.ref a) (.ref b) H Q :=
  ⟨_, _, dpF h1, dpF h2, frD_sh _, frD_sh _, by rw [frD_eq]; exact q⟩
theorem dpFs {K : PySem.W.Frag} {H : Hp} : ∀ {as : List Addr} {fs : List Fr}, FrsAt K H as fs → DpAll K H (as.map V.ref) (fs.map frD)
  | _, _, .nil => .nil
  | _, _, .cons r t => .cons (dpF r) (dpFs t)
theorem layFs : ∀ fs : List Fr, PyData.canLayAll0 (fs.map frD) = true
  | [] => by simp [PyData.canLayAll0]
  | f :: r => by simp [PyData.canLayAll0, frD, PyData.canLay0, layFs r]
theorem depthFs : ∀ fs : List Fr, PyData.depthAll (fs.map frD) ≤ 1
  | [] => by simp [PyData.depthAll]
  | f :: r => by
    have := depthFs r
    simp [PyData.depthAll, frD, PyData.depth]
    exact Nat.max_le.mpr ⟨by omega, this⟩
theorem shFs (fs : List Fr) : SeqAt.shaped (.list (fs.map frD)) = true := by
  have := depthFs fs
  simp only [SeqAt.shaped, PyData.canLay0, PyData.depth, layFs, Bool.true_and]
  exact decide_eq_true (by omega)
theorem neFL {K : PySem.W.Frag} {H : Hp} {Q : VK} {a b : Addr} {as : List Addr} {fs : List Fr} (h1 : H a = some (.lst (as.map V.ref))) (h2 : H b = some (.lst (as.map V.ref))) (h : FrsAt K H as fs) (q : Q (.bl false) H) : rNeD K (.ref a) (.ref b) H Q :=
  ⟨_, _, .lst (lstL h1) (dpFs h), .lst (lstL h2) (dpFs h), shFs _, shFs _, by rw [SeqAt.eqv_refl (.list (fs.map frD)) (by simp [PyData.canLay0, layFs])]; exact q⟩
end frac
/-- sums, from the left -/
def fsum (t : Fr) (fs : List Fr) : Fr := fs.foldl fplus t
theorem fsum_B : ∀ {fs : List Fr} {t : Fr} {n m : Nat}, FrB n t → t.2 ≠ 0 → (∀ f ∈ fs, FrB m f ∧ f.2 ≠ 0) → FrB (n + fs.length * (m + 1)) (fsum t fs) ∧ (fsum t fs).2 ≠ 0
  | [], t, n, m, h, h0, _ => by
    refine ⟨?_, h0⟩
    show FrB (n + 0 * (m + 1)) t
    rw [Nat.zero_mul]
    exact h
  | f :: r, t, n, m, h, h0, hf => by
    have h1 := hf f (by simp)
    have hp := fplus_pos h0 h1.2
    have ih := fsum_B (fs := r) (t := fplus t f) (n := n + m + 1) (m := m) (fplus_B h h1.1 h0 h1.2) (by omega) fun g hg => hf g (by simp [hg])
    refine ⟨?_, ih.2⟩
    have e : n + (f :: r).length * (m + 1) = n + m + 1 + r.length * (m + 1) := by
      rw [List.length_cons, Nat.add_mul]
      omega
    rw [e]
    exact ih.1
theorem fsum_take {t : Fr} {fs : List Fr} {i : Nat} {f : Fr} (h : fs[i]? = some f) : fsum t (fs.take (i + 1)) = fplus (fsum t (fs.take i)) f := by
  unfold fsum
  rw [List.take_add_one, h, List.foldl_append]
  rfl
def spSumOf (K : PySem.W.Frag) (m k : Nat) : Sp := fun vs H Q _ => ∃ (a : Addr) (as : List Addr) (fs : List Fr), vs = [.ref a] ∧ SqL K H a (as.map V.ref) ∧ FrsAt K H as fs ∧ (∀ f ∈ fs, FrB m f ∧ f.2 ≠ 0) ∧ fs.length ≤ k ∧ ∀ H' c, Kp [] H H' → FrAt K H' c (fsum (0, 1) fs) → Q (.ref c) H'
theorem ok_sum_of_any {P : Program} {w : World} {K : PySem.W.Frag} {mg : Str → Option Value} {base : Heap} (T : T P K mg) (m k : Nat) (hm : m ≤ 3900) (hk : 1 + k * (m + 1) ≤ 3900) : FnOk P w K mg base CX0 5 T.a_sum_of T.fd_sum_of ["fractions"] (spSumOf K m k) := by
  refine T.F_sum_of.ok sc_sum_of (fun vs H Q E h => ?_) (fun cdv A outer s H vs Q E hr h => ?_)
  · obtain ⟨a, as, fs, rfl, _⟩ := h
    rfl
  · obtain ⟨a, as, fs, rfl, hS, hF, hB, hl, q⟩ := h
    refine ⟨_, (pss_cons (ps_set (i := 1) sc_sum_of.nd rfl (by first | exact Or.inl rfl | exact Or.inr rfl) (pe_glob (v := .ref T.k_ZERO) (by rfl) T.g_ZERO rfl))
      (pss_cons (ps_for PassesOwn.never rfl (pi_list (pv 0)) (pg_name (i := 2) sc_sum_of.nd rfl (by first | exact Or.inl rfl | exact Or.inr rfl)) (pss_one (ps_set (i := 1) sc_sum_of.nd rfl (by first | exact Or.inl rfl | exact Or.inr rfl) (pe_call (ok_plus T) (hr.mono (by decide)) (by rfl) T.g_plus T.F_plus.kp T.b_plus .nil pass0 (pa_cons (pv 1) (pa_cons (pv 2) pa_nil))))))
      (pss_one (ps_ret (pv 1))))), ?_⟩
    walk_at "z0"
    walk_at "z"
    refine Z.forl (as.map V.ref) hS (fun i σ' H' => ∃ c y, σ' = [some (.ref a), some (.ref c), y] ∧ Kp [] H H' ∧ FrAt K H' c (fsum (0, 1) (fs.take i))) ?_ ?_ ?_ ?_
    · exact ⟨T.k_ZERO, none, rfl, Kp.refl _, T.q_ZERO H⟩
    · rintro i σ' H' _ ⟨c, y, rfl, k2, _⟩
      exact k2.seq nin0 hS
    · rintro i v σ' H' hv ⟨c, y, rfl, k2, e2⟩
      obtain ⟨x, f, rfl, hf, hx⟩ := (hF.kp0 k2).get hv
      have hfB := hB f (List.mem_of_getElem? hf)
      have hB1 := fsum_B (fs := fs.take i) (t := (0, 1)) (n := 1) (m := m) ⟨by decide, by decide⟩ (by decide) fun g hg => hB g (List.mem_of_mem_take hg)
      have hle : 1 + (fs.take i).length * (m + 1) ≤ 3900 := Nat.le_trans (Nat.add_le_add_left (Nat.mul_le_mul_right _ (Nat.le_trans (by rw [List.length_take]; exact Nat.min_le_right _ _) hl)) 1) hk
      walk_at "z"
      refine ⟨c, x, _, f, rfl, e2, hx, hB1.2, hfB.2, hB1.1.mono hle, hfB.1.mono hm, fun H3 d nd k3 e3 => ?_⟩
      walk_at "z"
      exact ⟨d, _, rfl, k2.trans k3, by rw [fsum_take hf]; exact e3⟩
    · rintro σ' H' ⟨c, y, rfl, k2, e2⟩
      walk_at "z"
      rw [List.length_map, hF.len, List.take_length] at e2
      exact q _ _ k2 e2

/-! ### fractions as rational numbers -/
def rv (f : Int × Int) : Rat := (f.1 : Rat) / (f.2 : Rat)
theorem ratNe {q : Int} (h : q ≠ 0) : (q : Rat) ≠ 0 := fun z => h (by exact_mod_cast z)
theorem ratPos {q : Int} (h : 0 < q) : (0 : Rat) < (q : Rat) := by exact_mod_cast h
theorem div_eqR {a b c : Rat} (h : b ≠ 0) : a / b = c ↔ a = c * b := by
  constructor
  · rintro rfl
    rw [Rat.div_mul_cancel h]
  · rintro rfl
    rw [Rat.mul_div_cancel h]
theorem rv_lo {p q : Int} (h : q ≠ 0) : rv (lo p q) = (p : Rat) / (q : Rat) := by
  obtain ⟨a, b, e, h1, h2, h3, h4⟩ := lo_spec (p := p) h
  rw [e]
  have hb : (b : Rat) ≠ 0 := ratNe (by omega)
  have hg : (gI p q : Rat) ≠ 0 := ratNe (gI_ne h)
  have hq : (q : Rat) = (gI p q : Rat) * (b : Rat) := by exact_mod_cast h4
  have hp : (p : Rat) = (gI p q : Rat) * (a : Rat) := by exact_mod_cast h3
  show (a : Rat) / (b : Rat) = (p : Rat) / (q : Rat)
  rw [hp, hq]
  grind

/-- a fraction in lowest terms -/
def Low (f : Int × Int) : Prop := 1 ≤ f.2 ∧ Nat.gcd f.1.natAbs f.2.natAbs = 1
theorem lo_low {p q : Int} (h : q ≠ 0) : Low (lo p q) := ⟨lo_pos h, lo_cop h⟩
theorem Low.ne {f : Int × Int} (h : Low f) : f.2 ≠ 0 := by have := h.1; omega
theorem Low.pos {f : Int × Int} (h : Low f) : (0 : Rat) < (f.2 : Rat) := ratPos (by have := h.1; omega)
theorem rv_eqI {f g : Int × Int} (h1 : f.2 ≠ 0) (h2 : g.2 ≠ 0) : rv f = rv g ↔ f.1 * g.2 = g.1 * f.2 := by
  have a1 := ratNe h1
  have a2 := ratNe h2
  unfold rv
  constructor
  · intro h
    have h3 : (f.1 : Rat) * (g.2 : Rat) = (g.1 : Rat) * (f.2 : Rat) := by grind
    exact_mod_cast h3
  · intro h
    have h3 : (f.1 : Rat) * (g.2 : Rat) = (g.1 : Rat) * (f.2 : Rat) := by exact_mod_cast h
    grind
theorem low_eq {f g : Int × Int} (h1 : Low f) (h2 : Low g) (h : rv f = rv g) : f = g := by
  have h3 := (rv_eqI h1.ne h2.ne).mp h
  obtain ⟨a, b⟩ := f
  obtain ⟨c, d⟩ := g
  obtain ⟨hb, h1⟩ := h1
  obtain ⟨hd, h2⟩ := h2
  dsimp only at *
  have e1 : a.natAbs * d.natAbs = c.natAbs * b.natAbs := by rw [← Int.natAbs_mul, ← Int.natAbs_mul, h3]
  have d1 : b.natAbs ∣ d.natAbs := by
    have : b.natAbs ∣ a.natAbs * d.natAbs := ⟨c.natAbs, by rw [e1, Nat.mul_comm]⟩
    exact Nat.Coprime.dvd_of_dvd_mul_left (Nat.Coprime.symm h1) this
  have d2 : d.natAbs ∣ b.natAbs := by
    have : d.natAbs ∣ c.natAbs * b.natAbs := ⟨a.natAbs, by rw [← e1, Nat.mul_comm]⟩
    exact Nat.Coprime.dvd_of_dvd_mul_left (Nat.Coprime.symm h2) this
  have e2 := Nat.dvd_antisymm d1 d2
  have e3 : b = d := by omega
  subst e3
  have e4 : a = c := Int.eq_of_mul_eq_mul_right (by omega) h3
  rw [e4]
theorem rv_lt {f g : Int × Int} (h1 : 1 ≤ f.2) (h2 : 1 ≤ g.2) : f.1 * g.2 < g.1 * f.2 ↔ rv f < rv g := by
  have a1 : (0 : Rat) < (f.2 : Rat) := ratPos (by omega)
  have a2 : (0 : Rat) < (g.2 : Rat) := ratPos (by omega)
  have e1 : (f.1 : Rat) = rv f * (f.2 : Rat) := by unfold rv; rw [Rat.div_mul_cancel (ratNe (by omega))]
  have e2 : (g.1 : Rat) = rv g * (g.2 : Rat) := by unfold rv; rw [Rat.div_mul_cancel (ratNe (by omega))]
  have hp : (0 : Rat) < (f.2 : Rat) * (g.2 : Rat) := Rat.mul_pos a1 a2
  have k : f.1 * g.2 < g.1 * f.2 ↔ (f.1 : Rat) * (g.2 : Rat) < (g.1 : Rat) * (f.2 : Rat) := by
    constructor
    · intro h; exact_mod_cast h
    · intro h; exact_mod_cast h
  rw [k, e1, e2]
  have e3 : rv f * (f.2 : Rat) * (g.2 : Rat) = rv f * ((f.2 : Rat) * (g.2 : Rat)) := by grind
  have e4 : rv g * (g.2 : Rat) * (f.2 : Rat) = rv g * ((f.2 : Rat) * (g.2 : Rat)) := by grind
  rw [e3, e4]
  constructor
  · intro h
    by_cases z : rv f < rv g
    · exact z
    · by_cases z2 : rv f = rv g
      · rw [z2] at h; exact absurd h (Rat.lt_irrefl)
      · have z3 : rv g < rv f := by grind
        have := Rat.mul_lt_mul_of_pos_right z3 hp
        grind
  · intro h
    exact Rat.mul_lt_mul_of_pos_right h hp
theorem rv_pos {f : Int × Int} (h1 : 1 ≤ f.2) : 0 < f.1 ↔ 0 < rv f := by
  have := rv_lt (f := (0, 1)) (g := f) (by decide) h1
  have e : rv (0, 1) = 0 := by unfold rv; grind
  rw [e] at this
  rw [← this]
  show _ ↔ 0 * f.2 < f.1 * 1
  rw [Int.zero_mul, Int.mul_one]
theorem rv_int (n : Int) : rv (n, 1) = (n : Rat) := by unfold rv; grind

/-! ### thresholds -/
/-- the sum of the lesser ones of t and the weights -/
def cap (t : Rat) : List Rat → Rat
  | [] => 0
  | w :: r => (if w < t then w else t) + cap t r
structure Thr (ws : List Rat) (k : Nat) (t : Rat) : Prop where
  small : ws.length ≤ k → t = 0
  big : k < ws.length → 0 < t ∧ cap t ws = (k : Rat) * t
theorem cap_app (t : Rat) : ∀ a b : List Rat, cap t (a ++ b) = cap t a + cap t b
  | [], b => by show cap t b = 0 + cap t b; grind
  | w :: r, b => by
    show (if w < t then w else t) + cap t (r ++ b) = (if w < t then w else t) + cap t r + cap t b
    rw [cap_app t r b]
    grind
theorem cap_all {t : Rat} : ∀ {ws : List Rat}, (∀ w ∈ ws, t ≤ w) → cap t ws = (ws.length : Rat) * t
  | [], _ => by show (0 : Rat) = ((0 : Nat) : Rat) * t; grind
  | w :: r, h => by
    have h1 := h w (by simp)
    show (if w < t then w else t) + cap t r = _
    rw [cap_all (ws := r) fun z hz => h z (by simp [hz]), if_neg (by grind), List.length_cons]
    have e : ((r.length + 1 : Nat) : Rat) = (r.length : Rat) + 1 := by exact_mod_cast rfl
    rw [e]
    grind
theorem cap_ge {t : Rat} (ht : 0 ≤ t) : ∀ {ws : List Rat}, (∀ w ∈ ws, 0 < w) → 0 ≤ cap t ws
  | [], _ => by show (0 : Rat) ≤ 0; grind
  | w :: r, h => by
    have h1 := h w (by simp)
    have h2 := cap_ge ht (ws := r) fun z hz => h z (by simp [hz])
    show 0 ≤ (if w < t then w else t) + cap t r
    split <;> grind
theorem cap_one {s t w : Rat} (hs : 0 < s) (h : s < t) (hw : 0 < w) : (if w < t then w else t) * s ≤ (if w < s then w else s) * t ∧ (w < t → (if w < t then w else t) * s < (if w < s then w else s) * t) := by
  have ht : 0 < t := by grind
  by_cases h1 : w < s
  · have h2 : w < t := by grind
    rw [if_pos h1, if_pos h2]
    have := Rat.mul_lt_mul_of_pos_left h hw
    exact ⟨by grind, fun _ => this⟩
  · rw [if_neg h1]
    by_cases h2 : w < t
    · rw [if_pos h2]
      have := Rat.mul_lt_mul_of_pos_right h2 hs
      have e : s * t = t * s := Rat.mul_comm s t
      rw [e]
      exact ⟨by grind, fun _ => this⟩
    · rw [if_neg h2]
      exact ⟨by grind, fun z => absurd z h2⟩
theorem cap_cmp {s t : Rat} (hs : 0 < s) (h : s < t) : ∀ {ws : List Rat}, (∀ w ∈ ws, 0 < w) → cap t ws * s ≤ cap s ws * t ∧ (cap t ws * s = cap s ws * t → ∀ w ∈ ws, t ≤ w)
  | [], _ => ⟨by show (0 : Rat) * s ≤ 0 * t; grind, fun _ w hw => by cases hw⟩
  | w :: r, hp => by
    have h1 := cap_one hs h (hp w (by simp))
    have h2 := cap_cmp hs h (ws := r) fun z hz => hp z (by simp [hz])
    have e1 : cap t (w :: r) = (if w < t then w else t) + cap t r := rfl
    have e2 : cap s (w :: r) = (if w < s then w else s) + cap s r := rfl
    rw [e1, e2, Rat.add_mul, Rat.add_mul]
    generalize (if w < t then w else t) * s = a at *
    generalize (if w < s then w else s) * t = b at *
    generalize cap t r * s = c at *
    generalize cap s r * t = d at *
    refine ⟨by grind, fun e z hz => ?_⟩
    rcases List.mem_cons.mp hz with rfl | hz
    · by_cases hw : z < t
      · have := h1.2 hw
        grind
      · grind
    · exact h2.2 (by grind) z hz
theorem natR_lt {a b : Nat} (h : a < b) : (a : Rat) < (b : Rat) := by exact_mod_cast h
/-- above the threshold there is room -/
theorem thr_le {ws : List Rat} {k : Nat} {t s : Rat} (hp : ∀ w ∈ ws, 0 < w) (h : Thr ws k t) (hk : k < ws.length) (hs : 0 < s) (hc : cap s ws ≤ (k : Rat) * s) : t ≤ s := by
  by_cases z : t ≤ s
  · exact z
  · have hst : s < t := by grind
    obtain ⟨ht, e⟩ := h.big hk
    have h1 := cap_cmp hs hst hp
    have h2 : cap s ws * t ≤ (k : Rat) * s * t := Rat.mul_le_mul_of_nonneg_right hc (by grind)
    rw [e] at h1
    have h3 : (k : Rat) * t * s = (k : Rat) * s * t := by grind
    have h4 := h1.2 (by grind)
    have h5 := cap_all h4
    rw [e] at h5
    have h6 := Rat.mul_lt_mul_of_pos_right (natR_lt hk) ht
    grind
theorem thr_ge {ws : List Rat} {k : Nat} {t s : Rat} (hp : ∀ w ∈ ws, 0 < w) (h : Thr ws k t) (hk : k < ws.length) (hs : 0 < s) (hc : (k : Rat) * s ≤ cap s ws) : s ≤ t := by
  by_cases z : s ≤ t
  · exact z
  · have hst : t < s := by grind
    obtain ⟨ht, e⟩ := h.big hk
    have h1 := cap_cmp ht hst hp
    have h2 : (k : Rat) * s * t ≤ cap s ws * t := Rat.mul_le_mul_of_nonneg_right hc (by grind)
    rw [e] at h1
    have h3 : (k : Rat) * t * s = (k : Rat) * s * t := by grind
    have h4 := h1.2 (by grind)
    have h7 : ∀ w ∈ ws, t ≤ w := fun w hw => by have := h4 w hw; grind
    have h5 := cap_all h7
    rw [e] at h5
    have h6 := Rat.mul_lt_mul_of_pos_right (natR_lt hk) ht
    grind
theorem thr_uniq {ws : List Rat} {k : Nat} {t s : Rat} (hp : ∀ w ∈ ws, 0 < w) (h : Thr ws k t) (h2 : Thr ws k s) : t = s := by
  by_cases hk : k < ws.length
  · obtain ⟨hs, e⟩ := h2.big hk
    have a := thr_le hp h hk hs (by grind)
    have b := thr_ge hp h hk hs (by grind)
    grind
  · rw [h.small (by omega), h2.small (by omega)]
theorem thr_nonneg {ws : List Rat} {k : Nat} {t : Rat} (h : Thr ws k t) : 0 ≤ t := by
  by_cases hk : k < ws.length
  · have := (h.big hk).1; grind
  · rw [h.small (by omega)]; grind
theorem cap_perm {t : Rat} {a b : List Rat} (h : a.Perm b) : cap t a = cap t b := by
  induction h with
  | nil => rfl
  | cons x _ ih => show _ + cap t _ = _ + cap t _; rw [ih]
  | swap x y l => show _ + (_ + cap t l) = _ + (_ + cap t l); grind
  | trans _ _ h1 h2 => exact h1.trans h2
theorem Thr.perm {a b : List Rat} {k : Nat} {t : Rat} (h : Thr a k t) (p : a.Perm b) : Thr b k t := ⟨fun hl => h.small (by rw [p.length_eq]; exact hl), fun hl => by rw [← cap_perm p]; exact h.big (by rw [p.length_eq]; exact hl)⟩

/-! ### calculations with fractions, as rational numbers -/
theorem rv_fplus {f g : Fr} (h1 : f.2 ≠ 0) (h2 : g.2 ≠ 0) : rv (fplus f g) = rv f + rv g := by
  unfold fplus
  rw [rv_lo (Int.mul_ne_zero h1 h2)]
  have a1 := ratNe h1
  have a2 := ratNe h2
  have e1 : ((f.1 * g.2 + g.1 * f.2 : Int) : Rat) = (f.1 : Rat) * (g.2 : Rat) + (g.1 : Rat) * (f.2 : Rat) := by exact_mod_cast rfl
  have e2 : ((f.2 * g.2 : Int) : Rat) = (f.2 : Rat) * (g.2 : Rat) := by exact_mod_cast rfl
  rw [e1, e2]
  unfold rv
  grind
theorem rv_fminus {f g : Fr} (h1 : f.2 ≠ 0) (h2 : g.2 ≠ 0) : rv (fminus f g) = rv f - rv g := by
  unfold fminus
  rw [rv_lo (Int.mul_ne_zero h1 h2)]
  have a1 := ratNe h1
  have a2 := ratNe h2
  have e1 : ((f.1 * g.2 - g.1 * f.2 : Int) : Rat) = (f.1 : Rat) * (g.2 : Rat) - (g.1 : Rat) * (f.2 : Rat) := by exact_mod_cast rfl
  have e2 : ((f.2 * g.2 : Int) : Rat) = (f.2 : Rat) * (g.2 : Rat) := by exact_mod_cast rfl
  rw [e1, e2]
  unfold rv
  grind
theorem rv_ftimes {f g : Fr} (h1 : f.2 ≠ 0) (h2 : g.2 ≠ 0) : rv (ftimes f g) = rv f * rv g := by
  unfold ftimes
  rw [rv_lo (Int.mul_ne_zero h1 h2)]
  have a1 := ratNe h1
  have a2 := ratNe h2
  have e1 : ((f.1 * g.1 : Int) : Rat) = (f.1 : Rat) * (g.1 : Rat) := by exact_mod_cast rfl
  have e2 : ((f.2 * g.2 : Int) : Rat) = (f.2 : Rat) * (g.2 : Rat) := by exact_mod_cast rfl
  rw [e1, e2]
  unfold rv
  grind
theorem fless_iff {f g : Fr} (h1 : 1 ≤ f.2) (h2 : 1 ≤ g.2) : fless f g = decide (rv f < rv g) := by
  unfold fless
  rw [decide_eq_decide]
  exact rv_lt h1 h2
theorem fplus_low {f g : Fr} (h1 : f.2 ≠ 0) (h2 : g.2 ≠ 0) : Low (fplus f g) := lo_low (Int.mul_ne_zero h1 h2)
theorem rv_fsum : ∀ {fs : List Fr} {t : Fr}, Low t → (∀ f ∈ fs, f.2 ≠ 0) → rv (fsum t fs) = rv t + (fs.map rv).sum ∧ Low (fsum t fs)
  | [], t, h, _ => ⟨by show rv t = rv t + 0; grind, h⟩
  | f :: r, t, h, hf => by
    have h1 := hf f (by simp)
    have ih := rv_fsum (fs := r) (t := fplus t f) (fplus_low h.ne h1) fun g hg => hf g (by simp [hg])
    refine ⟨?_, ih.2⟩
    show rv (fsum (fplus t f) r) = _
    rw [ih.1, rv_fplus h.ne h1, List.map_cons, List.sum_cons]
    grind
theorem eqv_fr (f g : Fr) : PyData.eqv (frD f) (frD g) = decide (f = g) := by
  obtain ⟨a, b⟩ := f
  obtain ⟨c, d⟩ := g
  simp [frD, PyData.eqv, PyData.eqvAll, Prod.ext_iff]
  rfl
theorem eqF {K : PySem.W.Frag} {H : Hp} {Q : VK} {a b : Addr} {f g : Fr} (h1 : FrAt K H a f) (h2 : FrAt K H b g) (q : Q (.bl (decide (f = g))) H) : rEqD K (.ref a) (.ref b) H Q :=
  ⟨_, _, dpF h1, dpF h2, frD_sh _, frD_sh _, by rw [eqv_fr]; exact q⟩
theorem neF {K : PySem.W.Frag} {H : Hp} {Q : VK} {a b : Addr} {f g : Fr} (h1 : FrAt K H a f) (h2 : FrAt K H b g) (q : Q (.bl (!decide (f = g))) H) : rNeD K (.ref a) (.ref b) H Q :=
  ⟨_, _, dpF h1, dpF h2, frD_sh _, frD_sh _, by rw [eqv_fr]; exact q⟩

/-- a promise for each of many -/
def spEx {ι : Type} (p : ι → Prop) (sp : ι → Sp) : Sp := fun vs H Q E => ∃ i, p i ∧ sp i vs H Q E
theorem fnEx {ι : Type} {P : Program} {w : World} {K : PySem.W.Frag} {mg : Str → Option Value} {base : Heap} {CX : CXT} {k : Nat} {f : Addr} {fd : FuncData} {ps : List Str} {p : ι → Prop} {sp : ι → Sp} (F : ∀ i, p i → FnOk P w K mg base CX k f fd ps (sp i)) : FnOk P w K mg base CX k f fd ps (spEx p sp) :=
  ⟨fun vs H Q E ⟨i, hi, q⟩ => (F i hi).len vs H Q E q, fun A outer s H args us vs Q E hr he hb hv ⟨i, hi, hs⟩ => (F i hi).run A outer s H args us vs Q E hr he hb hv hs⟩

/-! ### the law's own fractions -/
def spLow (K : PySem.W.Frag) : Sp := fun vs H Q _ => ∃ p q : Int, vs = [.int p, .int q] ∧ 1 ≤ q ∧ q.natAbs < 2 ^ 1900 ∧ ∀ H' b, H b = none → Kp [] H H' → FrAt K H' b (lo p q) → Q (.ref b) H'
theorem abs_if (i : Int) : (if i < 0 then -i else i) = (i.natAbs : Int) := by
  split <;> omega
theorem euc_4000 {p : Nat × Nat} (h : p.2 < 2 ^ 1900) : (euc 4000 p).2 = 0 := by
  rw [show (4000 : Nat) = 2 * 1900 + 200 from rfl, euc_add, euc_zero 200 (euc_end 1900 p h)]
  exact euc_end 1900 p h
theorem gI_pos {p q : Int} (h : 1 ≤ q) : gI p q = (gN p q : Int) := by
  unfold gI
  rw [if_neg (by omega)]

theorem ok__law_low {P : Program} {w : World} {K : PySem.W.Frag} {mg : Str → Option Value} {base : Heap} (T : T P K mg) : FnOk P w K mg base CX0 1 T.a__law_low T.fd__law_low ["p", "q"] (spLow K) := by
  refine T.F__law_low.ok sc__law_low (fun vs H Q E h => ?_) (fun cdv A outer s H vs Q E hr h => ?_)
  · obtain ⟨p, q, rfl, _⟩ := h
    rfl
  · obtain ⟨p, q, rfl, hq, hb, q1⟩ := h
    have hg := gI_ne (p := p) (q := q) (by omega)
    have hdv : Z.CDivA p (gI p q) := Z.divA (b := 1900) hg (by rw [gI_abs]; exact Nat.lt_of_le_of_lt (gN_le (by omega)) hb) (by decide) (by decide)
    have hdv2 : Z.CDivA q (gI p q) := hdv
    have eq : q = (q.natAbs : Int) := by omega
    refine ⟨_, (pss_cons (ps_par (i := 2) (j := 3) rfl sc__law_low.nd rfl rfl (by decide) rfl rfl (pa_cons (pe_callB c_abs (by rfl) T.z_abs (by decide +kernel) (pa_cons (pv 0) pa_nil)) (pa_cons (pv 1) pa_nil)) (by rfl))
      (pss_cons (ps_while PassesOwn.never (pt_cmpR op_ne (pv 3) pe_int (nomark _)) (pss_one (ps_par (i := 2) (j := 3) rfl sc__law_low.nd rfl rfl (by decide) rfl rfl (pa_cons (pv 3) (pa_cons (pe_op op_mod (pe_callTy c_int (by rfl) T.z_int (by decide +kernel) (pa_cons (pv 2) pa_nil)) (pv 3)) pa_nil)) (by rfl))))
      (pss_one (ps_ret (pe_tup (pa_cons (pe_op Z.op_fdivA (pv 0) (pv 2)) (pa_cons (pe_op Z.op_fdivA (pv 1) (pv 2)) pa_nil))))))), ?_⟩
    walk_at "z0"
    walk_at "z"
    rw [abs_if]
    refine Z.wh (fun m σ' H' => ∃ i : Nat, m = (euc i (p.natAbs, q.natAbs)).2 ∧ σ' = [some (.int p), some (.int q), some (.int ((euc i (p.natAbs, q.natAbs)).1 : Int)), some (.int ((euc i (p.natAbs, q.natAbs)).2 : Int))] ∧ H' = H) q.natAbs ⟨0, rfl, by show _ = [some (V.int p), some (V.int q), some (V.int (p.natAbs : Int)), some (V.int (q.natAbs : Int))]; rw [← eq], rfl⟩ ?_
    rintro m σ' H' ⟨i, rfl, rfl, rfl⟩
    walk_at "z"
    refine Z.iteN (fun h2 => ?_) (fun h2 => ?_)
    · refine Z.whb ?_
      have hp2 : (euc i (p.natAbs, q.natAbs)).2 ≠ 0 := by omega
      walk_at "z"
      refine Z.iC (by omega) ?_
      walk_at "z"
      have es : euc (i + 1) (p.natAbs, q.natAbs) = ((euc i (p.natAbs, q.natAbs)).2, (euc i (p.natAbs, q.natAbs)).1 % (euc i (p.natAbs, q.natAbs)).2) := by
        rw [euc_succ]
        exact if_neg hp2
      refine ⟨(euc (i + 1) (p.natAbs, q.natAbs)).2, ?_, i + 1, rfl, ?_, rfl⟩
      · rw [es]
        exact Nat.mod_lt _ (by omega)
      · rw [es]
        rfl
    · have h0 : (euc i (p.natAbs, q.natAbs)).2 = 0 := by omega
      have eg := euc_gcd i (p.natAbs, q.natAbs)
      rw [h0, Nat.gcd_zero_right] at eg
      have eg2 : (((euc i (p.natAbs, q.natAbs)).1 : Nat) : Int) = gI p q := by rw [eg]; exact (gI_pos hq).symm
      rw [eg2]
      walk_at "z"
      refine Z.iC hdv ?_
      walk_at "z"
      refine Z.iC hdv2 ?_
      refine Z.tupK (fun b H1 nb k1 e1 => ?_)
      exact q1 _ _ nb k1 (tupT e1)

/-- two fractions in, a fraction out; smaller ones -/
def spG2 (K : PySem.W.Frag) (o : Fr → Fr → Fr) : Sp := fun vs H Q _ => ∃ (a b : Addr) (f g : Fr), vs = [.ref a, .ref b] ∧ FrAt K H a f ∧ FrAt K H b g ∧ 1 ≤ f.2 ∧ 1 ≤ g.2 ∧ (∃ n m, FrB n f ∧ FrB m g ∧ n + m ≤ 1900) ∧ ∀ H' c, H c = none → Kp [] H H' → FrAt K H' c (o f g) → Q (.ref c) H'
theorem ok__law_plus {P : Program} {w : World} {K : PySem.W.Frag} {mg : Str → Option Value} {base : Heap} (T : T P K mg) : FnOk P w K mg base CX0 2 T.a__law_plus T.fd__law_plus ["one", "other"] (spG2 K fplus) := by
  refine T.F__law_plus.ok sc__law_plus (fun vs H Q E h => ?_) (fun cdv A outer s H vs Q E hr h => ?_)
  · obtain ⟨a, b, f, g, rfl, _⟩ := h
    rfl
  · obtain ⟨a, b, f, g, rfl, ha, hb, hf, hg, ⟨n, m, Bf0, Bg0, hnm⟩, q⟩ := h
    have Bf : FrB 1900 f := Bf0.mono (by omega)
    have Bg : FrB 1900 g := Bg0.mono (by omega)
    refine ⟨_, (pss_one (ps_ret (pe_call (ok__law_low T) (hr.mono (by decide)) (by rfl) T.g__law_low T.F__law_low.kp T.b__law_low .nil pass0 (pa_cons (pe_op op_add (pe_op op_mulW (pe_ix ix_tup (pv 0) pe_int (fun _ _ => rfl)) (pe_ix ix_tup (pv 1) pe_int (fun _ _ => rfl))) (pe_op op_mulW (pe_ix ix_tup (pv 1) pe_int (fun _ _ => rfl)) (pe_ix ix_tup (pv 0) pe_int (fun _ _ => rfl)))) (pa_cons (pe_op op_mulW (pe_ix ix_tup (pv 0) pe_int (fun _ _ => rfl)) (pe_ix ix_tup (pv 1) pe_int (fun _ _ => rfl))) pa_nil))))), ?_⟩
    walk_at "z0"
    walk_at "z"
    refine Z.ixT ha (fr0 f) ?_
    walk_at "z"
    refine Z.ixT hb (fr1 g) ?_
    walk_at "z"
    refine Z.iC (mul_ok Bf.1 Bg.2) ?_
    walk_at "z"
    refine Z.ixT hb (fr0 g) ?_
    walk_at "z"
    refine Z.ixT ha (fr1 f) ?_
    walk_at "z"
    refine Z.iC (mul_ok Bg.1 Bf.2) ?_
    walk_at "z"
    refine Z.ixT ha (fr1 f) ?_
    walk_at "z"
    refine Z.ixT hb (fr1 g) ?_
    walk_at "z"
    refine Z.iC (mul_ok Bf.2 Bg.2) ?_
    walk_at "z"
    have h0 := Int.mul_pos (show 0 < f.2 by omega) (show 0 < g.2 by omega)
    exact ⟨_, _, rfl, by omega, up_B (mul_B Bf0.2 Bg0.2) hnm, fun H' c nc k e => q _ _ nc k e⟩
theorem ok__law_times {P : Program} {w : World} {K : PySem.W.Frag} {mg : Str → Option Value} {base : Heap} (T : T P K mg) : FnOk P w K mg base CX0 2 T.a__law_times T.fd__law_times ["one", "other"] (spG2 K ftimes) := by
  refine T.F__law_times.ok sc__law_times (fun vs H Q E h => ?_) (fun cdv A outer s H vs Q E hr h => ?_)
  · obtain ⟨a, b, f, g, rfl, _⟩ := h
    rfl
  · obtain ⟨a, b, f, g, rfl, ha, hb, hf, hg, ⟨n, m, Bf0, Bg0, hnm⟩, q⟩ := h
    have Bf : FrB 1900 f := Bf0.mono (by omega)
    have Bg : FrB 1900 g := Bg0.mono (by omega)
    refine ⟨_, (pss_one (ps_ret (pe_call (ok__law_low T) (hr.mono (by decide)) (by rfl) T.g__law_low T.F__law_low.kp T.b__law_low .nil pass0 (pa_cons (pe_op op_mulW (pe_ix ix_tup (pv 0) pe_int (fun _ _ => rfl)) (pe_ix ix_tup (pv 1) pe_int (fun _ _ => rfl))) (pa_cons (pe_op op_mulW (pe_ix ix_tup (pv 0) pe_int (fun _ _ => rfl)) (pe_ix ix_tup (pv 1) pe_int (fun _ _ => rfl))) pa_nil))))), ?_⟩
    walk_at "z0"
    walk_at "z"
    refine Z.ixT ha (fr0 f) ?_
    walk_at "z"
    refine Z.ixT hb (fr0 g) ?_
    walk_at "z"
    refine Z.iC (mul_ok Bf.1 Bg.1) ?_
    walk_at "z"
    refine Z.ixT ha (fr1 f) ?_
    walk_at "z"
    refine Z.ixT hb (fr1 g) ?_
    walk_at "z"
    refine Z.iC (mul_ok Bf.2 Bg.2) ?_
    walk_at "z"
    have h0 := Int.mul_pos (show 0 < f.2 by omega) (show 0 < g.2 by omega)
    exact ⟨_, _, rfl, by omega, up_B (mul_B Bf0.2 Bg0.2) hnm, fun H' c nc k e => q _ _ nc k e⟩

def spLessG (K : PySem.W.Frag) : Sp := fun vs H Q _ => ∃ (a b : Addr) (f g : Fr), vs = [.ref a, .ref b] ∧ FrAt K H a f ∧ FrAt K H b g ∧ FrB 8000 f ∧ FrB 8000 g ∧ Q (.bl (fless f g)) H
theorem ok__law_less {P : Program} {w : World} {K : PySem.W.Frag} {mg : Str → Option Value} {base : Heap} (T : T P K mg) : FnOk P w K mg base CX0 1 T.a__law_less T.fd__law_less ["one", "other"] (spLessG K) := by
  refine T.F__law_less.ok sc__law_less (fun vs H Q E h => ?_) (fun cdv A outer s H vs Q E hr h => ?_)
  · obtain ⟨a, b, f, g, rfl, _⟩ := h
    rfl
  · obtain ⟨a, b, f, g, rfl, ha, hb, Bf, Bg, q⟩ := h
    refine ⟨_, (pss_one (ps_ret (pe_cmpR op_lt (pe_op op_mulW (pe_ix ix_tup (pv 0) pe_int (fun _ _ => rfl)) (pe_ix ix_tup (pv 1) pe_int (fun _ _ => rfl))) (pe_op op_mulW (pe_ix ix_tup (pv 1) pe_int (fun _ _ => rfl)) (pe_ix ix_tup (pv 0) pe_int (fun _ _ => rfl))) (nomark _)))), ?_⟩
    walk_at "z0"
    walk_at "z"
    refine Z.ixT ha (fr0 f) ?_
    walk_at "z"
    refine Z.ixT hb (fr1 g) ?_
    walk_at "z"
    refine Z.iC (mul_ok Bf.1 Bg.2) ?_
    walk_at "z"
    refine Z.ixT hb (fr0 g) ?_
    walk_at "z"
    refine Z.ixT ha (fr1 f) ?_
    walk_at "z"
    refine Z.iC (mul_ok Bg.1 Bf.2) ?_
    walk_at "z"
    exact q

/-! ### deals and their bounds, as rational numbers -/
theorem low_zero : Low (0, 1) := ⟨by decide, by decide⟩
theorem rv_zero : rv (0, 1) = 0 := by unfold rv; grind
theorem rv_one : rv (1, 1) = 1 := by unfold rv; grind
theorem natR_pos {n : Nat} (h : 0 < n) : (0 : Rat) < (n : Rat) := by exact_mod_cast h
theorem natR_succ (n : Nat) : ((n + 1 : Nat) : Rat) = (n : Rat) + 1 := by exact_mod_cast rfl
theorem div_monoR {a b c : Rat} (h : a ≤ b) (hc : 0 < c) : a / c ≤ b / c := by
  have h1 : 0 < c⁻¹ := Rat.inv_pos.mpr hc
  rw [Rat.div_def, Rat.div_def]
  exact Rat.mul_le_mul_of_nonneg_right h (by grind)
theorem div_nonnegR {a c : Rat} (h : 0 ≤ a) (hc : 0 < c) : 0 ≤ a / c := by
  have h1 : 0 < c⁻¹ := Rat.inv_pos.mpr hc
  rw [Rat.div_def]
  exact Rat.mul_nonneg h (by grind)
/-- what a term falls at a next place -/
def fallR (c : Rat) (n : Nat) : Rat := c / ((n : Rat) * ((n : Rat) + 1))
def vR (c t : Rat) (n : Nat) : Rat := c / (n : Rat) + (n : Rat) * t
theorem vR_succ {c t : Rat} {n : Nat} (h : 0 < n) : vR c t (n + 1) = vR c t n + (t - fallR c n) := by
  have h1 := natR_pos h
  have h2 : (n : Rat) ≠ 0 := by grind
  have h3 : (n : Rat) + 1 ≠ 0 := by grind
  unfold vR fallR
  rw [natR_succ]
  grind
theorem fallR_mono {c : Rat} (hc : 0 ≤ c) {n : Nat} (h : 0 < n) : fallR c (n + 1) ≤ fallR c n := by
  have h1 := natR_pos h
  have h2 : (n : Rat) ≠ 0 := by grind
  have h3 : (n : Rat) + 1 ≠ 0 := by grind
  have h4 : (n : Rat) + 1 + 1 ≠ 0 := by grind
  have p1 : 0 < (n : Rat) * ((n : Rat) + 1) := Rat.mul_pos h1 (by grind)
  have p2 : 0 < (n : Rat) * ((n : Rat) + 1) * ((n : Rat) + 1 + 1) := Rat.mul_pos p1 (by grind)
  have e : fallR c n - fallR c (n + 1) = (2 * c) / ((n : Rat) * ((n : Rat) + 1) * ((n : Rat) + 1 + 1)) := by
    unfold fallR
    rw [natR_succ]
    grind
  have := div_nonnegR (show 0 ≤ 2 * c by grind) p2
  grind
theorem fallR_anti {c : Rat} (hc : 0 ≤ c) {n : Nat} (h : 0 < n) : ∀ d : Nat, fallR c (n + d) ≤ fallR c n
  | 0 => by show fallR c n ≤ fallR c n; grind
  | d + 1 => by
    have h1 := fallR_anti hc h d
    have h2 := fallR_mono hc (n := n + d) (by omega)
    show fallR c (n + d + 1) ≤ _
    grind
theorem v_above {c t : Rat} (hc : 0 ≤ c) {n : Nat} (h : 0 < n) (hf : fallR c n ≤ t) : ∀ d : Nat, vR c t n ≤ vR c t (n + d)
  | 0 => by show vR c t n ≤ vR c t n; grind
  | d + 1 => by
    have h1 := v_above hc h hf d
    have h2 := vR_succ (c := c) (t := t) (n := n + d) (by omega)
    have h3 := fallR_anti hc h d
    show _ ≤ vR c t (n + d + 1)
    grind
theorem v_below {c t : Rat} (hc : 0 ≤ c) {x : Nat} (h : 0 < x) : ∀ d : Nat, (d = 0 ∨ t ≤ fallR c (x + d - 1)) → vR c t (x + d) ≤ vR c t x
  | 0, _ => by show vR c t x ≤ vR c t x; grind
  | d + 1, hf => by
    have h3 : t ≤ fallR c (x + d) := by
      rcases hf with z | z
      · omega
      · exact z
    have h1 := v_below (t := t) hc h d (by
      by_cases z : d = 0
      · exact .inl z
      · refine .inr ?_
        have h4 := fallR_mono hc (n := x + d - 1) (by omega)
        rw [show x + d - 1 + 1 = x + d by omega] at h4
        grind)
    have h2 := vR_succ (c := c) (t := t) (n := x + d) (by omega)
    show vR c t (x + d + 1) ≤ _
    grind
/-- the least value for so many places, from 1 -/
def lvR (c t : Rat) : Nat → Rat
  | 0 => vR c t 1
  | k + 1 => if vR c t (k + 2) < lvR c t k then vR c t (k + 2) else lvR c t k
theorem lvR_le {c t : Rat} : ∀ {k n : Nat}, 1 ≤ n → n ≤ k + 1 → lvR c t k ≤ vR c t n
  | 0, n, h1, h2 => by
    have : n = 1 := by omega
    subst this
    show vR c t 1 ≤ vR c t 1
    grind
  | k + 1, n, h1, h2 => by
    show (if _ then _ else _) ≤ _
    by_cases z : n = k + 2
    · subst z
      split <;> grind
    · have := lvR_le (c := c) (t := t) (k := k) h1 (by omega)
      split <;> grind
theorem lvR_mem {c t : Rat} : ∀ k : Nat, ∃ n, 1 ≤ n ∧ n ≤ k + 1 ∧ lvR c t k = vR c t n
  | 0 => ⟨1, by omega, by omega, rfl⟩
  | k + 1 => by
    obtain ⟨n, h1, h2, h3⟩ := lvR_mem (c := c) (t := t) k
    by_cases z : vR c t (k + 2) < lvR c t k
    · exact ⟨k + 2, by omega, by omega, if_pos z⟩
    · exact ⟨n, h1, by omega, (if_neg z).trans h3⟩
/-- where the falls pass the price, the least value is -/
theorem lv_at {c t : Rat} (hc : 0 ≤ c) {k n : Nat} (h1 : 1 ≤ n) (h2 : n ≤ k + 1) (ha : n = 1 ∨ t ≤ fallR c (n - 1)) (hb : n = k + 1 ∨ fallR c n ≤ t) : lvR c t k = vR c t n := by
  obtain ⟨x, hx1, hx2, hx⟩ := lvR_mem (c := c) (t := t) k
  have h3 := lvR_le (c := c) (t := t) h1 h2
  have h4 : vR c t n ≤ vR c t x := by
    by_cases z : n ≤ x
    · by_cases z2 : n = x
      · rw [z2]; grind
      · have hf : fallR c n ≤ t := by
          rcases hb with y | y
          · omega
          · exact y
        have := v_above hc (n := n) (by omega) hf (x - n)
        rw [show n + (x - n) = x by omega] at this
        exact this
    · have hf : t ≤ fallR c (n - 1) := by
        rcases ha with y | y
        · omega
        · exact y
      have := v_below (t := t) hc (x := x) (by omega) (n - x) (.inr (by rw [show x + (n - x) - 1 = n - 1 by omega]; exact hf))
      rw [show x + (n - x) = n by omega] at this
      exact this
  grind
/-! sums over the strata; limits and numbers as natural numbers -/
def varR : List Rat → List Nat → Rat
  | c :: cs, n :: ns => c / (n : Rat) + varR cs ns
  | _, _ => 0
def lvS (t : Rat) : List Rat → List Nat → Rat
  | c :: cs, l :: ls => lvR c t (l - 1) + lvS t cs ls
  | _, _ => 0
def InL : List Nat → List Nat → Prop
  | [], [] => True
  | l :: ls, n :: ns => (1 ≤ n ∧ n ≤ l) ∧ InL ls ns
  | _, _ => False
theorem InL.len : ∀ {ls ns : List Nat}, InL ls ns → ls.length = ns.length
  | [], [], _ => rfl
  | [], _ :: _, h => h.elim
  | _ :: _, [], h => h.elim
  | _ :: ls, _ :: ns, h => by rw [List.length_cons, List.length_cons, InL.len h.2]
theorem inL_iff : ∀ {ls ns : List Nat}, InL ls ns ↔ ls.length = ns.length ∧ ∀ h, h < ns.length → 1 ≤ ns.getD h 0 ∧ ns.getD h 0 ≤ ls.getD h 0
  | [], [] => ⟨fun _ => ⟨rfl, fun h z => absurd z (by simp)⟩, fun _ => trivial⟩
  | [], _ :: _ => ⟨fun h => h.elim, fun h => by cases h.1⟩
  | _ :: _, [] => ⟨fun h => h.elim, fun h => by cases h.1⟩
  | l :: ls, n :: ns => by
    have ih := inL_iff (ls := ls) (ns := ns)
    constructor
    · rintro ⟨h1, h2⟩
      obtain ⟨h3, h4⟩ := ih.mp h2
      refine ⟨by simp [h3], fun h hh => ?_⟩
      cases h with
      | zero => exact h1
      | succ h => exact h4 h (by simpa using hh)
    · rintro ⟨h1, h2⟩
      exact ⟨h2 0 (by simp), ih.mpr ⟨by simpa using h1, fun h hh => h2 (h + 1) (by simpa using hh)⟩⟩
theorem sumR (ns : List Nat) : ((ns.sum : Nat) : Rat) = (ns.map fun n : Nat => (n : Rat)).sum := by
  induction ns with
  | nil => rfl
  | cons n r ih =>
    rw [List.sum_cons, List.map_cons, List.sum_cons, ← ih]
    exact_mod_cast rfl
theorem weakS {t : Rat} : ∀ {cs : List Rat} {ls ns : List Nat}, cs.length = ls.length → InL ls ns → lvS t cs ls ≤ varR cs ns + ((ns.sum : Nat) : Rat) * t
  | [], [], [], _, _ => by show (0 : Rat) ≤ 0 + ((0 : Nat) : Rat) * t; grind
  | [], [], _ :: _, _, h => h.elim
  | _, _ :: _, [], _, h => h.elim
  | [], _ :: _, _, h, _ => by cases h
  | _ :: _, [], _, h, _ => by cases h
  | c :: cs, l :: ls, n :: ns, h, hI => by
    have ih := weakS (t := t) (cs := cs) (ls := ls) (ns := ns) (by simpa using h) hI.2
    have h1 := lvR_le (c := c) (t := t) (k := l - 1) hI.1.1 (by have := hI.1.2; have := hI.1.1; omega)
    have e : (((n :: ns).sum : Nat) : Rat) = (n : Rat) + ((ns.sum : Nat) : Rat) := by rw [List.sum_cons]; exact_mod_cast rfl
    rw [e]
    show lvR c t (l - 1) + lvS t cs ls ≤ c / (n : Rat) + varR cs ns + _
    unfold vR at h1
    grind
/-- the falls pass the price in each stratum -/
def Opt (t : Rat) : List Rat → List Nat → List Nat → Prop
  | c :: cs, l :: ls, n :: ns => (0 ≤ c ∧ (n = 1 ∨ t ≤ fallR c (n - 1)) ∧ (n = l ∨ fallR c n ≤ t)) ∧ Opt t cs ls ns
  | _, _, _ => True
theorem strongS {t : Rat} : ∀ {cs : List Rat} {ls ns : List Nat}, cs.length = ls.length → InL ls ns → Opt t cs ls ns → lvS t cs ls = varR cs ns + ((ns.sum : Nat) : Rat) * t
  | [], [], [], _, _, _ => by show (0 : Rat) = 0 + ((0 : Nat) : Rat) * t; grind
  | [], [], _ :: _, _, h, _ => h.elim
  | _, _ :: _, [], _, h, _ => h.elim
  | [], _ :: _, _, h, _, _ => by cases h
  | _ :: _, [], _, h, _, _ => by cases h
  | c :: cs, l :: ls, n :: ns, h, hI, hO => by
    have ih := strongS (t := t) (cs := cs) (ls := ls) (ns := ns) (by simpa using h) hI.2 hO.2
    have h1 := lv_at (c := c) (t := t) (k := l - 1) hO.1.1 hI.1.1 (by have := hI.1.2; have := hI.1.1; omega) hO.1.2.1 (by
      rcases hO.1.2.2 with z | z
      · exact .inl (by have := hI.1.1; omega)
      · exact .inr z)
    have e : (((n :: ns).sum : Nat) : Rat) = (n : Rat) + ((ns.sum : Nat) : Rat) := by rw [List.sum_cons]; exact_mod_cast rfl
    rw [e]
    show lvR c t (l - 1) + lvS t cs ls = c / (n : Rat) + varR cs ns + _
    unfold vR at h1
    grind
theorem opt_of {t : Rat} : ∀ {cs : List Rat} {ls ns : List Nat}, (∀ h, h < ns.length → 0 ≤ cs.getD h 0 ∧ (ns.getD h 0 = 1 ∨ t ≤ fallR (cs.getD h 0) (ns.getD h 0 - 1)) ∧ (ns.getD h 0 = ls.getD h 0 ∨ fallR (cs.getD h 0) (ns.getD h 0) ≤ t)) → Opt t cs ls ns
  | [], _, _, _ => trivial
  | _ :: _, [], _, _ => trivial
  | _ :: _, _ :: _, [], _ => trivial
  | c :: cs, l :: ls, n :: ns, h => ⟨h 0 (by simp), opt_of (cs := cs) (ls := ls) (ns := ns) fun x hx => h (x + 1) (by simpa using hx)⟩
theorem sum_set : ∀ {ns : List Nat} {j x : Nat}, j < ns.length → (ns.set j x).sum + ns.getD j 0 = ns.sum + x
  | [], j, x, h => by simp at h
  | n :: r, 0, x, _ => by
    show (x :: r).sum + n = (n :: r).sum + x
    rw [List.sum_cons, List.sum_cons]
    omega
  | n :: r, j + 1, x, h => by
    have ih := sum_set (ns := r) (j := j) (x := x) (by simpa using h)
    show (n :: r.set j x).sum + r.getD j 0 = (n :: r).sum + x
    rw [List.sum_cons, List.sum_cons]
    omega
theorem getD_set {α : Type} {ns : List α} {j h : Nat} {x d : α} (hj : j < ns.length) : (ns.set j x).getD h d = if h = j then x else ns.getD h d := by
  rw [List.getD_eq_getElem?_getD, List.getD_eq_getElem?_getD, List.getElem?_set]
  by_cases z : h = j
  · subst z
    rw [if_pos rfl, if_pos rfl, if_pos hj]
    rfl
  · rw [if_neg (fun y => z y.symm), if_neg z]
theorem full_sum : ∀ {ls ns : List Nat}, InL ls ns → (∀ h, h < ns.length → ¬ ns.getD h 0 < ls.getD h 0) → ns.sum = ls.sum
  | [], [], _, _ => rfl
  | [], _ :: _, h, _ => h.elim
  | _ :: _, [], h, _ => h.elim
  | l :: ls, n :: ns, hI, h => by
    have ih := full_sum hI.2 fun x hx => h (x + 1) (by simpa using hx)
    have h1 := h 0 (by simp)
    have h2 := hI.1.2
    have h3 : ¬ n < l := h1
    rw [List.sum_cons, List.sum_cons, ih]
    omega

/-! ### samphire.strata: falls, deals judged -/
def nints (ns : List Nat) : List Int := ns.map fun n : Nat => (n : Int)
def vN (ns : List Nat) : List V := (nints ns).map V.int
theorem vN_len (ns : List Nat) : (vN ns).length = ns.length := by unfold vN nints; rw [List.length_map, List.length_map]
theorem ints_sum (ns : List Nat) : (nints ns).sum = ((ns.sum : Nat) : Int) := by
  induction ns with
  | nil => rfl
  | cons n r ih =>
    show (n : Int) + (nints r).sum = _
    rw [ih, List.sum_cons]
    omega
theorem vN_at {ns : List Nat} {i : Nat} {v : V} (h : (vN ns)[i]? = some v) : ∃ n, ns[i]? = some n ∧ v = .int (n : Int) := by
  unfold vN nints at h
  rw [List.map_map, List.getElem?_map] at h
  cases e : ns[i]? with
  | none => rw [e] at h; cases h
  | some x => rw [e] at h; exact ⟨x, rfl, (Option.some.inj h).symm⟩
theorem vN_get {ns : List Nat} {i n : Nat} (h : ns[i]? = some n) : (vN ns)[i]? = some (.int (n : Int)) := by
  unfold vN nints
  rw [List.map_map, List.getElem?_map, h]
  rfl
theorem getD_of {ns : List Nat} {i n : Nat} (h : ns[i]? = some n) : ns.getD i 0 = n := by rw [List.getD_eq_getElem?_getD, h]; rfl
theorem vN_D {ns : List Nat} {i : Nat} (h : i < ns.length) : (vN ns)[i]? = some (.int ((ns.getD i 0 : Nat) : Int)) := by
  refine vN_get ?_
  rw [List.getD_eq_getElem?_getD, List.getElem?_eq_getElem h]
  rfl
theorem vN_set {ns : List Nat} {j x : Nat} : (vN ns).set j (.int (x : Int)) = vN (ns.set j x) := by
  unfold vN nints
  rw [List.map_map, List.map_map, List.map_set]
  rfl
theorem vN_app (a b : List Nat) : vN (a ++ b) = vN a ++ vN b := by unfold vN nints; rw [List.map_append, List.map_append]
def isDealB (ls ns : List Nat) (m : Int) : Bool := decide (ns.length = ls.length) && (decide (((ns.sum : Nat) : Int) = m) && (ns.zip ls).all fun x => decide (1 ≤ x.1 ∧ x.1 ≤ x.2))
def spIsDeal (K : PySem.W.Frag) : Sp := fun vs H Q _ => ∃ (a b : Addr) (ls ns : List Nat) (m : Int), vs = [.ref a, .int m, .ref b] ∧ SqL K H a (vN ls) ∧ SqL K H b (vN ns) ∧ ∀ H', Kp [] H H' → Q (.bl (isDealB ls ns m)) H'
theorem ok_is_deal {P : Program} {w : World} {K : PySem.W.Frag} {mg : Str → Option Value} {base : Heap} (T : T P K mg) : FnOk P w K mg base CX0 1 T.a_is_deal T.fd_is_deal ["limits", "places", "numbers"] (spIsDeal K) := by
  refine T.F_is_deal.ok sc_is_deal (fun vs H Q E h => ?_) (fun cdv A outer s H vs Q E hr h => ?_)
  · obtain ⟨a, b, ls, ns, m, rfl, _⟩ := h
    rfl
  · obtain ⟨a, b, ls, ns, m, rfl, hS, hT, q⟩ := h
    unfold isDealB at q
    refine ⟨_, (pss_cons (ps_if (PW.pt (pw_or (pt_cmpR op_ne (pe_callB c_len (by rfl) T.z_len (by decide +kernel) (pa_cons (pv 2) pa_nil)) (pe_callB c_len (by rfl) T.z_len (by decide +kernel) (pa_cons (pv 0) pa_nil)) (nomark _)) (pw_or1 (pt_cmpR op_ne (pe_callB (cr_sum rfl) (by rfl) T.z_sum (by decide +kernel) (pa_cons (pv 2) pa_nil)) (pv 1) (nomark _))))) (pss_one (ps_ret pe_bl)) pss_nil)
      (pss_cons (ps_for PassesOwn.never rfl (pi_zip (by rfl) T.z_zip (pa_cons (pv 2) (pa_cons (pv 0) pa_nil))) (pg_tup rfl (pgs_cons (pg_name (i := 3) sc_is_deal.nd rfl (by first | exact Or.inl rfl | exact Or.inr rfl)) (pgs_cons (pg_name (i := 4) sc_is_deal.nd rfl (by first | exact Or.inl rfl | exact Or.inr rfl)) pgs_nil))) (pss_one (ps_if (pt_not (pt_chain op_le op_le pe_int (pv 3) (pv 4))) (pss_one (ps_ret pe_bl)) pss_nil)))
      (pss_one (ps_ret pe_bl)))), ?_⟩
    walk_at "z0"
    walk_at "z"
    refine Z.lenL hT ?_
    rw [vN_len]
    walk_at "z"
    refine Z.lenL hS ?_
    rw [vN_len]
    walk_at "z"
    refine Z.iteN (fun h1 => ?_) (fun h1 => ?_)
    · rw [decide_eq_false (show ¬ ns.length = ls.length by omega)] at q
      walk_at "z"
      exact q H (Kp.refl _)
    · rw [decide_eq_true (show ns.length = ls.length by omega)] at q
      walk_at "z"
      refine Z.sumL (ns := nints ns) hT ?_
      rw [ints_sum]
      walk_at "z"
      refine Z.iteN (fun h2 => ?_) (fun h2 => ?_)
      · rw [decide_eq_false h2] at q
        walk_at "z"
        exact q H (Kp.refl _)
      · rw [decide_eq_true h2, Bool.true_and, Bool.true_and] at q
        walk_at "z"
        refine Z.forz (vN ns) (vN ls) (by rw [vN_len, vN_len]; omega) hT hS (fun i σ' H' => ∃ y3 y4, σ' = [some (.ref a), some (.int m), some (.ref b), y3, y4] ∧ Kp [] H H' ∧ ∀ j n l, j < i → ns[j]? = some n → ls[j]? = some l → 1 ≤ n ∧ n ≤ l) ⟨_, _, rfl, Kp.refl _, fun j n l hj => by omega⟩ ?_ ?_ ?_
        · rintro i σ' H2 hi ⟨y3, y4, rfl, k2, _⟩
          exact ⟨k2.seq nin0 hT, k2.seq nin0 hS⟩
        · rintro i v1 v2 σ' H2 H3 t hv1 hv2 ⟨y3, y4, rfl, k2, hj⟩ nt k3 e3
          obtain ⟨n, hn, rfl⟩ := vN_at hv1
          obtain ⟨l, hl, rfl⟩ := vN_at hv2
          have hz : (ns.zip ls)[i]? = some (n, l) := (List.getElem?_zip_eq_some (z := (n, l))).mpr ⟨hn, hl⟩
          have hno : ¬ (1 ≤ n ∧ n ≤ l) → (ns.zip ls).all (fun x => decide (1 ≤ x.1 ∧ x.1 ≤ x.2)) = false := fun z => by
            cases e : (ns.zip ls).all (fun x => decide (1 ≤ x.1 ∧ x.1 ≤ x.2)) with
            | false => rfl
            | true => exact absurd (of_decide_eq_true (List.all_eq_true.mp e _ (List.mem_of_getElem? hz))) z
          refine Z.gtup (tupT e3) rfl ?_
          walk_at "z"
          refine Z.ite (fun h3 => ?_) (fun h3 => ?_)
          · walk_at "z"
            refine Z.iteN (fun h4 => ?_) (fun h4 => ?_)
            · rw [hno (by omega)] at q
              walk_at "z"
              exact q H3 (k2.trans k3)
            · walk_at "z"
              refine ⟨_, _, rfl, k2.trans k3, fun j n' l' hji hn' hl' => ?_⟩
              by_cases z : j = i
              · subst z
                rw [hn] at hn'
                rw [hl] at hl'
                cases hn'
                cases hl'
                omega
              · exact hj j n' l' (by omega) hn' hl'
          · rw [hno (by omega)] at q
            walk_at "z"
            exact q H3 (k2.trans k3)
        · rintro σ' H2 ⟨y3, y4, rfl, k2, hj⟩
          rw [vN_len] at hj
          have hall : (ns.zip ls).all (fun x => decide (1 ≤ x.1 ∧ x.1 ≤ x.2)) = true := by
            refine List.all_eq_true.mpr fun x hx => decide_eq_true ?_
            obtain ⟨i, hi⟩ := List.getElem?_of_mem hx
            obtain ⟨h3, h4⟩ := (List.getElem?_zip_eq_some (z := x)).mp hi
            exact hj i x.1 x.2 (List.getElem?_eq_some_iff.mp h3).1 h3 h4
          rw [hall] at q
          walk_at "z"
          exact q H2 k2
theorem isDeal_iff {ls ns : List Nat} {m : Int} : isDealB ls ns m = true ↔ InL ls ns ∧ ((ns.sum : Nat) : Int) = m := by
  unfold isDealB
  rw [Bool.and_eq_true, Bool.and_eq_true, decide_eq_true_eq, decide_eq_true_eq, inL_iff]
  constructor
  · rintro ⟨h1, h2, h3⟩
    refine ⟨⟨h1.symm, fun i hi => ?_⟩, h2⟩
    have hn : ns[i]? = some ns[i] := List.getElem?_eq_getElem hi
    have hl : ls[i]? = some (ls[i]'(by omega)) := List.getElem?_eq_getElem (by omega)
    have hz : (ns.zip ls)[i]? = some (ns[i], ls[i]'(by omega)) := (List.getElem?_zip_eq_some (z := (ns[i], ls[i]'(by omega)))).mpr ⟨hn, hl⟩
    have := of_decide_eq_true (List.all_eq_true.mp h3 _ (List.mem_of_getElem? hz))
    rw [getD_of hn, getD_of hl]
    exact this
  · rintro ⟨⟨h1, h2⟩, h3⟩
    refine ⟨h1.symm, h3, List.all_eq_true.mpr fun x hx => decide_eq_true ?_⟩
    obtain ⟨i, hi⟩ := List.getElem?_of_mem hx
    obtain ⟨h4, h5⟩ := (List.getElem?_zip_eq_some (z := x)).mp hi
    have := h2 i (List.getElem?_eq_some_iff.mp h4).1
    rw [getD_of h4, getD_of h5] at this
    exact this
/-- costs -/
structure CB (c : Fr) : Prop where
  L : Low c
  p : 0 ≤ c.1
  B : FrB 6 c
theorem CB.v {c : Fr} (h : CB c) : 0 ≤ rv c := by
  unfold rv
  refine div_nonnegR (by exact_mod_cast h.p) h.L.pos
def nF (n : Nat) : Fr := ((n : Int), 1)
theorem nF_B {n : Nat} (h : n < 2 ^ 10) : FrB 10 (nF n) := ⟨by show ((n : Int)).natAbs < 2 ^ 10; omega, by show (1 : Nat) < 2 ^ 10; decide⟩
theorem nF2 (n : Nat) : (nF n).2 ≠ 0 := show ((1 : Int)) ≠ 0 by decide
theorem rv_nF (n : Nat) : rv (nF n) = (n : Rat) := by
  unfold nF
  rw [rv_int]
  exact_mod_cast rfl
theorem rv_over {c : Fr} {n : Nat} (hc : c.2 ≠ 0) (hn : 1 ≤ n) : rv (fover c (nF n)) = rv c / (n : Rat) := by
  unfold fover nF
  rw [rv_lo (Int.mul_ne_zero hc (by show (n : Int) ≠ 0; omega))]
  have e2 : ((c.2 * (n : Int) : Int) : Rat) = (c.2 : Rat) * ((n : Int) : Rat) := by exact_mod_cast rfl
  have e3 : ((n : Int) : Rat) = (n : Rat) := by exact_mod_cast rfl
  show ((c.1 * 1 : Int) : Rat) / ((c.2 * (n : Int) : Int) : Rat) = _
  rw [Int.mul_one, e2, e3]
  unfold rv
  have := ratNe hc
  have := natR_pos (show 0 < n by omega)
  have : (n : Rat) ≠ 0 := by grind
  grind
theorem over_low {c : Fr} {n : Nat} (hc : c.2 ≠ 0) (hn : 1 ≤ n) : Low (fover c (nF n)) := lo_low (Int.mul_ne_zero hc (by show (n : Int) ≠ 0; omega))
theorem over_B {c : Fr} {n : Nat} (hc : CB c) (hn : 1 ≤ n) (h : n < 2 ^ 10) : FrB 16 (fover c (nF n)) := by
  refine lo_B (Int.mul_ne_zero hc.L.ne (by show (n : Int) ≠ 0; omega)) (mul_B (n := 6) (m := 10) hc.B.1 (nF_B h).2) (mul_B (n := 6) (m := 10) hc.B.2 (nF_B h).1)
def vterms (cs : List Fr) (ns : List Nat) : List Fr := (cs.zip ns).map fun x => fover x.1 (nF x.2)
theorem vterms_rv : ∀ {cs : List Fr} {ns : List Nat}, (∀ c ∈ cs, CB c) → (∀ n ∈ ns, 1 ≤ n) → ((vterms cs ns).map rv).sum = varR (cs.map rv) ns
  | [], ns, _, _ => by cases ns <;> rfl
  | c :: cs, [], _, _ => rfl
  | c :: cs, n :: ns, hc, hn => by
    have ih := vterms_rv (cs := cs) (ns := ns) (fun z hz => hc z (by simp [hz])) fun z hz => hn z (by simp [hz])
    show rv (fover c (nF n)) + ((vterms cs ns).map rv).sum = rv c / (n : Rat) + varR (cs.map rv) ns
    rw [ih, rv_over (hc c (by simp)).L.ne (hn n (by simp))]
def spVar (K : PySem.W.Frag) : Sp := fun vs H Q _ => ∃ (a b : Addr) (as : List Addr) (cs : List Fr) (ns : List Nat), vs = [.ref a, .ref b] ∧ SqL K H a (as.map V.ref) ∧ FrsAt K H as cs ∧ SqL K H b (vN ns) ∧ cs.length = ns.length ∧ ns.length ≤ 4 ∧ (∀ c ∈ cs, CB c) ∧ (∀ n ∈ ns, 1 ≤ n ∧ n < 2 ^ 10) ∧ ∀ H' d, Kp [] H H' → FrAt K H' d (fsum (0, 1) (vterms cs ns)) → Q (.ref d) H'
theorem ok_sum_of {P : Program} {w : World} {K : PySem.W.Frag} {mg : Str → Option Value} {base : Heap} (T : T P K mg) : FnOk P w K mg base CX0 5 T.a_sum_of T.fd_sum_of ["fractions"] (spSumOf K 60 4) := ok_sum_of_any T 60 4 (by decide) (by decide)
theorem vterm_at {cs : List Fr} {ns : List Nat} {i : Nat} {c : Fr} {n : Nat} (hc : cs[i]? = some c) (hn : ns[i]? = some n) : (vterms cs ns)[i]? = some (fover c (nF n)) := by
  unfold vterms
  rw [List.getElem?_map, (List.getElem?_zip_eq_some (z := (c, n))).mpr ⟨hc, hn⟩]
  rfl
theorem vterms_len {cs : List Fr} {ns : List Nat} (h : cs.length = ns.length) : (vterms cs ns).length = ns.length := by
  unfold vterms
  rw [List.length_map, List.length_zip]
  omega
theorem vterms_B {cs : List Fr} {ns : List Nat} (hc : ∀ c ∈ cs, CB c) (hn : ∀ n ∈ ns, 1 ≤ n ∧ n < 2 ^ 10) : ∀ f ∈ vterms cs ns, FrB 16 f ∧ Low f := fun f hf => by
  unfold vterms at hf
  obtain ⟨⟨c, n⟩, hx, rfl⟩ := List.mem_map.mp hf
  have hx2 := List.of_mem_zip hx
  exact ⟨over_B (hc c hx2.1) (hn n hx2.2).1 (hn n hx2.2).2, over_low (hc c hx2.1).L.ne (hn n hx2.2).1⟩
theorem ok_variance_of {P : Program} {w : World} {K : PySem.W.Frag} {mg : Str → Option Value} {base : Heap} (T : T P K mg) : FnOk P w K mg base CX0 7 T.a_variance_of T.fd_variance_of ["costs", "deal"] (spVar K) := by
  refine T.F_variance_of.ok sc_variance_of (fun vs H Q E h => ?_) (fun cdv A outer s H vs Q E hr h => ?_)
  · obtain ⟨a, b, as, cs, ns, rfl, _⟩ := h
    rfl
  · obtain ⟨a, b, as, cs, ns, rfl, hS, hF, hT, hl, h4, hC, hN, q⟩ := h
    have hFl := hF.len
    refine ⟨_, (pss_one (ps_ret (pe_call (ok_sum_of T) (hr.mono (by decide)) (by rfl) T.g_sum_of T.F_sum_of.kp T.b_sum_of .nil pass0 (pa_cons (pe_lc (own := [("cost", 2), ("number", 3)]) (g := gTup K 2 (gCons (gName 2) (gCons (gName 3) gNil))) rfl sc_variance_of.nd (pi_zip (by rfl) T.z_zip (pa_cons (pv 0) (pa_cons (pv 1) pa_nil))) (blkOk_by (own := [("cost", 2), ("number", 3)]) (N := N_variance_of) (sc := defScope s_variance_of) (by decide +kernel)) (fun _ _ _ _ _ => (pg_tup rfl (pgs_cons (pg_name (i := 2) sc_variance_of.nd rfl (by first | exact Or.inl rfl | exact Or.inr rfl)) (pgs_cons (pg_name (i := 3) sc_variance_of.nd rfl (by first | exact Or.inl rfl | exact Or.inr rfl)) pgs_nil)))) (fun _ _ _ _ _ => pts_nil) (fun _ _ _ _ _ => (pe_call (ok_over T) (hr.mono (by decide)) (by rfl) T.g_over T.F_over.kp T.b_over .nil passL (pa_cons (pv 2) (pa_cons (pe_tup (pa_cons (pv 3) (pa_cons pe_int pa_nil))) pa_nil))))) pa_nil)))), ?_⟩
    walk_at "z0"
    walk_at "z"
    refine Z.lcz (as.map V.ref) (vN ns) (by rw [List.length_map, vN_len]; omega) hS hT (fun D i H' => ∃ ds, Kp [] H H' ∧ H' D = some (.lst (ds.map V.ref)) ∧ FrsAt K H' ds ((vterms cs ns).take i)) ?_ ?_ ?_ ?_
    · intro D H1 nD k1 e1
      exact ⟨[], k1, e1, .nil⟩
    · rintro D i H1 nD ⟨ds, k1, e1, F1⟩
      exact ⟨k1.seq nin0 hS, k1.seq nin0 hT⟩
    · rintro D i v1 v2 H1 H2 t nD hv1 hv2 ⟨ds, k1, e1, F1⟩ nt k2 e2
      obtain ⟨x, c, rfl, hc, hx⟩ := (hF.kp0 (k1.trans k2)).get hv1
      obtain ⟨n, hn, rfl⟩ := vN_at hv2
      have hcC := hC c (List.mem_of_getElem? hc)
      have hnN := hN n (List.mem_of_getElem? hn)
      have hi : i < ns.length := (List.getElem?_eq_some_iff.mp hn).1
      dsimp only [wipe, List.set]
      refine Z.gtup (tupT e2) rfl ?_
      walk_at "z"
      refine ⟨rfl, ?_⟩
      walk_at "z"
      refine Z.tupK (fun u H3 nu k3 e3 => ?_)
      walk_at "z"
      refine ⟨x, u, c, nF n, rfl, hx.kp0 k3, tupT e3, hcC.L.ne, hcC.B.mono (by decide), (nF_B hnN.2).mono (by decide), fun z => absurd z (by show ¬ (n : Int) = 0; omega), fun _ H4 y ny k4 e4 => ?_⟩
      have k14 := k2.trans (k3.trans k4)
      have e4D := k14.get nin0 e1
      refine ⟨_, e4D, Z.szl (m := 1000) (by rw [List.length_map, F1.len, List.length_take]; omega), ds ++ [y], (k1.trans k14).mut nD rfl, by rw [upd_same, List.map_append]; rfl, ?_⟩
      rw [List.take_add_one, vterm_at hc hn]
      exact ((F1.kp0 k14).snoc e4).kpl (Kp.put (by simp)) e4D
    · rintro D H1 nD ⟨ds, k1, e1, F1⟩
      have hvl := vterms_len hl
      rw [List.length_map, show as.length = (vterms cs ns).length by omega, List.take_length] at F1
      have hB := vterms_B hC hN
      walk_at "z"
      exact ⟨D, ds, vterms cs ns, rfl, lstL e1, F1, fun f hf => ⟨(hB f hf).1.mono (by decide), (hB f hf).2.ne⟩, by omega, fun H2 c k2 e2 => q H2 c (k1.trans k2) e2⟩

/-! ### falls, the steepest -/
def pF (n : Nat) : Int := (n : Int) * ((n : Int) + 1)
def fallF (c : Fr) (n : Nat) : Fr := ftimes c (lo 1 (pF n))
theorem pF_pos {n : Nat} (h : 1 ≤ n) : 0 < pF n := Int.mul_pos (by omega) (by omega)
theorem pF_B {n : Nat} (h : n < 2 ^ 10) : (pF n).natAbs < 2 ^ 21 := mul_B (n := 10) (m := 11) (show ((n : Int)).natAbs < 2 ^ 10 by omega) (show ((n : Int) + 1).natAbs < 2 ^ 11 by omega)
theorem oneB (n : Nat) (h : 0 < n) : (1 : Int).natAbs < 2 ^ n := Nat.one_lt_two_pow (by omega)
theorem fallF_ok {c : Fr} {n : Nat} (hc : CB c) (h1 : 1 ≤ n) (h2 : n < 2 ^ 10) : Low (fallF c n) ∧ FrB 27 (fallF c n) ∧ rv (fallF c n) = fallR (rv c) n := by
  have hp := pF_pos h1
  have hl := lo_low (p := 1) (q := pF n) (by omega)
  have hb := lo_B (p := 1) (q := pF n) (by omega) (oneB 21 (by decide)) (pF_B h2)
  refine ⟨lo_low (Int.mul_ne_zero hc.L.ne hl.ne), ftimes_B hc.B hb hc.L.ne hl.ne, ?_⟩
  unfold fallF fallR
  rw [rv_ftimes hc.L.ne hl.ne, rv_lo (by omega)]
  have e : ((pF n : Int) : Rat) = (n : Rat) * ((n : Rat) + 1) := by
    have e2 : ((pF n : Int) : Rat) = ((n : Int) : Rat) * (((n : Int) : Rat) + 1) := by unfold pF; exact_mod_cast rfl
    have e3 : ((n : Int) : Rat) = (n : Rat) := by exact_mod_cast rfl
    rw [e2, e3]
  rw [e]
  have e1 : ((1 : Int) : Rat) = 1 := by exact_mod_cast rfl
  rw [e1]
  have := natR_pos (show 0 < n by omega)
  have : (n : Rat) ≠ 0 := by grind
  have : (n : Rat) + 1 ≠ 0 := by grind
  grind
def spFall (K : PySem.W.Frag) : Sp := fun vs H Q _ => ∃ (a : Addr) (c : Fr) (n : Nat), vs = [.ref a, .int (n : Int)] ∧ FrAt K H a c ∧ CB c ∧ 1 ≤ n ∧ n < 2 ^ 10 ∧ ∀ H' b, H b = none → Kp [] H H' → FrAt K H' b (fallF c n) → Q (.ref b) H'
theorem ok_fall {P : Program} {w : World} {K : PySem.W.Frag} {mg : Str → Option Value} {base : Heap} (T : T P K mg) : FnOk P w K mg base CX0 5 T.a_fall T.fd_fall ["cost", "number"] (spFall K) := by
  refine T.F_fall.ok sc_fall (fun vs H Q E h => ?_) (fun cdv A outer s H vs Q E hr h => ?_)
  · obtain ⟨a, c, n, rfl, _⟩ := h
    rfl
  · obtain ⟨a, c, n, rfl, ha, hc, h1, h2, q⟩ := h
    have hp := pF_pos h1
    have hl := lo_low (p := 1) (q := pF n) (by omega)
    have hb := lo_B (p := 1) (q := pF n) (by omega) (oneB 21 (by decide)) (pF_B h2)
    refine ⟨_, (pss_one (ps_ret (pe_call (ok_times T) (hr.mono (by decide)) (by rfl) T.g_times T.F_times.kp T.b_times .nil pass0 (pa_cons (pv 0) (pa_cons (pe_call (ok_lowest T) (hr.mono (by decide)) (by rfl) T.g_lowest T.F_lowest.kp T.b_lowest .nil passL (pa_cons pe_int (pa_cons (pe_op op_mulW (pv 1) (pe_op op_add (pv 1) pe_int)) pa_nil))) pa_nil))))), ?_⟩
    walk_at "z0"
    walk_at "z"
    refine Z.iC (mul_ok (n := 11) (show ((n : Int)).natAbs < 2 ^ 11 by omega) (show ((n : Int) + 1).natAbs < 2 ^ 11 by omega)) ?_
    walk_at "z"
    refine ⟨1, pF n, rfl, up_B (pF_B h2) (by decide), fun z => absurd z (by omega), fun _ H1 b nb k1 e1 => ?_⟩
    exact ⟨a, b, c, _, rfl, ha.kp0 k1, e1, hc.L.ne, hl.ne, hc.B.mono (by decide), hb.mono (by decide), fun H2 d nd k2 e2 => q H2 d (k1.none nin0 nd) (k1.trans k2) e2⟩
def bet (fs : List Fr) (o : Option Nat) (i : Nat) : Bool :=
  match o with
  | none => true
  | some j => fless (fs.getD j (0, 1)) (fs.getD i (0, 1))
def stTo (fs : List Fr) (ls ns : List Nat) : Nat → Option Nat
  | 0 => none
  | i + 1 => if ns.getD i 0 < ls.getD i 0 ∧ bet fs (stTo fs ls ns i) i = true then some i else stTo fs ls ns i
def optN : Option Nat → V
  | none => .non
  | some j => .int (j : Int)
theorem stTo_ok {fs : List Fr} {ls ns : List Nat} (hf : ∀ h, 1 ≤ (fs.getD h (0, 1)).2) : ∀ i : Nat, match stTo fs ls ns i with
    | none => ∀ h, h < i → ¬ ns.getD h 0 < ls.getD h 0
    | some j => j < i ∧ ns.getD j 0 < ls.getD j 0 ∧ ∀ h, h < i → ns.getD h 0 < ls.getD h 0 → rv (fs.getD h (0, 1)) ≤ rv (fs.getD j (0, 1))
  | 0 => fun h hh => by omega
  | i + 1 => by
    have ih := stTo_ok (fs := fs) (ls := ls) (ns := ns) hf i
    show match (if ns.getD i 0 < ls.getD i 0 ∧ bet fs (stTo fs ls ns i) i = true then some i else stTo fs ls ns i) with
      | none => _
      | some j => _
    cases e : stTo fs ls ns i with
    | none =>
      rw [e] at ih
      dsimp only at ih
      by_cases z : ns.getD i 0 < ls.getD i 0
      · rw [if_pos ⟨z, rfl⟩]
        refine ⟨by omega, z, fun h hh hl => ?_⟩
        by_cases y : h = i
        · rw [y]; grind
        · exact absurd hl (ih h (by omega))
      · rw [if_neg (fun w => z w.1)]
        intro h hh
        by_cases y : h = i
        · rw [y]; exact z
        · exact ih h (by omega)
    | some j =>
      rw [e] at ih
      dsimp only at ih
      obtain ⟨h1, h2, h3⟩ := ih
      have hb : bet fs (some j) i = decide (rv (fs.getD j (0, 1)) < rv (fs.getD i (0, 1))) := fless_iff (hf j) (hf i)
      by_cases z : ns.getD i 0 < ls.getD i 0 ∧ bet fs (some j) i = true
      · rw [if_pos z]
        have z2 := z.2
        rw [hb, decide_eq_true_eq] at z2
        refine ⟨by omega, z.1, fun h hh hl => ?_⟩
        by_cases y : h = i
        · rw [y]; grind
        · have := h3 h (by omega) hl
          grind
      · rw [if_neg z]
        refine ⟨by omega, h2, fun h hh hl => ?_⟩
        by_cases y : h = i
        · subst y
          have : ¬ rv (fs.getD j (0, 1)) < rv (fs.getD h (0, 1)) := fun w => z ⟨hl, by rw [hb]; exact decide_eq_true w⟩
          grind
        · exact h3 h (by omega) hl
theorem stTo_lt {fs : List Fr} {ls ns : List Nat} : ∀ {i j : Nat}, stTo fs ls ns i = some j → j < i
  | 0, j, h => by cases h
  | i + 1, j, h => by
    have h' : (if ns.getD i 0 < ls.getD i 0 ∧ bet fs (stTo fs ls ns i) i = true then some i else stTo fs ls ns i) = some j := h
    split at h'
    · cases h'; omega
    · have := stTo_lt h'
      omega
theorem frD_of {fs : List Fr} {i : Nat} {f : Fr} (h : fs[i]? = some f) : fs.getD i (0, 1) = f := by rw [List.getD_eq_getElem?_getD, h]; rfl
theorem FrsAt.at {K : PySem.W.Frag} {H : Hp} {as : List Addr} {fs : List Fr} {i : Nat} (h : FrsAt K H as fs) (hi : i < fs.length) : ∃ x, (as.map V.ref)[i]? = some (.ref x) ∧ FrAt K H x (fs.getD i (0, 1)) := by
  have hl := h.len
  have e : (as.map V.ref)[i]? = some (.ref (as[i]'(by omega))) := by rw [List.getElem?_map, List.getElem?_eq_getElem (by omega)]; rfl
  obtain ⟨x, f, e2, hf, hx⟩ := h.get e
  cases e2
  exact ⟨_, e, by rw [frD_of hf]; exact hx⟩
def spSteep (K : PySem.W.Frag) : Sp := fun vs H Q _ => ∃ (a b c : Addr) (as : List Addr) (fs : List Fr) (ls ns : List Nat), vs = [.ref a, .ref b, .ref c] ∧ SqL K H a (as.map V.ref) ∧ FrsAt K H as fs ∧ (∀ f ∈ fs, FrB 40 f) ∧ SqL K H b (vN ls) ∧ SqL K H c (vN ns) ∧ fs.length = ns.length ∧ ls.length = ns.length ∧ ns.length ≤ 1000 ∧ ∀ H', Kp [] H H' → Q (optN (stTo fs ls ns ns.length)) H'
theorem ok_steepest {P : Program} {w : World} {K : PySem.W.Frag} {mg : Str → Option Value} {base : Heap} (T : T P K mg) : FnOk P w K mg base CX0 2 T.a_steepest T.fd_steepest ["falls", "limits", "numbers"] (spSteep K) := by
  refine T.F_steepest.ok sc_steepest (fun vs H Q E h => ?_) (fun cdv A outer s H vs Q E hr h => ?_)
  · obtain ⟨a, b, c, as, fs, ls, ns, rfl, _⟩ := h
    rfl
  · obtain ⟨a, b, c, as, fs, ls, ns, rfl, hS, hF, hB, hL, hN, hfl, hll, hz, q⟩ := h
    refine ⟨_, (pss_cons (ps_set (i := 3) sc_steepest.nd rfl (by first | exact Or.inl rfl | exact Or.inr rfl) pe_non)
      (pss_cons (ps_for PassesOwn.never rfl (pi_enum (by rfl) T.z_enumerate (pa_cons (pv 2) pa_nil)) (pg_tup rfl (pgs_cons (pg_name (i := 4) sc_steepest.nd rfl (by first | exact Or.inl rfl | exact Or.inr rfl)) (pgs_cons (pg_name (i := 5) sc_steepest.nd rfl (by first | exact Or.inl rfl | exact Or.inr rfl)) pgs_nil))) (pss_one (ps_if (PW.pt (pw_and (pt_cmpR op_lt (pv 5) (pe_ix ix_list (pv 1) (pv 4) (fun _ _ => rfl)) (nomark _)) (pw_and1 (PW.pt (pw_or (pt_cmpR o_isN (pv 3) pe_non (nomark _)) (pw_or1 (pt_val (pe_call (ok_less T) (hr.mono (by decide)) (by rfl) T.g_less T.F_less.kp T.b_less .nil pass0 (pa_cons (pe_ix ix_list (pv 0) (pv 3) (fun _ _ => rfl)) (pa_cons (pe_ix ix_list (pv 0) (pv 4) (fun _ _ => rfl)) pa_nil)))))))))) (pss_one (ps_set (i := 3) sc_steepest.nd rfl (by first | exact Or.inl rfl | exact Or.inr rfl) (pv 4))) pss_nil)))
      (pss_one (ps_ret (pv 3))))), ?_⟩
    walk_at "z0"
    walk_at "z"
    refine Z.fore (vN ns) hN (fun i σ' H' => ∃ y4 y5, σ' = [some (.ref a), some (.ref b), some (.ref c), some (optN (stTo fs ls ns i)), y4, y5] ∧ Kp [] H H') ⟨_, _, rfl, Kp.refl _⟩ ?_ ?_ ?_
    · rintro i σ' H2 hi ⟨y4, y5, rfl, k2⟩
      exact k2.seq nin0 hN
    · rintro i v σ' H2 H3 t hv ⟨y4, y5, rfl, k2⟩ nt k3 e3
      obtain ⟨n, hn, rfl⟩ := vN_at hv
      have hi : i < ns.length := (List.getElem?_eq_some_iff.mp hn).1
      have k23 := k2.trans k3
      have hst : stTo fs ls ns (i + 1) = if ns.getD i 0 < ls.getD i 0 ∧ bet fs (stTo fs ls ns i) i = true then some i else stTo fs ls ns i := rfl
      have hnD := getD_of hn
      refine Z.gtup (tupT e3) rfl ?_
      walk_at "z"
      refine Z.ixL (k23.seq nin0 hL) (atI_nat (vN_D (by omega))) ?_
      walk_at "z"
      refine Z.ite (fun h1 => ?_) (fun h1 => ?_)
      · walk_at "z"
        have hlt := fun j => stTo_lt (fs := fs) (ls := ls) (ns := ns) (i := i) (j := j)
        generalize stTo fs ls ns i = o at hst hlt ⊢
        cases o with
        | none =>
          rw [if_pos ⟨by omega, rfl⟩] at hst
          refine Z.yes (by rfl) ?_
          walk_at "z"
          exact ⟨_, _, by rw [hst]; rfl, k23⟩
        | some j =>
          have hji := hlt j rfl
          obtain ⟨x, ex, hx⟩ := (hF.kp0 k23).at (i := j) (by omega)
          obtain ⟨y, ey, hy⟩ := (hF.kp0 k23).at (i := i) (by omega)
          have hBD : ∀ h, h < fs.length → FrB 40 (fs.getD h (0, 1)) := fun h hh => by
            have e := List.getElem?_eq_getElem hh
            rw [frD_of e]
            exact hB _ (List.mem_of_getElem? e)
          refine Z.no (by simp [optN]) ?_
          walk_at "z"
          refine Z.ixL (k23.seq nin0 hS) (atI_nat ex) ?_
          walk_at "z"
          refine Z.ixL (k23.seq nin0 hS) (atI_nat ey) ?_
          walk_at "z"
          refine ⟨x, y, _, _, rfl, hx, hy, (hBD j (by omega)).mono (by decide), (hBD i (by omega)).mono (by decide), ?_⟩
          have hbe : bet fs (some j) i = fless (fs.getD j (0, 1)) (fs.getD i (0, 1)) := rfl
          cases hfl2 : fless (fs.getD j (0, 1)) (fs.getD i (0, 1)) with
          | true =>
            rw [if_pos ⟨by omega, by rw [hbe, hfl2]⟩] at hst
            walk_at "z"
            exact ⟨_, _, by rw [hst]; rfl, k23⟩
          | false =>
            rw [if_neg (fun z => by have := z.2; rw [hbe, hfl2] at this; cases this)] at hst
            walk_at "z"
            exact ⟨_, _, by rw [hst], k23⟩
      · rw [if_neg (fun z => h1 (by have := z.1; omega))] at hst
        walk_at "z"
        exact ⟨_, _, by rw [hst], k23⟩
    · rintro σ' H2 ⟨y4, y5, rfl, k2⟩
      rw [vN_len]
      walk_at "z"
      exact q H2 k2
/-! ### the deal -/
def fsOf (cs : List Fr) (ns : List Nat) : List Fr := (cs.zip ns).map fun x => fallF x.1 x.2
def ones (ls : List Nat) : List Nat := ls.map fun _ => 1
def pickF (fs : List Fr) (o : Option Nat) (d : Fr) : Fr :=
  match o with
  | none => d
  | some j => fs.getD j (0, 1)
def stOf (cs : List Fr) (ls ns : List Nat) : Option Nat := stTo (fsOf cs ns) ls ns ns.length
def stp (cs : List Fr) (ls : List Nat) (s : List Nat × Fr) : List Nat × Fr :=
  match stOf cs ls s.1 with
  | none => s
  | some j => (s.1.set j (s.1.getD j 0 + 1), (fsOf cs s.1).getD j (0, 1))
def dealAt (cs : List Fr) (ls : List Nat) : Nat → List Nat × Fr
  | 0 => (ones ls, pickF (fsOf cs (ones ls)) (stOf cs ls (ones ls)) (0, 1))
  | i + 1 => stp cs ls (dealAt cs ls i)
theorem fsOf_len {cs : List Fr} {ns : List Nat} (h : cs.length = ns.length) : (fsOf cs ns).length = ns.length := by
  unfold fsOf
  rw [List.length_map, List.length_zip]
  omega
theorem fsOf_at {cs : List Fr} {ns : List Nat} {i : Nat} {c : Fr} {n : Nat} (hc : cs[i]? = some c) (hn : ns[i]? = some n) : (fsOf cs ns)[i]? = some (fallF c n) := by
  unfold fsOf
  rw [List.getElem?_map, (List.getElem?_zip_eq_some (z := (c, n))).mpr ⟨hc, hn⟩]
  rfl
theorem fsOf_D {cs : List Fr} {ns : List Nat} {i : Nat} (h : cs.length = ns.length) (hi : i < ns.length) : (fsOf cs ns).getD i (0, 1) = fallF (cs.getD i (0, 1)) (ns.getD i 0) := by
  have hc : cs[i]? = some (cs[i]'(by omega)) := List.getElem?_eq_getElem (by omega)
  have hn : ns[i]? = some ns[i] := List.getElem?_eq_getElem hi
  rw [frD_of (fsOf_at hc hn), frD_of hc, getD_of hn]
theorem fsOf_set {cs : List Fr} {ns : List Nat} {j x : Nat} (h : cs.length = ns.length) (hj : j < ns.length) : fsOf cs (ns.set j x) = (fsOf cs ns).set j (fallF (cs.getD j (0, 1)) x) := by
  refine List.ext_getElem? fun i => ?_
  rw [List.getElem?_set, fsOf_len h]
  by_cases hi : i < ns.length
  · have hc : cs[i]? = some (cs[i]'(by omega)) := List.getElem?_eq_getElem (by omega)
    by_cases z : j = i
    · subst z
      rw [if_pos rfl, if_pos hj]
      have hn : (ns.set j x)[j]? = some x := by rw [List.getElem?_set, if_pos rfl, if_pos hj]
      rw [fsOf_at hc hn, frD_of hc]
    · rw [if_neg z]
      have hn : ns[i]? = some ns[i] := List.getElem?_eq_getElem hi
      have hn2 : (ns.set j x)[i]? = some ns[i] := by rw [List.getElem?_set, if_neg z, hn]
      rw [fsOf_at hc hn, fsOf_at hc hn2]
  · have l1 : (fsOf cs (ns.set j x)).length = ns.length := by rw [fsOf_len (by rw [List.length_set]; exact h), List.length_set]
    rw [List.getElem?_eq_none (by omega)]
    rw [if_neg (by omega)]
    rw [List.getElem?_eq_none (by rw [fsOf_len h]; omega)]
/-- what holds of the deal behind each step -/
structure DealOk (cs : List Fr) (ls : List Nat) (i : Nat) (ns : List Nat) (t : Fr) : Prop where
  I : InL ls ns
  sum : ns.sum = ls.length + i
  L : Low t
  B : FrB 27 t
  opt : ∀ h, h < ns.length → (ns.getD h 0 = 1 ∨ rv t ≤ fallR (rv (cs.getD h (0, 1))) (ns.getD h 0 - 1)) ∧ (ns.getD h 0 = ls.getD h 0 ∨ fallR (rv (cs.getD h (0, 1))) (ns.getD h 0) ≤ rv t)
structure CsOk (cs : List Fr) (ls : List Nat) : Prop where
  len : cs.length = ls.length
  c : ∀ c ∈ cs, CB c
  l : ∀ l ∈ ls, 1 ≤ l ∧ l ≤ 9
theorem CsOk.at {cs : List Fr} {ls : List Nat} (h : CsOk cs ls) {i : Nat} (hi : i < cs.length) : CB (cs.getD i (0, 1)) := by
  have hc : cs[i]? = some (cs[i]'(by omega)) := List.getElem?_eq_getElem (by omega)
  rw [frD_of hc]
  exact h.c _ (List.mem_of_getElem? hc)
theorem InL.bnd {cs : List Fr} {ls ns : List Nat} (h : CsOk cs ls) (hI : InL ls ns) : ∀ i, i < ns.length → 1 ≤ ns.getD i 0 ∧ ns.getD i 0 < 2 ^ 9 := fun i hi => by
  obtain ⟨h1, h2⟩ := inL_iff.mp hI
  have h3 := h2 i hi
  have hl : ls[i]? = some (ls[i]'(by omega)) := List.getElem?_eq_getElem (by omega)
  have h4 := h.l _ (List.mem_of_getElem? hl)
  rw [getD_of hl] at h3
  omega
theorem fsOf_all {cs : List Fr} {ls ns : List Nat} (h : CsOk cs ls) (hI : InL ls ns) : ∀ i, i < ns.length → Low ((fsOf cs ns).getD i (0, 1)) ∧ FrB 27 ((fsOf cs ns).getD i (0, 1)) ∧ rv ((fsOf cs ns).getD i (0, 1)) = fallR (rv (cs.getD i (0, 1))) (ns.getD i 0) := fun i hi => by
  have hl := hI.len
  have hb := hI.bnd h i hi
  rw [fsOf_D (by rw [h.len]; exact hl) hi]
  exact fallF_ok (h.at (by rw [h.len]; omega)) hb.1 (by omega)
theorem fsOf_pos {cs : List Fr} {ls ns : List Nat} (h : CsOk cs ls) (hI : InL ls ns) : ∀ i, 1 ≤ ((fsOf cs ns).getD i (0, 1)).2 := fun i => by
  by_cases hi : i < ns.length
  · exact (fsOf_all h hI i hi).1.1
  · rw [List.getD_eq_getElem?_getD, List.getElem?_eq_none (by rw [fsOf_len (by rw [h.len]; exact hI.len)]; omega)]
    show (1 : Int) ≤ 1
    decide
theorem ones_in : ∀ {ls : List Nat}, (∀ l ∈ ls, 1 ≤ l) → InL ls (ones ls)
  | [], _ => trivial
  | l :: ls, h => ⟨⟨Nat.le_refl 1, h l (by simp)⟩, ones_in fun z hz => h z (by simp [hz])⟩
theorem ones_sum (ls : List Nat) : (ones ls).sum = ls.length := by
  induction ls with
  | nil => rfl
  | cons l r ih =>
    show 1 + (ones r).sum = r.length + 1
    omega
theorem ones_len (ls : List Nat) : (ones ls).length = ls.length := List.length_map _
theorem ones_D {ls : List Nat} {i : Nat} (h : i < ls.length) : (ones ls).getD i 0 = 1 := by
  have : (ones ls)[i]? = some 1 := by unfold ones; rw [List.getElem?_map, List.getElem?_eq_getElem h]; rfl
  exact getD_of this
theorem zero_B : FrB 27 (0, 1) := ⟨by decide, by decide⟩
theorem deal0_ok {cs : List Fr} {ls : List Nat} (h : CsOk cs ls) : DealOk cs ls 0 (dealAt cs ls 0).1 (dealAt cs ls 0).2 := by
  have hI := ones_in fun l hl => (h.l l hl).1
  have hol := ones_len ls
  have hall := fsOf_all h hI
  have hst := stTo_ok (fs := fsOf cs (ones ls)) (ls := ls) (ns := ones ls) (fsOf_pos h hI) (ones ls).length
  show DealOk cs ls 0 (ones ls) (pickF (fsOf cs (ones ls)) (stTo (fsOf cs (ones ls)) ls (ones ls) (ones ls).length) (0, 1))
  have hI2 := (inL_iff.mp hI).2
  cases e : stTo (fsOf cs (ones ls)) ls (ones ls) (ones ls).length with
  | none =>
    rw [e] at hst
    refine ⟨hI, by rw [ones_sum, Nat.add_zero], low_zero, zero_B, fun x hx => ⟨.inl (ones_D (by omega)), .inl ?_⟩⟩
    have h1 := hst x hx
    have h2 := (hI2 x hx).2
    omega
  | some j =>
    rw [e] at hst
    dsimp only at hst
    obtain ⟨h1, h2, h3⟩ := hst
    have hj := hall j h1
    refine ⟨hI, by rw [ones_sum, Nat.add_zero], hj.1, hj.2.1, fun x hx => ⟨.inl (ones_D (by omega)), ?_⟩⟩
    by_cases z : (ones ls).getD x 0 < ls.getD x 0
    · refine .inr ?_
      have := h3 x hx z
      rw [(hall x hx).2.2] at this
      exact this
    · have h4 := (hI2 x hx).2
      exact .inl (by omega)
theorem stOf_some {cs : List Fr} {ls ns : List Nat} {i : Nat} {t : Fr} (h : CsOk cs ls) (d : DealOk cs ls i ns t) (hi : ls.length + i < ls.sum) : ∃ j, stOf cs ls ns = some j := by
  have hst := stTo_ok (fs := fsOf cs ns) (ls := ls) (ns := ns) (fsOf_pos h d.I) ns.length
  unfold stOf
  cases e : stTo (fsOf cs ns) ls ns ns.length with
  | some j => exact ⟨j, rfl⟩
  | none =>
    rw [e] at hst
    have := full_sum d.I hst
    have := d.sum
    omega
theorem stp_ok {cs : List Fr} {ls ns : List Nat} {i j : Nat} {t : Fr} (h : CsOk cs ls) (d : DealOk cs ls i ns t) (hj : stOf cs ls ns = some j) : j < ns.length ∧ DealOk cs ls (i + 1) (ns.set j (ns.getD j 0 + 1)) ((fsOf cs ns).getD j (0, 1)) := by
  have hst := stTo_ok (fs := fsOf cs ns) (ls := ls) (ns := ns) (fsOf_pos h d.I) ns.length
  unfold stOf at hj
  rw [hj] at hst
  dsimp only at hst
  obtain ⟨h1, h2, h3⟩ := hst
  have hall := fsOf_all h d.I
  have hl := d.I.len
  obtain ⟨_, hI2⟩ := inL_iff.mp d.I
  have hfj := hall j h1
  have hdj := d.opt j h1
  have hnj := hI2 j h1
  have htj : rv ((fsOf cs ns).getD j (0, 1)) ≤ rv t := by
    rw [hfj.2.2]
    rcases hdj.2 with z | z
    · omega
    · exact z
  refine ⟨h1, inL_iff.mpr ⟨by rw [List.length_set]; exact hl, fun x hx => ?_⟩, ?_, hfj.1, hfj.2.1, fun x hx => ?_⟩
  · rw [List.length_set] at hx
    rw [getD_set h1]
    have := hI2 x hx
    split
    · rename_i z
      subst z
      omega
    · exact this
  · have := sum_set (ns := ns) (j := j) (x := ns.getD j 0 + 1) h1
    have := d.sum
    omega
  · rw [List.length_set] at hx
    rw [getD_set h1]
    have hdx := d.opt x hx
    have hfx := hall x hx
    by_cases z : x = j
    · subst z
      rw [if_pos rfl]
      refine ⟨.inr ?_, ?_⟩
      · rw [Nat.add_sub_cancel, hfx.2.2]
        grind
      · refine .inr ?_
        rw [hfx.2.2]
        exact fallR_mono (h.at (by rw [h.len]; omega)).v (by omega)
    · rw [if_neg z]
      refine ⟨?_, ?_⟩
      · rcases hdx.1 with y | y
        · exact .inl y
        · refine .inr ?_
          grind
      · by_cases y : ns.getD x 0 < ls.getD x 0
        · have := h3 x hx y
          rw [hfx.2.2] at this
          exact .inr this
        · have := (hI2 x hx).2
          exact .inl (by omega)
theorem dealAt_ok {cs : List Fr} {ls : List Nat} (h : CsOk cs ls) : ∀ {i : Nat}, ls.length + i ≤ ls.sum → DealOk cs ls i (dealAt cs ls i).1 (dealAt cs ls i).2
  | 0, _ => deal0_ok h
  | i + 1, hi => by
    have ih := dealAt_ok h (i := i) (by omega)
    obtain ⟨j, hj⟩ := stOf_some h ih (by omega)
    have e : dealAt cs ls (i + 1) = ((dealAt cs ls i).1.set j ((dealAt cs ls i).1.getD j 0 + 1), (fsOf cs (dealAt cs ls i).1).getD j (0, 1)) := by
      show stp cs ls (dealAt cs ls i) = _
      unfold stp
      rw [hj]
    rw [e]
    exact (stp_ok h ih hj).2

theorem rep_ones : ∀ ls : List Nat, (List.replicate ls.length [V.int 1]).flatten = vN (ones ls)
  | [] => rfl
  | l :: ls => by
    rw [List.length_cons, List.replicate_succ, List.flatten_cons, rep_ones ls]
    rfl
theorem FrsAt.set {K : PySem.W.Frag} {H : Hp} : ∀ {as : List Addr} {fs : List Fr} {j : Nat} {a : Addr} {f : Fr}, FrsAt K H as fs → FrAt K H a f → FrsAt K H (as.set j a) (fs.set j f)
  | [], [], _, _, _, _, _ => .nil
  | x :: as, g :: fs, 0, a, f, .cons h r, hf => .cons hf r
  | x :: as, g :: fs, j + 1, a, f, .cons h r, hf => .cons h (FrsAt.set (j := j) r hf)
theorem ok_NoDeal_init {P : Program} {w : World} {K : PySem.W.Frag} {mg : Str → Option Value} {base : Heap} (T : T P K mg) : FnOk P w K mg base CX0 1 T.a_NoDeal_init ((NF_NoDeal T.cc_NoDeal T.c_NoDeal).fd T.doc_NoDeal T.pm_NoDeal T.ctv_NoDeal) ["self"] (spZD T.C_NoDeal) := by
  refine Sup.fn_super (F := NF_NoDeal T.cc_NoDeal T.c_NoDeal) (p := "self") (ps' := []) T.x_NoDeal.S T.lk_NoDeal rfl T.hc_NoDeal sc_NoDeal_init rfl ⟨_, rfl, rfl⟩ rfl rfl (fun _ => rfl) (fun _ => ⟨_, rfl⟩) (fun _ => rfl) (fun vs H Q E h => ?_) (fun A outer s H vs Q E hr h => ?_)
  · obtain ⟨a, rfl, _⟩ := h
    rfl
  · obtain ⟨a, rfl, ha, q⟩ := h
    exact ⟨a, [], _, _, rfl, ha, pa_cons pe_str pa_nil, pss_nil, by decide, ha, q⟩
theorem sum_le9 : ∀ {ls : List Nat}, (∀ l ∈ ls, l ≤ 9) → ls.sum ≤ 9 * ls.length
  | [], _ => by simp
  | l :: ls, h => by
    have h1 := h l (by simp)
    have h2 := sum_le9 (ls := ls) fun z hz => h z (by simp [hz])
    rw [List.sum_cons, List.length_cons]
    omega
structure Told (K : PySem.W.Frag) (H : Hp) (t : Addr) (ns : List Nat) (f : Fr) (N p : Addr) : Prop where
  t : H t = some (.tup [.ref N, .ref p])
  N : H N = some (.lst (vN ns))
  p : FrAt K H p f
def spDealP (K : PySem.W.Frag) (C : Addr) : Sp := fun vs H Q E => ∃ (a b : Addr) (as : List Addr) (cs : List Fr) (ls : List Nat) (m : Int), vs = [.ref a, .ref b, .int m] ∧ SqL K H a (as.map V.ref) ∧ FrsAt K H as cs ∧ SqL K H b (vN ls) ∧ CsOk cs ls ∧ ls.length ≤ 100 ∧
  (¬ ((ls.length : Int) ≤ m ∧ m ≤ ((ls.sum : Nat) : Int)) → E (.ref C) none H) ∧ (∀ r : Nat, m = (ls.length : Int) + (r : Int) → ls.length + r ≤ ls.sum → ∀ H' t N p, H t = none → Kp [] H H' → Told K H' t (dealAt cs ls r).1 (dealAt cs ls r).2 N p → Q (.ref t) H')
theorem ok_deal {P : Program} {w : World} {K : PySem.W.Frag} {mg : Str → Option Value} {base : Heap} (T : T P K mg) : FnOk P w K mg base (L2.CX P w) 6 T.a_deal T.fd_deal ["costs", "limits", "places"] (spDealP K T.C_NoDeal) := by
  refine T.F_deal.okX sc_deal (fun vs H Q E h => ?_) (fun cdv A outer s H vs Q E hr h => ?_)
  · obtain ⟨a, b, as, cs, ls, m, rfl, _⟩ := h
    rfl
  · obtain ⟨a, b, as, cs, ls, m, rfl, hS, hF, hT, hC, hl, q0, q1⟩ := h
    refine ⟨_, (pss_cons (ps_if (pt_not (pt_chain op_le op_le (pe_callB c_len (by rfl) T.z_len (by decide +kernel) (pa_cons (pv 1) pa_nil)) (pv 2) (pe_callB (cr_sum rfl) (by rfl) T.z_sum (by decide +kernel) (pa_cons (pv 1) pa_nil)))) (pss_one (ps_raise rfl (takes_of rfl rfl rfl rfl) (Sup.pmk_oexN T.x_NoDeal.S.T T.x_NoDeal.iC T.x_NoDeal.tI (ok_NoDeal_init T) (hr.mono (by decide)) (T.bx_NoDeal) pass0 (by rfl) T.x_NoDeal.g))) pss_nil)
      (pss_cons (ps_set (i := 3) sc_deal.nd rfl (by first | exact Or.inl rfl | exact Or.inr rfl) (pe_op op_rep (pe_lst (pa_cons pe_int pa_nil)) (pe_callB c_len (by rfl) T.z_len (by decide +kernel) (pa_cons (pv 1) pa_nil))))
      (pss_cons (ps_setLc (i := 4) (own := [("cost", 8)]) (g := gName 8) rfl sc_deal.nd rfl rfl (sw_true rfl rfl rfl (by decide +kernel)) (pi_list (pv 0)) (blkOk_by (own := [("cost", 8)]) (N := N_deal) (sc := defScope s_deal) (by decide +kernel)) (fun _ _ _ _ _ => (pg_name (i := 8) sc_deal.nd rfl (by first | exact Or.inl rfl | exact Or.inr rfl))) (fun _ _ _ _ _ => pts_nil) (fun _ _ _ _ _ => (pe_call (ok_fall T) (hr.mono (by decide)) (by rfl) T.g_fall T.F_fall.kp T.b_fall .nil pass0 (pa_cons (pv 8) (pa_cons pe_int pa_nil)))))
      (pss_cons (ps_set (i := 5) sc_deal.nd rfl (by first | exact Or.inl rfl | exact Or.inr rfl) (pe_glob (v := .ref T.k_ZERO) (by rfl) T.g_ZERO rfl))
      (pss_cons (ps_set (i := 6) sc_deal.nd rfl (by first | exact Or.inl rfl | exact Or.inr rfl) (pe_call (ok_steepest T) (hr.mono (by decide)) (by rfl) T.g_steepest T.F_steepest.kp T.b_steepest .nil pass0 (pa_cons (pv 4) (pa_cons (pv 1) (pa_cons (pv 3) pa_nil)))))
      (Z.pss_consJ (ps_if (pt_cmpR o_notN (pv 6) pe_non (nomark _)) (pss_one (ps_set (i := 5) sc_deal.nd rfl (by first | exact Or.inl rfl | exact Or.inr rfl) (pe_ix ix_list (pv 4) (pv 6) (fun _ _ => rfl)))) pss_nil)
      (pss_cons (ps_for (passes_of rfl) rfl (pi_range1 (by rfl) T.z_range (pa_cons (pe_op op_sub (pv 2) (pe_callB c_len (by rfl) T.z_len (by decide +kernel) (pa_cons (pv 1) pa_nil))) pa_nil)) (pg_name (i := 7) sc_deal.nd rfl (by first | exact Or.inl rfl | exact Or.inr rfl)) (pss_cons (ps_set (i := 5) sc_deal.nd rfl (by first | exact Or.inl rfl | exact Or.inr rfl) (pe_ix ix_list (pv 4) (pv 6) (fun _ _ => rfl)))
      (pss_cons (ps_augS (pv 3) (pv 6) Z.pget_list pe_int ip_add set_list)
      (pss_cons (ps_asg (pe_call (ok_fall T) (hr.mono (by decide)) (by rfl) T.g_fall T.F_fall.kp T.b_fall .nil pass0 (pa_cons (pe_ix ix_list (pv 0) (pv 6) (fun _ _ => rfl)) (pa_cons (pe_ix ix_list (pv 3) (pv 6) (fun _ _ => rfl)) pa_nil))) (pg_sub (pv 4) (pv 6) set_list))
      (pss_one (ps_set (i := 6) sc_deal.nd rfl (by first | exact Or.inl rfl | exact Or.inr rfl) (pe_call (ok_steepest T) (hr.mono (by decide)) (by rfl) T.g_steepest T.F_steepest.kp T.b_steepest .nil pass0 (pa_cons (pv 4) (pa_cons (pv 1) (pa_cons (pv 3) pa_nil))))))))))
      (pss_one (ps_ret (pe_tup (pa_cons (pv 3) (pa_cons (pv 5) pa_nil)))))))))))), ?_⟩
    walk_at "z0"
    walk_at "z"
    refine Z.lenL hT ?_
    rw [vN_len]
    walk_at "z"
    refine Z.ite (fun h1 => ?_) (fun h1 => ?_)
    · walk_at "z"
      refine Z.sumL (ns := nints ls) hT ?_
      rw [ints_sum]
      walk_at "z"
      refine Z.iteN (fun h2 => ?_) (fun h2 => ?_)
      · refine Z.mkN fun a na => ⟨a, rfl, upd_same, rfl, upd_same, ?_⟩
        rw [del_upd na]
        exact q0 (fun z => h2 z.2)
      · obtain ⟨r, hr, hrs⟩ : ∃ r : Nat, m = (ls.length : Int) + (r : Int) ∧ ls.length + r ≤ ls.sum := ⟨(m - ls.length).toNat, by omega, by omega⟩
        have q := q1 r hr hrs
        have hcl := hC.len
        have hol := ones_len ls
        have hFl := hF.len
        have hs9 := sum_le9 fun l hl => (hC.l l hl).2
        walk_at "z"
        refine Z.lstK (fun L H1 nL k1 e1 => ?_)
        walk_at "z"
        refine Z.lenL (k1.seq nin0 hT) ?_
        rw [vN_len]
        refine ⟨L, _, _, rfl, rfl, e1, by omega, by omega, Z.sz (m := 1000) (by show 1 * _ ≤ 1000; omega), fun N nN => ?_⟩
        rw [show ((ls.length : Int)).toNat = ls.length by omega, rep_ones]
        have k2 : Kp [] H1 (upd H1 N (.lst (vN (ones ls)))) := Kp.new nN
        have e2 : upd H1 N (.lst (vN (ones ls))) N = some (.lst (vN (ones ls))) := upd_same
        generalize upd H1 N (.lst (vN (ones ls))) = H2 at k2 e2 ⊢
        have nN0 : H N = none := k1.none nin0 nN
        have k02 := k1.trans k2
        walk_at "z"
        refine Z.lcl (as.map V.ref) (k02.seq nin0 hS) (fun D i H' => ∃ ds : List Addr, Kp [] H2 H' ∧ H' D = some (.lst (ds.map V.ref)) ∧ FrsAt K H' ds ((fsOf cs (ones ls)).take i)) ?_ ?_ ?_ ?_
        · intro D H3 nD k3 e3
          exact ⟨[], k3, e3, .nil⟩
        · rintro D i H3 nD hi ⟨ds, k3, e3, F3⟩
          exact k3.seq nin0 (k02.seq nin0 hS)
        · rintro D i v H3 nD hv ⟨ds, k3, e3, F3⟩
          obtain ⟨x, c, rfl, hc, hx⟩ := ((hF.kp0 k02).kp0 k3).get hv
          have hi : i < cs.length := (List.getElem?_eq_some_iff.mp hc).1
          have h1i : (ones ls)[i]? = some 1 := by unfold ones; rw [List.getElem?_map, List.getElem?_eq_getElem (by omega)]; rfl
          dsimp only [wipe, List.set]
          walk_at "z"
          refine ⟨rfl, ?_⟩
          walk_at "z"
          refine ⟨x, c, 1, rfl, hx, hC.c c (List.mem_of_getElem? hc), by decide, by decide, fun H4 y ny k4 e4 => ?_⟩
          have e4D := k4.get nin0 e3
          refine ⟨_, e4D, Z.szl (m := 1000) (by rw [List.length_map, F3.len, List.length_take]; omega), ds ++ [y], (k3.trans k4).mut nD rfl, by rw [upd_same, List.map_append]; rfl, ?_⟩
          rw [List.take_add_one, fsOf_at hc h1i]
          exact ((F3.kp0 k4).snoc e4).kpl (Kp.put (by simp)) e4D
        · rintro F H3 nF ⟨ds, k3, e3, F3⟩
          have hfl := fsOf_len (cs := cs) (ns := ones ls) (by omega)
          rw [List.length_map, show as.length = (fsOf cs (ones ls)).length by omega, List.take_length] at F3
          have k03 := k02.trans k3
          have nF0 : H F = none := k02.none nin0 nF
          have nNF : N ≠ F := fun z => by rw [z, nF] at e2; cases e2
          have e3N := k3.get nin0 e2
          have hI0 := ones_in fun l hl => (hC.l l hl).1
          have hBof : ∀ {ns : List Nat}, InL ls ns → ∀ f ∈ fsOf cs ns, FrB 40 f := fun hI f hf => by
            obtain ⟨i, hi⟩ := List.getElem?_of_mem hf
            have h9 := (List.getElem?_eq_some_iff.mp hi).1
            rw [fsOf_len (by have := hI.len; omega)] at h9
            have := (fsOf_all hC hI i h9).2.1
            rw [frD_of hi] at this
            exact this.mono (by decide)
          walk_at "z"
          refine ⟨F, b, N, ds, fsOf cs (ones ls), ls, ones ls, rfl, lstL e3, F3, hBof hI0, k03.seq nin0 hT, lstL e3N, hfl, by omega, by omega, fun H4 k4 => ?_⟩
          have F4 := F3.kp0 k4
          have e4F := k4.get nin0 e3
          have e4N := k4.get nin0 e3N
          have k04 := k03.trans k4
          walk_at "z"
          refine Z.seqJ (fun σ' H' => ∃ p, σ' = [some (.ref a), some (.ref b), some (.int m), some (.ref N), some (.ref F), some (.ref p), some (optN (stOf cs ls (dealAt cs ls 0).1)), none, none] ∧ H' = H4 ∧ FrAt K H4 p (dealAt cs ls 0).2) ?_ ?_
          · rintro σ' H5 ⟨p, rfl, rfl, ep⟩
            walk_at "z"
            refine Z.lenL (k04.seq nin0 hT) ?_
            rw [vN_len]
            refine Z.i0 ?_
            refine Z.forr r (by omega) (by omega) (fun i σ' H' => ∃ p ds y7, σ' = [some (.ref a), some (.ref b), some (.int m), some (.ref N), some (.ref F), some (.ref p), some (optN (stOf cs ls (dealAt cs ls i).1)), y7, none] ∧ Kp [] H H' ∧ H' N = some (.lst (vN (dealAt cs ls i).1)) ∧ H' F = some (.lst (ds.map V.ref)) ∧ FrsAt K H' ds (fsOf cs (dealAt cs ls i).1) ∧ FrAt K H' p (dealAt cs ls i).2) ⟨p, ds, _, rfl, k04, e4N, e4F, F4, ep⟩ ?_ ?_
            · rintro i σ' H6 hi ⟨p, ds, y7, rfl, k6, e6N, e6F, F6, ep6⟩
              have dk := dealAt_ok hC (i := i) (by omega)
              obtain ⟨j, hj⟩ := stOf_some hC dk (by omega)
              have hst := stp_ok hC dk hj
              have esucc : dealAt cs ls (i + 1) = ((dealAt cs ls i).1.set j ((dealAt cs ls i).1.getD j 0 + 1), (fsOf cs (dealAt cs ls i).1).getD j (0, 1)) := by
                show stp cs ls (dealAt cs ls i) = _
                unfold stp
                rw [hj]
              rw [esucc, hj]
              generalize (dealAt cs ls i).1 = ns at dk hj hst e6N F6 ⊢
              obtain ⟨hjl, dk2⟩ := hst
              have hnl := dk.I.len
              have hfl2 := fsOf_len (cs := cs) (ns := ns) (by omega)
              obtain ⟨x, ex, hx⟩ := F6.at (i := j) (by omega)
              walk_at "z"
              dsimp only [optN]
              refine Z.ixL (lstL e6F) (atI_nat ex) ?_
              walk_at "z"
              refine Z.ixL (lstL e6N) (atI_nat (vN_D hjl)) ?_
              walk_at "z"
              refine Z.setL e6N (ixN_nat (by rw [vN_len]; exact hjl)) ?_
              have e1c : ((ns.getD j 0 : Nat) : Int) + 1 = ((ns.getD j 0 + 1 : Nat) : Int) := by omega
              rw [e1c, vN_set]
              have k7 : Kp [N] H6 (upd H6 N (.lst (vN (ns.set j (ns.getD j 0 + 1))))) := Kp.put (by simp)
              have k7' : Kp [] H (upd H6 N (.lst (vN (ns.set j (ns.getD j 0 + 1))))) := k6.mut nN0 rfl
              have e7N : upd H6 N (.lst (vN (ns.set j (ns.getD j 0 + 1)))) N = some (.lst (vN (ns.set j (ns.getD j 0 + 1)))) := upd_same
              generalize upd H6 N (.lst (vN (ns.set j (ns.getD j 0 + 1)))) = H7 at k7 k7' e7N ⊢
              have e7F := k7.get (nin1 nNF.symm) e6F
              have F7 := F6.kpl k7 e6N
              have x7 := hx.kpl k7 e6N
              have hset : (ns.set j (ns.getD j 0 + 1)).getD j 0 = ns.getD j 0 + 1 := by rw [getD_set hjl, if_pos rfl]
              obtain ⟨cx, ecx, hcx⟩ := (hF.kp0 k7').at (i := j) (by omega)
              have hnb := dk.I.bnd hC j hjl
              walk_at "z"
              refine Z.ixL (k7'.seq nin0 hS) (atI_nat ecx) ?_
              walk_at "z"
              refine Z.ixL (lstL e7N) (atI_nat (vN_D (by rw [List.length_set]; exact hjl))) ?_
              rw [hset]
              walk_at "z"
              refine ⟨cx, _, ns.getD j 0 + 1, rfl, hcx, hC.at (by omega), by omega, by omega, fun H8 y ny k8 e8 => ?_⟩
              have e8F := k8.get nin0 e7F
              have e8N := k8.get nin0 e7N
              walk_at "z"
              refine Z.setL e8F (ixN_nat (by rw [List.length_map, F7.len]; omega)) ?_
              rw [← List.map_set]
              have k9 : Kp [F] H8 (upd H8 F (.lst ((ds.set j y).map V.ref))) := Kp.put (by simp)
              have k9' : Kp [] H (upd H8 F (.lst ((ds.set j y).map V.ref))) := (k7'.trans k8).mut nF0 rfl
              have e9F : upd H8 F (.lst ((ds.set j y).map V.ref)) F = some (.lst ((ds.set j y).map V.ref)) := upd_same
              generalize upd H8 F (.lst ((ds.set j y).map V.ref)) = H9 at k9 k9' e9F ⊢
              have e9N := k9.get (nin1 nNF) e8N
              have F9 : FrsAt K H9 (ds.set j y) (fsOf cs (ns.set j (ns.getD j 0 + 1))) := by
                rw [fsOf_set (by omega) hjl]
                exact ((F7.kp0 k8).set e8).kpl k9 e8F
              have hsl : (ns.set j (ns.getD j 0 + 1)).length = ns.length := List.length_set
              walk_at "z"
              refine ⟨F, b, N, ds.set j y, _, ls, ns.set j (ns.getD j 0 + 1), rfl, lstL e9F, F9, hBof dk2.I, k9'.seq nin0 hT, lstL e9N, by rw [fsOf_len (by omega)], by omega, by omega, fun H10 k10 => ?_⟩
              walk_at "z"
              exact ⟨x, ds.set j y, _, rfl, k9'.trans k10, k10.get nin0 e9N, k10.get nin0 e9F, F9.kp0 k10, ((x7.kp0 k8).kpl k9 e8F).kp0 k10⟩
            · rintro σ' H6 ⟨p, ds, y7, rfl, k6, e6N, e6F, F6, ep6⟩
              walk_at "z"
              refine Z.tupK (fun t H7 nt k7 e7 => ?_)
              exact q H7 t N p (k6.none nin0 nt) (k6.trans k7) ⟨e7, k7.get nin0 e6N, ep6.kp0 k7⟩
          · intro N' jn
            walk_at "z"
            have h0 : (dealAt cs ls 0).2 = pickF (fsOf cs (ones ls)) (stTo (fsOf cs (ones ls)) ls (ones ls) (ones ls).length) (0, 1) := rfl
            have h0' : stOf cs ls (dealAt cs ls 0).1 = stTo (fsOf cs (ones ls)) ls (ones ls) (ones ls).length := rfl
            have hlt := fun j => stTo_lt (fs := fsOf cs (ones ls)) (ls := ls) (ns := ones ls) (i := (ones ls).length) (j := j)
            rw [h0', h0] at jn
            generalize stTo (fsOf cs (ones ls)) ls (ones ls) (ones ls).length = o at jn hlt ⊢
            cases o with
            | none =>
              refine Z.noNB ?_
              walk_at "z"
              exact jn _ _ ⟨_, rfl, rfl, T.q_ZERO _⟩
            | some j =>
              obtain ⟨x, ex, hx⟩ := F4.at (i := j) (by have := hlt j rfl; omega)
              have e9 : (!decide (optN (some j) = V.non)) = true := by simp [optN]
              rw [if_pos e9]
              walk_at "z"
              refine Z.ixL (lstL e4F) (atI_nat ex) ?_
              walk_at "z"
              exact jn _ _ ⟨x, rfl, rfl, hx⟩
    · walk_at "z"
      refine Z.mkN fun a na => ⟨a, rfl, upd_same, rfl, upd_same, ?_⟩
      rw [del_upd na]
      exact q0 (fun z => h1 z.1)

/-! ### bounds of prices -/
structure PB (p : Fr) : Prop where
  q : 1 ≤ p.2
  B : FrB 30 p
theorem vR_one (c t : Rat) : vR c t 1 = c + t := by
  unfold vR
  have e : ((1 : Nat) : Rat) = 1 := by exact_mod_cast rfl
  rw [e]
  grind
def valF (c p : Fr) (n : Nat) : Fr := fplus (fover c (nF n)) (ftimes (nF n) p)
theorem valF_ok {c p : Fr} {n : Nat} (hc : CB c) (hp : PB p) (h1 : 1 ≤ n) (h2 : n < 2 ^ 10) : Low (valF c p n) ∧ FrB 57 (valF c p n) ∧ rv (valF c p n) = vR (rv c) (rv p) n := by
  have p2 : p.2 ≠ 0 := by have := hp.q; omega
  have o := over_low (n := n) hc.L.ne h1
  have t : Low (ftimes (nF n) p) := lo_low (Int.mul_ne_zero (nF2 n) p2)
  refine ⟨fplus_low o.ne t.ne, fplus_B (over_B hc h1 h2) (ftimes_B (nF_B h2) hp.B (nF2 n) p2) o.ne t.ne, ?_⟩
  unfold valF vR
  rw [rv_fplus o.ne t.ne, rv_over hc.L.ne h1, rv_ftimes (nF2 n) p2, rv_nF]
def spLeast (K : PySem.W.Frag) : Sp := fun vs H Q _ => ∃ (a b : Addr) (c p : Fr) (l : Nat), vs = [.ref a, .int (l : Int), .ref b] ∧ FrAt K H a c ∧ CB c ∧ FrAt K H b p ∧ PB p ∧ 1 ≤ l ∧ l ≤ 9 ∧ ∀ H' d f, Kp [] H H' → FrAt K H' d f → Low f → FrB 57 f → rv f = lvR (rv c) (rv p) (l - 1) → Q (.ref d) H'
theorem ok_least_value {P : Program} {w : World} {K : PySem.W.Frag} {mg : Str → Option Value} {base : Heap} (T : T P K mg) : FnOk P w K mg base CX0 5 T.a_least_value T.fd_least_value ["cost", "limit", "price"] (spLeast K) := by
  refine T.F_least_value.ok sc_least_value (fun vs H Q E h => ?_) (fun cdv A outer s H vs Q E hr h => ?_)
  · obtain ⟨a, b, c, p, l, rfl, _⟩ := h
    rfl
  · obtain ⟨a, b, c, p, l, rfl, ha, hc, hb, hp, h1, h9, q⟩ := h
    have p2 : p.2 ≠ 0 := by have := hp.q; omega
    refine ⟨_, (pss_cons (ps_set (i := 3) sc_least_value.nd rfl (by first | exact Or.inl rfl | exact Or.inr rfl) (pe_call (ok_plus T) (hr.mono (by decide)) (by rfl) T.g_plus T.F_plus.kp T.b_plus .nil pass0 (pa_cons (pv 0) (pa_cons (pv 2) pa_nil))))
      (pss_cons (ps_for PassesOwn.never rfl (pi_range2 (by rfl) T.z_range (pa_cons pe_int (pa_cons (pe_op op_add (pv 1) pe_int) pa_nil))) (pg_name (i := 4) sc_least_value.nd rfl (by first | exact Or.inl rfl | exact Or.inr rfl)) (pss_cons (ps_set (i := 5) sc_least_value.nd rfl (by first | exact Or.inl rfl | exact Or.inr rfl) (pe_call (ok_plus T) (hr.mono (by decide)) (by rfl) T.g_plus T.F_plus.kp T.b_plus .nil pass0 (pa_cons (pe_call (ok_over T) (hr.mono (by decide)) (by rfl) T.g_over T.F_over.kp T.b_over .nil passL (pa_cons (pv 0) (pa_cons (pe_tup (pa_cons (pv 4) (pa_cons pe_int pa_nil))) pa_nil))) (pa_cons (pe_call (ok_times T) (hr.mono (by decide)) (by rfl) T.g_times T.F_times.kp T.b_times .nil pass0 (pa_cons (pe_tup (pa_cons (pv 4) (pa_cons pe_int pa_nil))) (pa_cons (pv 2) pa_nil))) pa_nil))))
      (pss_one (ps_if (pt_val (pe_call (ok_less T) (hr.mono (by decide)) (by rfl) T.g_less T.F_less.kp T.b_less .nil pass0 (pa_cons (pv 5) (pa_cons (pv 3) pa_nil)))) (pss_one (ps_set (i := 3) sc_least_value.nd rfl (by first | exact Or.inl rfl | exact Or.inr rfl) (pv 5))) pss_nil))))
      (pss_one (ps_ret (pv 3))))), ?_⟩
    walk_at "z0"
    walk_at "z"
    refine ⟨a, b, c, p, rfl, ha, hb, hc.L.ne, p2, hc.B.mono (by decide), hp.B.mono (by decide), fun H1 x nx k1 ex => ?_⟩
    walk_at "z"
    refine Z.forr2 (l - 1) (by omega) (by omega) (fun i σ' H' => ∃ x f y4 y5, σ' = [some (.ref a), some (.int (l : Int)), some (.ref b), some (.ref x), y4, y5] ∧ Kp [] H H' ∧ FrAt K H' x f ∧ Low f ∧ FrB 57 f ∧ rv f = lvR (rv c) (rv p) i) ⟨x, _, _, _, rfl, k1, ex, fplus_low hc.L.ne p2, (fplus_B hc.B hp.B hc.L.ne p2).mono (by decide), by rw [rv_fplus hc.L.ne p2]; exact (vR_one _ _).symm⟩ ?_ ?_
    · rintro i σ' H2 hi ⟨x, f, y4, y5, rfl, k2, ex, fL, fB, fv⟩
      have en : (2 : Int) + (i : Int) = ((i + 2 : Nat) : Int) := by omega
      rw [en]
      have v := valF_ok (n := i + 2) hc hp (by omega) (by omega)
      have a2 := ha.kp0 k2
      have b2 := hb.kp0 k2
      have o := over_low (n := i + 2) hc.L.ne (by omega)
      have t : Low (ftimes (nF (i + 2)) p) := lo_low (Int.mul_ne_zero (nF2 _) p2)
      have nB := nF_B (n := i + 2) (by omega)
      have elv : lvR (rv c) (rv p) (i + 1) = if vR (rv c) (rv p) (i + 2) < lvR (rv c) (rv p) i then vR (rv c) (rv p) (i + 2) else lvR (rv c) (rv p) i := rfl
      walk_at "z"
      refine Z.tupK (fun u H3 nu k3 e3 => ?_)
      walk_at "z"
      refine ⟨a, u, c, nF (i + 2), rfl, a2.kp0 k3, tupT e3, hc.L.ne, hc.B.mono (by decide), nB.mono (by decide), fun z => absurd z (by show ¬ ((i + 2 : Nat) : Int) = 0; omega), fun _ H4 y ny k4 e4 => ?_⟩
      walk_at "z"
      refine Z.tupK (fun u2 H5 nu2 k5 e5 => ?_)
      walk_at "z"
      refine ⟨u2, b, nF (i + 2), p, rfl, tupT e5, ((b2.kp0 k3).kp0 k4).kp0 k5, nF2 _, p2, nB.mono (by decide), hp.B.mono (by decide), fun H6 z nz k6 e6 => ?_⟩
      walk_at "z"
      refine ⟨y, z, _, _, rfl, (FrAt.kp0 e4 k5).kp0 k6, e6, o.ne, t.ne, (over_B hc (by omega) (by omega)).mono (by decide), (ftimes_B nB hp.B (nF2 _) p2).mono (by decide), fun H7 w nw k7 e7 => ?_⟩
      have k27 := k3.trans (k4.trans (k5.trans (k6.trans k7)))
      walk_at "z"
      refine ⟨w, x, _, f, rfl, e7, ex.kp0 k27, v.2.1.mono (by decide), fB.mono (by decide), ?_⟩
      have hfl : fless (valF c p (i + 2)) f = decide (vR (rv c) (rv p) (i + 2) < lvR (rv c) (rv p) i) := by rw [fless_iff v.1.1 fL.1, v.2.2, fv]
      have hfl2 : fless (fplus (fover c (nF (i + 2))) (ftimes (nF (i + 2)) p)) f = decide (vR (rv c) (rv p) (i + 2) < lvR (rv c) (rv p) i) := hfl
      walk_at "z"
      rw [hfl2]
      refine Z.ite (fun h2 => ?_) (fun h2 => ?_)
      · rw [if_pos h2] at elv
        walk_at "z"
        exact ⟨w, _, _, _, rfl, k2.trans k27, e7, v.1, v.2.1, by rw [elv]; exact v.2.2⟩
      · rw [if_neg h2] at elv
        walk_at "z"
        exact ⟨x, f, _, _, rfl, k2.trans k27, ex.kp0 k27, fL, fB, by rw [elv]; exact fv⟩
    · rintro σ' H2 ⟨x, f, y4, y5, rfl, k2, ex, fL, fB, fv⟩
      walk_at "z"
      exact q H2 x f k2 ex fL fB fv
def spDB (K : PySem.W.Frag) : Sp := fun vs H Q _ => ∃ (a b d : Addr) (as : List Addr) (cs : List Fr) (ls : List Nat) (m : Int) (p : Fr), vs = [.ref a, .ref b, .int m, .ref d] ∧ SqL K H a (as.map V.ref) ∧ FrsAt K H as cs ∧ SqL K H b (vN ls) ∧ CsOk cs ls ∧ ls.length ≤ 4 ∧ m.natAbs < 2 ^ 10 ∧ FrAt K H d p ∧ PB p ∧ ∀ H' x f, Kp [] H H' → FrAt K H' x f → Low f → FrB 300 f → rv f = lvS (rv p) (cs.map rv) ls - (m : Rat) * rv p → Q (.ref x) H'
theorem lvS_take {t : Rat} : ∀ {cs : List Rat} {ls : List Nat} {i : Nat} {c : Rat} {l : Nat}, cs[i]? = some c → ls[i]? = some l → lvS t (cs.take (i + 1)) (ls.take (i + 1)) = lvS t (cs.take i) (ls.take i) + lvR c t (l - 1)
  | [], _, i, c, l, h, _ => by simp at h
  | _ :: _, [], i, c, l, _, h => by simp at h
  | x :: cs, y :: ls, 0, c, l, h1, h2 => by
    obtain rfl := Option.some.inj h1
    obtain rfl := Option.some.inj h2
    show lvR x t (y - 1) + 0 = 0 + lvR x t (y - 1)
    grind
  | x :: cs, y :: ls, i + 1, c, l, h1, h2 => by
    have ih := lvS_take (t := t) (cs := cs) (ls := ls) (i := i) (c := c) (l := l) h1 h2
    show lvR x t (y - 1) + lvS t (cs.take (i + 1)) (ls.take (i + 1)) = lvR x t (y - 1) + lvS t (cs.take i) (ls.take i) + _
    rw [ih]
    grind
theorem rv_int1 (m : Int) : rv (m, 1) = (m : Rat) := rv_int m
theorem ok_deal_bound {P : Program} {w : World} {K : PySem.W.Frag} {mg : Str → Option Value} {base : Heap} (T : T P K mg) : FnOk P w K mg base CX0 6 T.a_deal_bound T.fd_deal_bound ["costs", "limits", "places", "price"] (spDB K) := by
  refine T.F_deal_bound.ok sc_deal_bound (fun vs H Q E h => ?_) (fun cdv A outer s H vs Q E hr h => ?_)
  · obtain ⟨a, b, d, as, cs, ls, m, p, rfl, _⟩ := h
    rfl
  · obtain ⟨a, b, d, as, cs, ls, m, p, rfl, hS, hF, hT, hC, h4, hm, hd, hp, q⟩ := h
    have p2 : p.2 ≠ 0 := by have := hp.q; omega
    have hFl := hF.len
    have hcl := hC.len
    refine ⟨_, (pss_cons (ps_setLc (i := 4) (own := [("cost", 5), ("limit", 6)]) (g := gTup K 2 (gCons (gName 5) (gCons (gName 6) gNil))) rfl sc_deal_bound.nd rfl rfl (sw_true rfl rfl rfl (by decide +kernel)) (pi_zip (by rfl) T.z_zip (pa_cons (pv 0) (pa_cons (pv 1) pa_nil))) (blkOk_by (own := [("cost", 5), ("limit", 6)]) (N := N_deal_bound) (sc := defScope s_deal_bound) (by decide +kernel)) (fun _ _ _ _ _ => (pg_tup rfl (pgs_cons (pg_name (i := 5) sc_deal_bound.nd rfl (by first | exact Or.inl rfl | exact Or.inr rfl)) (pgs_cons (pg_name (i := 6) sc_deal_bound.nd rfl (by first | exact Or.inl rfl | exact Or.inr rfl)) pgs_nil)))) (fun _ _ _ _ _ => pts_nil) (fun _ _ _ _ _ => (pe_call (ok_least_value T) (hr.mono (by decide)) (by rfl) T.g_least_value T.F_least_value.kp T.b_least_value .nil pass0 (pa_cons (pv 5) (pa_cons (pv 6) (pa_cons (pv 3) pa_nil))))))
      (pss_one (ps_ret (pe_call (ok_minus T) (hr.mono (by decide)) (by rfl) T.g_minus T.F_minus.kp T.b_minus .nil pass0 (pa_cons (pe_call (ok_sum_of T) (hr.mono (by decide)) (by rfl) T.g_sum_of T.F_sum_of.kp T.b_sum_of .nil pass0 (pa_cons (pv 4) pa_nil)) (pa_cons (pe_call (ok_times T) (hr.mono (by decide)) (by rfl) T.g_times T.F_times.kp T.b_times .nil pass0 (pa_cons (pe_tup (pa_cons (pv 2) (pa_cons pe_int pa_nil))) (pa_cons (pv 3) pa_nil))) pa_nil)))))), ?_⟩
    walk_at "z0"
    walk_at "z"
    refine Z.lcz (as.map V.ref) (vN ls) (by rw [List.length_map, vN_len]; omega) hS hT (fun D i H' => ∃ (ds : List Addr) (fs : List Fr), Kp [] H H' ∧ H' D = some (.lst (ds.map V.ref)) ∧ FrsAt K H' ds fs ∧ fs.length = i ∧ (∀ f ∈ fs, FrB 57 f ∧ f.2 ≠ 0) ∧ (fs.map rv).sum = lvS (rv p) ((cs.map rv).take i) (ls.take i)) ?_ ?_ ?_ ?_
    · intro D H1 nD k1 e1
      exact ⟨[], [], k1, e1, .nil, rfl, fun f hf => (by cases hf), rfl⟩
    · rintro D i H1 nD ⟨ds, fs, k1, e1, F1, _⟩
      exact ⟨k1.seq nin0 hS, k1.seq nin0 hT⟩
    · rintro D i v1 v2 H1 H2 t nD hv1 hv2 ⟨ds, fs, k1, e1, F1, hl1, hB1, hs1⟩ nt k2 e2
      obtain ⟨x, c, rfl, hc, hx⟩ := (hF.kp0 (k1.trans k2)).get hv1
      obtain ⟨l, hl, rfl⟩ := vN_at hv2
      have hcC := hC.c c (List.mem_of_getElem? hc)
      have hlC := hC.l l (List.mem_of_getElem? hl)
      have hi : i < ls.length := (List.getElem?_eq_some_iff.mp hl).1
      dsimp only [wipe, List.set]
      refine Z.gtup (tupT e2) rfl ?_
      walk_at "z"
      refine ⟨rfl, ?_⟩
      walk_at "z"
      refine ⟨x, d, c, p, l, rfl, hx, hcC, hd.kp0 (k1.trans k2), hp, hlC.1, hlC.2, fun H3 y f k3 e3 fL fB fv => ?_⟩
      have k13 := k2.trans k3
      have e3D := k13.get nin0 e1
      refine ⟨_, e3D, Z.szl (m := 1000) (by rw [List.length_map, F1.len]; omega), ds ++ [y], fs ++ [f], (k1.trans k13).mut nD rfl, by rw [upd_same, List.map_append]; rfl, ((F1.kp0 k13).snoc e3).kpl (Kp.put (by simp)) e3D, by rw [List.length_append]; simp; omega, fun g hg => ?_, ?_⟩
      · rcases List.mem_append.mp hg with hg | hg
        · exact hB1 g hg
        · rw [List.mem_singleton.mp hg]; exact ⟨fB, fL.ne⟩
      · rw [List.map_append, List.sum_append, lvS_take (c := rv c) (l := l) (by rw [List.getElem?_map, hc]; rfl) hl, hs1]
        show _ + (rv f + 0) = _
        rw [fv]
        grind
    · rintro D H1 nD ⟨ds, fs, k1, e1, F1, hl1, hB1, hs1⟩
      rw [List.length_map] at hl1 hs1
      have t1 : (cs.map rv).take as.length = cs.map rv := List.take_of_length_le (by rw [List.length_map]; omega)
      have t2 : ls.take as.length = ls := List.take_of_length_le (by omega)
      rw [t1, t2] at hs1
      walk_at "z"
      refine ⟨D, ds, fs, rfl, lstL e1, F1, fun f hf => ⟨(hB1 f hf).1.mono (by decide), (hB1 f hf).2⟩, by omega, fun H2 c k2 e2 => ?_⟩
      have hB2 := fsum_B (fs := fs) (t := (0, 1)) (n := 1) (m := 57) ⟨by decide, by decide⟩ (by decide) hB1
      have hB3 : FrB 233 (fsum (0, 1) fs) := hB2.1.mono (by
        have := Nat.mul_le_mul_right (57 + 1) (show fs.length ≤ 4 by omega)
        omega)
      have hs9 := rv_fsum (fs := fs) low_zero fun f hf => (hB1 f hf).2
      walk_at "z"
      refine Z.tupK (fun u H3 nu k3 e3 => ?_)
      walk_at "z"
      have m2 : ((m, 1) : Fr).2 ≠ 0 := show ((1 : Int)) ≠ 0 by decide
      have mB : FrB 10 (m, 1) := ⟨hm, show (1 : Nat) < 2 ^ 10 by decide⟩
      have k03 := (k1.trans k2).trans k3
      refine ⟨u, d, (m, 1), p, rfl, tupT e3, hd.kp0 k03, m2, p2, mB.mono (by decide), hp.B.mono (by decide), fun H4 y ny k4 e4 => ?_⟩
      have tL : Low (ftimes (m, 1) p) := lo_low (Int.mul_ne_zero m2 p2)
      have tB := ftimes_B mB hp.B m2 p2
      refine ⟨c, y, _, _, rfl, (FrAt.kp0 e2 k3).kp0 k4, e4, hs9.2.ne, tL.ne, hB3.mono (by decide), tB.mono (by decide), fun H5 z nz k5 e5 => ?_⟩
      refine q H5 z _ ((k03.trans k4).trans k5) e5 (lo_low (Int.mul_ne_zero hs9.2.ne tL.ne)) ((fminus_B hB3 tB hs9.2.ne tL.ne).mono (by decide)) ?_
      rw [rv_fminus hs9.2.ne tL.ne, hs9.1, rv_zero, hs1, rv_ftimes m2 p2, rv_int1]
      grind

/-! ### the law's own deals -/
theorem over_lo (c : Fr) (n : Nat) : fover c (nF n) = lo c.1 (c.2 * (n : Int)) := by
  unfold fover nF
  show lo (c.1 * 1) _ = _
  rw [Int.mul_one]
theorem ok__law_variance {P : Program} {w : World} {K : PySem.W.Frag} {mg : Str → Option Value} {base : Heap} (T : T P K mg) : FnOk P w K mg base CX0 3 T.a__law_variance T.fd__law_variance ["costs", "numbers"] (spVar K) := by
  refine T.F__law_variance.ok sc__law_variance (fun vs H Q E h => ?_) (fun cdv A outer s H vs Q E hr h => ?_)
  · obtain ⟨a, b, as, cs, ns, rfl, _⟩ := h
    rfl
  · obtain ⟨a, b, as, cs, ns, rfl, hS, hF, hT, hl, h4, hC, hN, q⟩ := h
    have hFl := hF.len
    refine ⟨_, (pss_cons (ps_set (i := 2) sc__law_variance.nd rfl (by first | exact Or.inl rfl | exact Or.inr rfl) (pe_tup (pa_cons pe_int (pa_cons pe_int pa_nil))))
      (pss_cons (ps_for PassesOwn.never rfl (pi_range1 (by rfl) T.z_range (pa_cons (pe_callB c_len (by rfl) T.z_len (by decide +kernel) (pa_cons (pv 0) pa_nil)) pa_nil)) (pg_name (i := 3) sc__law_variance.nd rfl (by first | exact Or.inl rfl | exact Or.inr rfl)) (pss_one (ps_set (i := 2) sc__law_variance.nd rfl (by first | exact Or.inl rfl | exact Or.inr rfl) (pe_call (ok__law_plus T) (hr.mono (by decide)) (by rfl) T.g__law_plus T.F__law_plus.kp T.b__law_plus .nil pass0 (pa_cons (pv 2) (pa_cons (pe_call (ok__law_low T) (hr.mono (by decide)) (by rfl) T.g__law_low T.F__law_low.kp T.b__law_low .nil pass0 (pa_cons (pe_ix ix_tup (pe_ix ix_list (pv 0) (pv 3) (fun _ _ => rfl)) pe_int (fun _ _ => rfl)) (pa_cons (pe_op op_mulW (pe_ix ix_tup (pe_ix ix_list (pv 0) (pv 3) (fun _ _ => rfl)) pe_int (fun _ _ => rfl)) (pe_ix ix_list (pv 1) (pv 3) (fun _ _ => rfl))) pa_nil))) pa_nil))))))
      (pss_one (ps_ret (pv 2))))), ?_⟩
    walk_at "z0"
    walk_at "z"
    refine Z.tupK (fun u H1 nu k1 e1 => ?_)
    walk_at "z"
    refine Z.lenL (k1.seq nin0 hS) ?_
    rw [List.length_map]
    refine Z.forr as.length rfl (by omega) (fun i σ' H' => ∃ x y3, σ' = [some (.ref a), some (.ref b), some (.ref x), y3] ∧ Kp [] H H' ∧ FrAt K H' x (fsum (0, 1) ((vterms cs ns).take i))) ⟨u, _, rfl, k1, tupT e1⟩ ?_ ?_
    · rintro i σ' H2 hi ⟨x, y3, rfl, k2, ex⟩
      have hc : cs[i]? = some (cs[i]'(by omega)) := List.getElem?_eq_getElem (by omega)
      have hn : ns[i]? = some (ns[i]'(by omega)) := List.getElem?_eq_getElem (by omega)
      revert hc hn
      generalize cs[i]'(by omega) = c
      generalize ns[i]'(by omega) = n
      intro hc hn
      have hcC := hC c (List.mem_of_getElem? hc)
      have hnN := hN n (List.mem_of_getElem? hn)
      obtain ⟨z, ez, hz⟩ := (hF.kp0 k2).at (i := i) (by omega)
      rw [frD_of hc] at hz
      have hB := vterms_B hC hN
      have ht : ∀ f ∈ (vterms cs ns).take i, FrB 16 f ∧ f.2 ≠ 0 := fun f hf => ⟨(hB f (List.mem_of_mem_take hf)).1, (hB f (List.mem_of_mem_take hf)).2.ne⟩
      have hB1 := fsum_B (fs := (vterms cs ns).take i) (t := (0, 1)) (n := 1) (m := 16) ⟨by decide, by decide⟩ (by decide) ht
      have hlow := rv_fsum (fs := (vterms cs ns).take i) low_zero fun f hf => (ht f hf).2
      have hle : 1 + ((vterms cs ns).take i).length * (16 + 1) + 16 ≤ 1900 := by
        have : ((vterms cs ns).take i).length ≤ 4 := by rw [List.length_take, vterms_len hl]; omega
        omega
      have hv := vterm_at hc hn
      have hvB := hB _ (List.mem_of_getElem? hv)
      have hcp := hcC.L.1
      walk_at "z"
      refine Z.ixL (k2.seq nin0 hS) (atI_nat ez) ?_
      walk_at "z"
      refine Z.ixT hz (fr0 _) ?_
      walk_at "z"
      refine Z.ixL (k2.seq nin0 hS) (atI_nat ez) ?_
      walk_at "z"
      refine Z.ixT hz (fr1 _) ?_
      walk_at "z"
      refine Z.ixL (k2.seq nin0 hT) (atI_nat (vN_get hn)) ?_
      refine Z.iC (mul_ok (n := 10) (up_B hcC.B.2 (by decide)) (nF_B hnN.2).1) ?_
      walk_at "z"
      have hq := mul_B (n := 6) (m := 10) hcC.B.2 (nF_B hnN.2).1
      refine ⟨_, c.2 * (n : Int), rfl, by have := Int.mul_pos (show 0 < c.2 by omega) (show 0 < (n : Int) by omega); omega, up_B hq (by decide), fun H3 y ny k3 e3 => ?_⟩
      rw [← over_lo] at e3
      refine ⟨x, y, _, _, rfl, ex.kp0 k3, e3, hlow.2.1, hvB.2.1, ⟨_, _, hB1.1, hvB.1, hle⟩, fun H4 w nw k4 e4 => ?_⟩
      walk_at "z"
      exact ⟨w, _, rfl, k2.trans (k3.trans k4), by rw [fsum_take hv]; exact e4⟩
    · rintro σ' H2 ⟨x, y3, rfl, k2, ex⟩
      rw [show as.length = (vterms cs ns).length by rw [vterms_len hl]; omega, List.take_length] at ex
      walk_at "z"
      exact q H2 x k2 ex
theorem fall_lo {c : Fr} {n : Nat} (hc : CB c) (h1 : 1 ≤ n) (h2 : n < 2 ^ 10) : lo c.1 (c.2 * (n : Int) * ((n : Int) + 1)) = fallF c n := by
  have hp := Int.mul_pos (Int.mul_pos (show 0 < c.2 by have := hc.L.1; omega) (show 0 < (n : Int) by omega)) (show 0 < (n : Int) + 1 by omega)
  have f := fallF_ok hc h1 h2
  refine low_eq (lo_low (by omega)) f.1 ?_
  rw [rv_lo (by omega), f.2.2]
  unfold fallR rv
  have e : ((c.2 * (n : Int) * ((n : Int) + 1) : Int) : Rat) = (c.2 : Rat) * ((n : Int) : Rat) * (((n : Int) : Rat) + 1) := by exact_mod_cast rfl
  have e3 : ((n : Int) : Rat) = (n : Rat) := by exact_mod_cast rfl
  rw [e, e3]
  have := ratNe hc.L.ne
  have := natR_pos (show 0 < n by omega)
  have : (n : Rat) ≠ 0 := by grind
  have : (n : Rat) + 1 ≠ 0 := by grind
  grind
theorem ok__law_fall {P : Program} {w : World} {K : PySem.W.Frag} {mg : Str → Option Value} {base : Heap} (T : T P K mg) : FnOk P w K mg base CX0 2 T.a__law_fall T.fd__law_fall ["cost", "number"] (spFall K) := by
  refine T.F__law_fall.ok sc__law_fall (fun vs H Q E h => ?_) (fun cdv A outer s H vs Q E hr h => ?_)
  · obtain ⟨a, c, n, rfl, _⟩ := h
    rfl
  · obtain ⟨a, c, n, rfl, ha, hc, h1, h2, q⟩ := h
    refine ⟨_, (pss_one (ps_ret (pe_call (ok__law_low T) (hr.mono (by decide)) (by rfl) T.g__law_low T.F__law_low.kp T.b__law_low .nil pass0 (pa_cons (pe_ix ix_tup (pv 0) pe_int (fun _ _ => rfl)) (pa_cons (pe_op op_mulW (pe_op op_mulW (pe_ix ix_tup (pv 0) pe_int (fun _ _ => rfl)) (pv 1)) (pe_op op_add (pv 1) pe_int)) pa_nil))))), ?_⟩
    have b1 := mul_B (n := 6) (m := 10) hc.B.2 (nF_B h2).1
    have b2 := mul_B (n := 16) (m := 11) b1 (show ((n : Int) + 1).natAbs < 2 ^ 11 by omega)
    have hp := Int.mul_pos (Int.mul_pos (show 0 < c.2 by have := hc.L.1; omega) (show 0 < (n : Int) by omega)) (show 0 < (n : Int) + 1 by omega)
    walk_at "z0"
    walk_at "z"
    refine Z.ixT ha (fr0 _) ?_
    walk_at "z"
    refine Z.ixT ha (fr1 _) ?_
    walk_at "z"
    refine Z.iC (mul_ok (n := 10) (up_B hc.B.2 (by decide)) (nF_B h2).1) ?_
    walk_at "z"
    refine Z.iC (mul_ok (n := 16) b1 (show ((n : Int) + 1).natAbs < 2 ^ 16 by omega)) ?_
    walk_at "z"
    refine ⟨_, _, rfl, by show (1 : Int) ≤ c.2 * (n : Int) * ((n : Int) + 1); omega, up_B b2 (by decide), fun H1 b nb k1 e1 => ?_⟩
    exact q H1 b nb k1 (by rw [← fall_lo hc h1 h2]; exact e1)
def spTold (K : PySem.W.Frag) : Sp := fun vs H Q _ => ∃ (a b : Addr) (as : List Addr) (cs : List Fr) (ls : List Nat) (m : Int), vs = [.ref a, .ref b, .int m] ∧ SqL K H a (as.map V.ref) ∧ FrsAt K H as cs ∧ SqL K H b (vN ls) ∧ CsOk cs ls ∧ ls.length ≤ 100 ∧
  (¬ ((ls.length : Int) ≤ m ∧ m ≤ ((ls.sum : Nat) : Int)) → Q (.str "none") H) ∧ (∀ r : Nat, m = (ls.length : Int) + (r : Int) → ls.length + r ≤ ls.sum → ∀ H' t N p, H t = none → Kp [] H H' → Told K H' t (dealAt cs ls r).1 (dealAt cs ls r).2 N p → Q (.ref t) H')
theorem ok__law_told {P : Program} {w : World} {K : PySem.W.Frag} {mg : Str → Option Value} {base : Heap} (T : T P K mg) : FnOk P w K mg base CX0 7 T.a__law_told T.fd__law_told ["costs", "limits", "places"] (spTold K) := by
  refine T.F__law_told.ok sc__law_told (fun vs H Q E h => ?_) (fun cdv A outer s H vs Q E hr h => ?_)
  · obtain ⟨a, b, as, cs, ls, m, rfl, _⟩ := h
    rfl
  · obtain ⟨a, b, as, cs, ls, m, rfl, hS, hF, hT, hC, hl, q0, q1⟩ := h
    refine ⟨_, (pss_one (ps_try_many rfl rfl takes0 (fun W pn xe tk po => (pss_one (ps_ret (pe_callS (ok_deal T) (hr.mono (by decide)) (by rfl) T.g_deal T.F_deal.kp T.b_deal (fun σ => passAt tk σ) (pa_cons (pv 0) (pa_cons (pv 1) (pa_cons (pv 2) pa_nil))))))) (.cons ⟨by rfl, by decide, .inl T.x_NoDeal.g⟩ (fun a oe cls d pn hz hf => (pss_one (ps_ret pe_str))) (.cons ⟨by rfl, by decide, .inl T.mg_SamphireError⟩ (fun a oe cls d pn hz hf => (pss_one (ps_ret pe_str))) .nil)))), ?_⟩
    walk_at "z0"
    walk_at "z"
    refine ⟨_, rfl, _, rfl, _, rfl, a, b, as, cs, ls, m, rfl, hS, hF, hT, hC, hl, fun z => ⟨true, T.x_NoDeal.te, fun _ x nx => ?_, fun z => nomatch z⟩, fun r hr hs H' t N p nt k e => q1 r hr hs H' t N p nt k e⟩
    walk_at "z"
    exact q0 z
def spGreedy (K : PySem.W.Frag) : Sp := fun vs H Q _ => ∃ (a b : Addr) (as : List Addr) (cs : List Fr) (ls : List Nat) (r : Nat), vs = [.ref a, .ref b, .int ((ls.length : Int) + (r : Int))] ∧ SqL K H a (as.map V.ref) ∧ FrsAt K H as cs ∧ SqL K H b (vN ls) ∧ CsOk cs ls ∧ ls.length ≤ 100 ∧ ls.length + r ≤ ls.sum ∧
  ∀ H' t N p, Kp [] H H' → Told K H' t (dealAt cs ls r).1 (dealAt cs ls r).2 N p → Q (.ref t) H'
/-- what the law has chosen -/
def ChAt (K : PySem.W.Frag) (H : Hp) (v : V) (fs : List Fr) (o : Option Nat) : Prop :=
  match o with
  | none => v = .non
  | some j => ∃ c y, v = .ref c ∧ H c = some (.tup [.int (j : Int), .ref y]) ∧ FrAt K H y (fs.getD j (0, 1))
theorem ChAt.kp0 {K : PySem.W.Frag} {H H' : Hp} {v : V} {fs : List Fr} {o : Option Nat} (h : ChAt K H v fs o) (k : Kp [] H H') : ChAt K H' v fs o := by
  cases o with
  | none => exact h
  | some j =>
    obtain ⟨c, y, e, e1, e2⟩ := h
    exact ⟨c, y, e, k.get nin0 e1, e2.kp0 k⟩
theorem ok__law_greedy {P : Program} {w : World} {K : PySem.W.Frag} {mg : Str → Option Value} {base : Heap} (T : T P K mg) : FnOk P w K mg base CX0 3 T.a__law_greedy T.fd__law_greedy ["costs", "limits", "places"] (spGreedy K) := by
  refine T.F__law_greedy.ok sc__law_greedy (fun vs H Q E h => ?_) (fun cdv A outer s H vs Q E hr h => ?_)
  · obtain ⟨a, b, as, cs, ls, r, rfl, _⟩ := h
    rfl
  · obtain ⟨a, b, as, cs, ls, r, rfl, hS, hF, hT, hC, hl, hrs, q⟩ := h
    have hFl := hF.len
    have hcl := hC.len
    have hs9 := sum_le9 fun l hl => (hC.l l hl).2
    refine ⟨_, (pss_cons (ps_setLc (i := 3) (own := [("limit", 9)]) (g := gName 9) rfl sc__law_greedy.nd rfl rfl (sw_true rfl rfl rfl (by decide +kernel)) (pi_list (pv 1)) (blkOk_by (own := [("limit", 9)]) (N := N__law_greedy) (sc := defScope s__law_greedy) (by decide +kernel)) (fun _ _ _ _ _ => (pg_name (i := 9) sc__law_greedy.nd rfl (by first | exact Or.inl rfl | exact Or.inr rfl))) (fun _ _ _ _ _ => pts_nil) (fun _ _ _ _ _ => pe_int))
      (pss_cons (ps_set (i := 4) sc__law_greedy.nd rfl (by first | exact Or.inl rfl | exact Or.inr rfl) (pe_tup (pa_cons pe_int (pa_cons pe_int pa_nil))))
      (pss_cons (ps_for PassesOwn.never rfl (pi_range1 (by rfl) T.z_range (pa_cons (pe_callB (call_max2 rfl) (by rfl) T.z_max (by decide +kernel) (pa_cons pe_int (pa_cons (pe_op op_sub (pv 2) (pe_callB c_len (by rfl) T.z_len (by decide +kernel) (pa_cons (pv 1) pa_nil))) pa_nil))) pa_nil)) (pg_name (i := 5) sc__law_greedy.nd rfl (by first | exact Or.inl rfl | exact Or.inr rfl)) (pss_cons (ps_set (i := 6) sc__law_greedy.nd rfl (by first | exact Or.inl rfl | exact Or.inr rfl) pe_non)
      (pss_cons (ps_for PassesOwn.never rfl (pi_range1 (by rfl) T.z_range (pa_cons (pe_callB c_len (by rfl) T.z_len (by decide +kernel) (pa_cons (pv 1) pa_nil)) pa_nil)) (pg_name (i := 7) sc__law_greedy.nd rfl (by first | exact Or.inl rfl | exact Or.inr rfl)) (pss_one (ps_if (pt_cmpR op_lt (pe_ix ix_list (pv 3) (pv 7) (fun _ _ => rfl)) (pe_ix ix_list (pv 1) (pv 7) (fun _ _ => rfl)) (nomark _)) (pss_cons (ps_set (i := 8) sc__law_greedy.nd rfl (by first | exact Or.inl rfl | exact Or.inr rfl) (pe_call (ok__law_fall T) (hr.mono (by decide)) (by rfl) T.g__law_fall T.F__law_fall.kp T.b__law_fall .nil pass0 (pa_cons (pe_ix ix_list (pv 0) (pv 7) (fun _ _ => rfl)) (pa_cons (pe_ix ix_list (pv 3) (pv 7) (fun _ _ => rfl)) pa_nil))))
      (pss_one (ps_if (PW.pt (pw_or (pt_cmpR o_isN (pv 6) pe_non (nomark _)) (pw_or1 (pt_val (pe_call (ok__law_less T) (hr.mono (by decide)) (by rfl) T.g__law_less T.F__law_less.kp T.b__law_less .nil pass0 (pa_cons (pe_ix ix_tup (pv 6) pe_int (fun _ _ => rfl)) (pa_cons (pv 8) pa_nil))))))) (pss_one (ps_set (i := 6) sc__law_greedy.nd rfl (by first | exact Or.inl rfl | exact Or.inr rfl) (pe_tup (pa_cons (pv 7) (pa_cons (pv 8) pa_nil))))) pss_nil))) pss_nil)))
      (pss_one (ps_if (pt_cmpR o_notN (pv 6) pe_non (nomark _)) (pss_cons (ps_set (i := 4) sc__law_greedy.nd rfl (by first | exact Or.inl rfl | exact Or.inr rfl) (pe_ix ix_tup (pv 6) pe_int (fun _ _ => rfl)))
      (pss_one (ps_if (pt_cmpR op_gt (pv 2) (pe_callB c_len (by rfl) T.z_len (by decide +kernel) (pa_cons (pv 1) pa_nil)) (nomark _)) (pss_one (ps_asg (pe_op op_add (pe_ix ix_list (pv 3) (pe_ix ix_tup (pv 6) pe_int (fun _ _ => rfl)) (fun _ _ => rfl)) pe_int) (pg_sub (pv 3) (pe_ix ix_tup (pv 6) pe_int (fun _ _ => rfl)) set_list))) pss_nil))) pss_nil)))))
      (pss_one (ps_ret (pe_tup (pa_cons (pv 3) (pa_cons (pv 4) pa_nil)))))))), ?_⟩
    walk_at "z0"
    walk_at "z"
    refine Z.lcl (vN ls) hT (fun D i H' => Kp [] H H' ∧ H' D = some (.lst (vN (ones (ls.take i))))) ?_ ?_ ?_ ?_
    · intro D H1 nD k1 e1
      exact ⟨k1, e1⟩
    · rintro D i H1 nD hi ⟨k1, e1⟩
      exact k1.seq nin0 hT
    · rintro D i v H1 nD hv ⟨k1, e1⟩
      obtain ⟨l, hl', rfl⟩ := vN_at hv
      have hi : i < ls.length := (List.getElem?_eq_some_iff.mp hl').1
      dsimp only [wipe, List.set]
      walk_at "z"
      refine ⟨rfl, ?_⟩
      walk_at "z"
      refine ⟨_, e1, Z.szl (m := 1000) (by rw [vN_len, ones_len, List.length_take]; omega), k1.mut nD rfl, ?_⟩
      rw [upd_same, List.take_add_one, hl']
      unfold ones
      rw [List.map_append, vN_app]
      rfl
    · rintro N H1 nN ⟨k1, e1⟩
      rw [vN_len, List.take_length] at e1
      walk_at "z"
      refine Z.tupK (fun u H2 nu k2 e2 => ?_)
      walk_at "z"
      have k02 := k1.trans k2
      refine Z.lenL (k02.seq nin0 hT) ?_
      rw [vN_len]
      walk_at "z"
      refine ⟨_, _, rfl, ?_⟩
      refine Z.forr (max 1 r) (by have : (ls.length : Int) + (r : Int) - (ls.length : Int) = (r : Int) := by omega
                                  split <;> omega) (by omega) (fun i σ' H' => ∃ (p : Addr) (y5 y6 y7 y8 y9 : Option V), σ' = [some (.ref a), some (.ref b), some (.int ((ls.length : Int) + (r : Int))), some (.ref N), some (.ref p), y5, y6, y7, y8, y9] ∧ Kp [] H H' ∧ H' N = some (.lst (vN (dealAt cs ls (min i r)).1)) ∧ FrAt K H' p (if i = 0 then (0, 1) else (dealAt cs ls (min i r)).2)) ⟨u, _, _, _, _, _, rfl, k02, k2.get nin0 e1, tupT e2⟩ ?_ ?_
      · rintro i σ' H3 hi ⟨p, y5, y6, y7, y8, y9, rfl, k3, e3N, ep⟩
        walk_at "z"
        have hir : ls.length + min i r ≤ ls.sum := by omega
        have dk := dealAt_ok hC hir
        generalize hns : (dealAt cs ls (min i r)).1 = ns at dk e3N
        have hnl := dk.I.len
        refine Z.lenL (k3.seq nin0 hT) ?_
        rw [vN_len]
        refine Z.forr ls.length rfl (by omega) (fun k σ' H' => ∃ (v : V) (y7 y8 : Option V), σ' = [some (.ref a), some (.ref b), some (.int ((ls.length : Int) + (r : Int))), some (.ref N), some (.ref p), some (.int (i : Int)), some v, y7, y8, y9] ∧ Kp [] H3 H' ∧ ChAt K H' v (fsOf cs ns) (stTo (fsOf cs ns) ls ns k)) ⟨_, _, _, rfl, Kp.refl _, rfl⟩ ?_ ?_
        · rintro k σ' H4 hk ⟨v, y7, y8, rfl, k4, hv⟩
          have e4N := k4.get nin0 e3N
          have k34 := k3.trans k4
          obtain ⟨cx, ecx, hcx⟩ := (hF.kp0 k34).at (i := k) (by omega)
          have hnb := dk.I.bnd hC k (by omega)
          have hcb := hC.at (i := k) (by omega)
          have hfk := fsOf_all hC dk.I k (by omega)
          have efD := fsOf_D (cs := cs) (ns := ns) (i := k) (by omega) (by omega)
          have hst : stTo (fsOf cs ns) ls ns (k + 1) = if ns.getD k 0 < ls.getD k 0 ∧ bet (fsOf cs ns) (stTo (fsOf cs ns) ls ns k) k = true then some k else stTo (fsOf cs ns) ls ns k := rfl
          have hlt := fun j => stTo_lt (fs := fsOf cs ns) (ls := ls) (ns := ns) (i := k) (j := j)
          walk_at "z"
          refine Z.ixL (lstL e4N) (atI_nat (vN_D (by omega))) ?_
          walk_at "z"
          refine Z.ixL (k34.seq nin0 hT) (atI_nat (vN_D (by omega))) ?_
          walk_at "z"
          refine Z.ite (fun h1 => ?_) (fun h1 => ?_)
          · walk_at "z"
            refine Z.ixL (k34.seq nin0 hS) (atI_nat ecx) ?_
            walk_at "z"
            refine Z.ixL (lstL e4N) (atI_nat (vN_D (by omega))) ?_
            walk_at "z"
            refine ⟨cx, _, ns.getD k 0, rfl, hcx, hcb, hnb.1, by omega, fun H5 y ny k5 e5 => ?_⟩
            rw [← efD] at e5
            have hv5 := hv.kp0 k5
            have k45 := k4.trans k5
            have new : ∀ (H6 : Hp) (t : Addr), Kp [] H5 H6 → H6 t = some (.tup [.int (k : Int), .ref y]) → stTo (fsOf cs ns) ls ns (k + 1) = some k → ChAt K H6 (.ref t) (fsOf cs ns) (stTo (fsOf cs ns) ls ns (k + 1)) := fun H6 t k6 e6 z => by
              rw [z]
              exact ⟨t, y, rfl, e6, FrAt.kp0 e5 k6⟩
            walk_at "z"
            generalize stTo (fsOf cs ns) ls ns k = o at hst hlt hv hv5
            cases o with
            | none =>
              obtain rfl : v = .non := hv5
              refine Z.yes (by rfl) ?_
              walk_at "z"
              refine Z.tupK (fun t H6 nt k6 e6 => ?_)
              exact ⟨_, _, _, rfl, k45.trans k6, new H6 t k6 e6 (by rw [hst, if_pos ⟨by omega, rfl⟩])⟩
            | some j =>
              obtain ⟨ch, y', rfl, e5c, e5y⟩ := hv5
              have hjk := hlt j rfl
              have hfj := fsOf_all hC dk.I j (by omega)
              refine Z.no (by simp) ?_
              walk_at "z"
              refine Z.ixT (tupT e5c) rfl ?_
              walk_at "z"
              refine ⟨y', y, _, _, rfl, e5y, e5, hfj.2.1.mono (by decide), hfk.2.1.mono (by decide), ?_⟩
              have hbe : bet (fsOf cs ns) (some j) k = fless ((fsOf cs ns).getD j (0, 1)) ((fsOf cs ns).getD k (0, 1)) := rfl
              cases hfl2 : fless ((fsOf cs ns).getD j (0, 1)) ((fsOf cs ns).getD k (0, 1)) with
              | true =>
                walk_at "z"
                refine Z.tupK (fun t H6 nt k6 e6 => ?_)
                exact ⟨_, _, _, rfl, k45.trans k6, new H6 t k6 e6 (by rw [hst, if_pos ⟨by omega, by rw [hbe, hfl2]⟩])⟩
              | false =>
                walk_at "z"
                refine ⟨_, _, _, rfl, k45, ?_⟩
                rw [hst, if_neg (fun z => by have := z.2; rw [hbe, hfl2] at this; cases this)]
                exact ⟨ch, y', rfl, e5c, e5y⟩
          · rw [if_neg (fun z => h1 (by have := z.1; omega))] at hst
            walk_at "z"
            exact ⟨_, _, _, rfl, k4, by rw [hst]; exact hv⟩
        · rintro σ' H4 ⟨v, y7, y8, rfl, k4, hv⟩
          have e4N := k4.get nin0 e3N
          have k34 := k3.trans k4
          rw [show ls.length = ns.length by omega] at hv
          have hso : stOf cs ls ns = stTo (fsOf cs ns) ls ns ns.length := rfl
          rw [← hso] at hv
          have hmin : min i r = i ∨ r = 0 := by omega
          walk_at "z"
          cases e : stOf cs ls ns with
          | none =>
            rw [e] at hv
            obtain rfl : v = .non := hv
            refine Z.noNB ?_
            walk_at "z"
            rcases hmin with hm | hm
            · by_cases hr0 : r = 0
              · have hi0 : i = 0 := by omega
                subst hi0
                refine ⟨p, _, _, _, _, _, rfl, k34, by rw [show min (0 + 1) r = min 0 r by omega, hns]; exact e4N, ?_⟩
                rw [if_neg (by omega), show min (0 + 1) r = 0 by omega]
                rw [show min 0 r = 0 by omega] at hns
                have h0 : (dealAt cs ls 0).2 = pickF (fsOf cs (ones ls)) (stOf cs ls (ones ls)) (0, 1) := rfl
                have h1 : (dealAt cs ls 0).1 = ones ls := rfl
                rw [h1] at hns
                rw [h0, hns, e]
                exact ep.kp0 k4
              · obtain ⟨j, hj⟩ := stOf_some hC dk (by omega)
                rw [e] at hj
                cases hj
            · have hi0 : i = 0 := by omega
              subst hi0
              refine ⟨p, _, _, _, _, _, rfl, k34, by rw [show min (0 + 1) r = min 0 r by omega, hns]; exact e4N, ?_⟩
              rw [if_neg (by omega), show min (0 + 1) r = 0 by omega]
              rw [show min 0 r = 0 by omega] at hns
              have h0 : (dealAt cs ls 0).2 = pickF (fsOf cs (ones ls)) (stOf cs ls (ones ls)) (0, 1) := rfl
              have h1 : (dealAt cs ls 0).1 = ones ls := rfl
              rw [h1] at hns
              rw [h0, hns, e]
              exact ep.kp0 k4
          | some j =>
            rw [e] at hv
            obtain ⟨ch, y, rfl, e4c, e4y⟩ := hv
            have hst := stp_ok hC dk e
            obtain ⟨hjl, dk2⟩ := hst
            have e9 : (!decide (V.ref ch = V.non)) = true := by simp
            rw [if_pos e9]
            walk_at "z"
            refine Z.ixT (tupT e4c) rfl ?_
            walk_at "z"
            refine Z.lenL (k34.seq nin0 hT) ?_
            rw [vN_len]
            walk_at "z"
            refine Z.ite (fun h2 => ?_) (fun h2 => ?_)
            · have hm : min i r = i := by omega
              rw [hm] at hns
              have esucc : dealAt cs ls (i + 1) = (ns.set j (ns.getD j 0 + 1), (fsOf cs ns).getD j (0, 1)) := by
                show stp cs ls (dealAt cs ls i) = _
                unfold stp
                rw [hns, e]
              walk_at "z"
              refine Z.ixT (tupT e4c) rfl ?_
              refine Z.ixL (lstL e4N) (atI_nat (vN_D hjl)) ?_
              walk_at "z"
              refine Z.ixT (tupT e4c) rfl ?_
              refine Z.setL e4N (ixN_nat (by rw [vN_len]; exact hjl)) ?_
              have e1c : ((ns.getD j 0 : Nat) : Int) + 1 = ((ns.getD j 0 + 1 : Nat) : Int) := by omega
              rw [e1c, vN_set]
              refine ⟨y, _, _, _, _, _, rfl, k34.mut nN rfl, ?_, ?_⟩
              · rw [show min (i + 1) r = i + 1 by omega, esucc, upd_same]
              · rw [if_neg (by omega), show min (i + 1) r = i + 1 by omega, esucc]
                exact e4y.kpl (Kp.put (by simp)) e4N
            · have hr0 : r = 0 := by omega
              have hi0 : i = 0 := by omega
              subst hi0
              walk_at "z"
              refine ⟨y, _, _, _, _, _, rfl, k34, by rw [show min (0 + 1) r = min 0 r by omega, hns]; exact e4N, ?_⟩
              rw [if_neg (by omega), show min (0 + 1) r = 0 by omega]
              rw [show min 0 r = 0 by omega] at hns
              have h0 : (dealAt cs ls 0).2 = pickF (fsOf cs (ones ls)) (stOf cs ls (ones ls)) (0, 1) := rfl
              have h1 : (dealAt cs ls 0).1 = ones ls := rfl
              rw [h1] at hns
              rw [h0, hns, e]
              exact e4y
      · rintro σ' H3 ⟨p, y5, y6, y7, y8, y9, rfl, k3, e3N, ep⟩
        rw [if_neg (by omega), show min (max 1 r) r = r by omega] at ep
        rw [show min (max 1 r) r = r by omega] at e3N
        walk_at "z"
        refine Z.tupK (fun t H4 nt k4 e4 => ?_)
        exact q H4 t N p (k3.trans k4) ⟨e4, k4.get nin0 e3N, ep.kp0 k4⟩

theorem ok__law_bound {P : Program} {w : World} {K : PySem.W.Frag} {mg : Str → Option Value} {base : Heap} (T : T P K mg) : FnOk P w K mg base CX0 3 T.a__law_bound T.fd__law_bound ["costs", "limits", "places", "price"] (spDB K) := by
  refine T.F__law_bound.ok sc__law_bound (fun vs H Q E h => ?_) (fun cdv A outer s H vs Q E hr h => ?_)
  · obtain ⟨a, b, d, as, cs, ls, m, p, rfl, _⟩ := h
    rfl
  · obtain ⟨a, b, d, as, cs, ls, m, p, rfl, hS, hF, hT, hC, h4, hm, hd, hp, q⟩ := h
    have p1 := hp.q
    have p2 : p.2 ≠ 0 := by omega
    have one1 : (1 : Int) ≤ 1 := by decide
    have hFl := hF.len
    have hcl := hC.len
    refine ⟨_, (pss_cons (ps_set (i := 4) sc__law_bound.nd rfl (by first | exact Or.inl rfl | exact Or.inr rfl) (pe_call (ok__law_times T) (hr.mono (by decide)) (by rfl) T.g__law_times T.F__law_times.kp T.b__law_times .nil pass0 (pa_cons (pe_tup (pa_cons (pe_op op_sub pe_int (pv 2)) (pa_cons pe_int pa_nil))) (pa_cons (pv 3) pa_nil))))
      (pss_cons (ps_for PassesOwn.never rfl (pi_range1 (by rfl) T.z_range (pa_cons (pe_callB c_len (by rfl) T.z_len (by decide +kernel) (pa_cons (pv 0) pa_nil)) pa_nil)) (pg_name (i := 5) sc__law_bound.nd rfl (by first | exact Or.inl rfl | exact Or.inr rfl)) (pss_cons (ps_set (i := 6) sc__law_bound.nd rfl (by first | exact Or.inl rfl | exact Or.inr rfl) pe_non)
      (pss_cons (ps_for PassesOwn.never rfl (pi_range2 (by rfl) T.z_range (pa_cons pe_int (pa_cons (pe_op op_add (pe_ix ix_list (pv 1) (pv 5) (fun _ _ => rfl)) pe_int) pa_nil))) (pg_name (i := 7) sc__law_bound.nd rfl (by first | exact Or.inl rfl | exact Or.inr rfl)) (pss_cons (ps_set (i := 8) sc__law_bound.nd rfl (by first | exact Or.inl rfl | exact Or.inr rfl) (pe_call (ok__law_plus T) (hr.mono (by decide)) (by rfl) T.g__law_plus T.F__law_plus.kp T.b__law_plus .nil pass0 (pa_cons (pe_call (ok__law_low T) (hr.mono (by decide)) (by rfl) T.g__law_low T.F__law_low.kp T.b__law_low .nil pass0 (pa_cons (pe_ix ix_tup (pe_ix ix_list (pv 0) (pv 5) (fun _ _ => rfl)) pe_int (fun _ _ => rfl)) (pa_cons (pe_op op_mulW (pe_ix ix_tup (pe_ix ix_list (pv 0) (pv 5) (fun _ _ => rfl)) pe_int (fun _ _ => rfl)) (pv 7)) pa_nil))) (pa_cons (pe_call (ok__law_times T) (hr.mono (by decide)) (by rfl) T.g__law_times T.F__law_times.kp T.b__law_times .nil pass0 (pa_cons (pe_tup (pa_cons (pv 7) (pa_cons pe_int pa_nil))) (pa_cons (pv 3) pa_nil))) pa_nil))))
      (pss_one (ps_if (PW.pt (pw_or (pt_cmpR o_isN (pv 6) pe_non (nomark _)) (pw_or1 (pt_val (pe_call (ok__law_less T) (hr.mono (by decide)) (by rfl) T.g__law_less T.F__law_less.kp T.b__law_less .nil pass0 (pa_cons (pv 8) (pa_cons (pv 6) pa_nil))))))) (pss_one (ps_set (i := 6) sc__law_bound.nd rfl (by first | exact Or.inl rfl | exact Or.inr rfl) (pv 8))) pss_nil))))
      (pss_one (ps_set (i := 4) sc__law_bound.nd rfl (by first | exact Or.inl rfl | exact Or.inr rfl) (pe_call (ok__law_plus T) (hr.mono (by decide)) (by rfl) T.g__law_plus T.F__law_plus.kp T.b__law_plus .nil pass0 (pa_cons (pv 4) (pa_cons (pv 6) pa_nil))))))))
      (pss_one (ps_ret (pv 4))))), ?_⟩
    walk_at "z0"
    walk_at "z"
    refine Z.tupK (fun u H1 nu k1 e1 => ?_)
    walk_at "z"
    have m2 : ((0 - m, 1) : Fr).2 ≠ 0 := show ((1 : Int)) ≠ 0 by decide
    have mB : FrB 10 (0 - m, 1) := ⟨by show (0 - m).natAbs < 2 ^ 10; omega, show (1 : Nat) < 2 ^ 10 by decide⟩
    refine ⟨u, d, (0 - m, 1), p, rfl, tupT e1, hd.kp0 k1, one1, p1, ⟨10, 30, mB, hp.B, by decide⟩, fun H2 x nx k2 ex => ?_⟩
    have tL : Low (ftimes (0 - m, 1) p) := lo_low (Int.mul_ne_zero m2 p2)
    have tB := ftimes_B mB hp.B m2 p2
    have tv : rv (ftimes (0 - m, 1) p) = - ((m : Rat) * rv p) := by
      rw [rv_ftimes m2 p2, rv_int1]
      have e : ((0 - m : Int) : Rat) = (0 : Rat) - (m : Rat) := by exact_mod_cast rfl
      rw [e]
      grind
    have k02 := k1.trans k2
    walk_at "z"
    refine Z.lenL (k02.seq nin0 hS) ?_
    rw [List.length_map]
    refine Z.forr as.length rfl (by omega) (fun k σ' H' => ∃ (x : Addr) (f : Fr) (y5 y6 y7 y8 : Option V), σ' = [some (.ref a), some (.ref b), some (.int m), some (.ref d), some (.ref x), y5, y6, y7, y8] ∧ Kp [] H H' ∧ FrAt K H' x f ∧ Low f ∧ FrB (40 + k * 58) f ∧ rv f = lvS (rv p) ((cs.map rv).take k) (ls.take k) - (m : Rat) * rv p) ⟨x, _, _, _, _, _, rfl, k02, ex, tL, tB, ?_⟩ ?_ ?_
    · rw [tv]
      show _ = (0 : Rat) - _
      grind
    · rintro k σ' H3 hk ⟨x, f, y5, y6, y7, y8, rfl, k3, ex, fL, fB, fv⟩
      have hc : cs[k]? = some (cs[k]'(by omega)) := List.getElem?_eq_getElem (by omega)
      have hl : ls[k]? = some (ls[k]'(by omega)) := List.getElem?_eq_getElem (by omega)
      revert hc hl
      generalize cs[k]'(by omega) = c
      generalize ls[k]'(by omega) = l
      intro hc hl
      have hcC := hC.c c (List.mem_of_getElem? hc)
      have hlC := hC.l l (List.mem_of_getElem? hl)
      have hcp := hcC.L.1
      have hT3 := k3.seq nin0 hT
      walk_at "z"
      refine Z.ixL hT3 (atI_nat (vN_get hl)) ?_
      walk_at "z"
      refine Z.forr2 l (by omega) (by omega) (fun i σ' H' => ∃ (v : V) (y7 y8 : Option V), σ' = [some (.ref a), some (.ref b), some (.int m), some (.ref d), some (.ref x), some (.int (k : Int)), some v, y7, y8] ∧ Kp [] H3 H' ∧ (i = 0 → v = .non) ∧ (0 < i → ∃ z g, v = .ref z ∧ FrAt K H' z g ∧ Low g ∧ FrB 57 g ∧ rv g = lvR (rv c) (rv p) (i - 1))) ⟨_, _, _, rfl, Kp.refl _, fun _ => rfl, fun z => absurd z (by omega)⟩ ?_ ?_
      · rintro i σ' H4 hi ⟨v, y7, y8, rfl, k4, hv0, hv1⟩
        have en : (1 : Int) + (i : Int) = ((i + 1 : Nat) : Int) := by omega
        rw [en]
        have k34 := k3.trans k4
        obtain ⟨cx, ecx, hcx⟩ := (hF.kp0 k34).at (i := k) (by omega)
        rw [frD_of hc] at hcx
        have w := valF_ok (n := i + 1) hcC hp (by omega) (by omega)
        have o := over_low (n := i + 1) hcC.L.ne (by omega)
        have t : Low (ftimes (nF (i + 1)) p) := lo_low (Int.mul_ne_zero (nF2 _) p2)
        have nB := nF_B (n := i + 1) (by omega)
        have hq := mul_B (n := 6) (m := 10) hcC.B.2 nB.1
        have elv : ∀ z, i = z + 1 → lvR (rv c) (rv p) i = if vR (rv c) (rv p) (i + 1) < lvR (rv c) (rv p) (i - 1) then vR (rv c) (rv p) (i + 1) else lvR (rv c) (rv p) (i - 1) := fun z hz => by
          subst hz
          rfl
        walk_at "z"
        refine Z.ixL (k34.seq nin0 hS) (atI_nat ecx) ?_
        walk_at "z"
        refine Z.ixT hcx (fr0 _) ?_
        walk_at "z"
        refine Z.ixL (k34.seq nin0 hS) (atI_nat ecx) ?_
        walk_at "z"
        refine Z.ixT hcx (fr1 _) ?_
        walk_at "z"
        refine Z.iC (mul_ok (n := 10) (up_B hcC.B.2 (by decide)) nB.1) ?_
        walk_at "z"
        refine ⟨_, c.2 * ((i + 1 : Nat) : Int), rfl, by have := Int.mul_pos (show 0 < c.2 by omega) (show 0 < ((i + 1 : Nat) : Int) by omega); omega, up_B hq (by decide), fun H5 y ny k5 e5 => ?_⟩
        rw [← over_lo] at e5
        walk_at "z"
        refine Z.tupK (fun u2 H6 nu2 k6 e6 => ?_)
        walk_at "z"
        refine ⟨u2, d, nF (i + 1), p, rfl, tupT e6, (((hd.kp0 k34).kp0 k5).kp0 k6), one1, p1, ⟨10, 30, nB, hp.B, by decide⟩, fun H7 z nz k7 e7 => ?_⟩
        walk_at "z"
        refine ⟨y, z, _, _, rfl, (FrAt.kp0 e5 k6).kp0 k7, e7, o.1, t.1, ⟨16, 40, over_B hcC (by omega) (by omega), ftimes_B nB hp.B (nF2 _) p2, by decide⟩, fun H8 g ng k8 e8 => ?_⟩
        have k48 := k4.trans (k5.trans (k6.trans (k7.trans k8)))
        walk_at "z"
        by_cases hi0 : i = 0
        · obtain rfl := hv0 hi0
          refine Z.yes (by rfl) ?_
          walk_at "z"
          refine ⟨_, _, _, rfl, k48, fun z => by omega, fun _ => ⟨g, _, rfl, e8, w.1, w.2.1, ?_⟩⟩
          rw [Nat.add_sub_cancel]
          have : rv (valF c p (i + 1)) = lvR (rv c) (rv p) i := by rw [w.2.2, hi0]; rfl
          exact this
        · obtain ⟨bz, bg, rfl, ebz, bL, bB, bv⟩ := hv1 (by omega)
          have elv2 := elv (i - 1) (by omega)
          refine Z.no (by simp) ?_
          walk_at "z"
          have ebz8 : FrAt K H8 bz bg := ebz.kp0 (k5.trans (k6.trans (k7.trans k8)))
          refine ⟨g, bz, _, bg, rfl, e8, ebz8, w.2.1.mono (by decide), bB.mono (by decide), ?_⟩
          have hfl : fless (valF c p (i + 1)) bg = decide (vR (rv c) (rv p) (i + 1) < lvR (rv c) (rv p) (i - 1)) := by rw [fless_iff w.1.1 bL.1, w.2.2, bv]
          have hfl2 : fless (fplus (fover c (nF (i + 1))) (ftimes (nF (i + 1)) p)) bg = decide (vR (rv c) (rv p) (i + 1) < lvR (rv c) (rv p) (i - 1)) := hfl
          walk_at "z"
          rw [hfl2]
          refine Z.ite (fun h2 => ?_) (fun h2 => ?_)
          · rw [if_pos h2] at elv2
            walk_at "z"
            refine ⟨_, _, _, rfl, k48, fun z => by omega, fun _ => ⟨g, _, rfl, e8, w.1, w.2.1, ?_⟩⟩
            rw [Nat.add_sub_cancel, elv2]
            exact w.2.2
          · rw [if_neg h2] at elv2
            walk_at "z"
            refine ⟨_, _, _, rfl, k48, fun z => by omega, fun _ => ⟨bz, bg, rfl, ebz8, bL, bB, ?_⟩⟩
            rw [Nat.add_sub_cancel, elv2]
            exact bv
      · rintro σ' H4 ⟨v, y7, y8, rfl, k4, hv0, hv1⟩
        obtain ⟨bz, bg, rfl, ebz, bL, bB, bv⟩ := hv1 (by omega)
        walk_at "z"
        refine ⟨x, bz, f, bg, rfl, ex.kp0 k4, ebz, fL.1, bL.1, ⟨_, _, fB, bB, by omega⟩, fun H5 y ny k5 e5 => ?_⟩
        walk_at "z"
        refine ⟨y, _, _, _, _, _, rfl, (k3.trans k4).trans k5, e5, fplus_low fL.ne bL.ne, (fplus_B fB bB fL.ne bL.ne).mono (by omega), ?_⟩
        rw [rv_fplus fL.ne bL.ne, fv, bv, lvS_take (c := rv c) (l := l) (by rw [List.getElem?_map, hc]; rfl) hl]
        grind
    · rintro σ' H3 ⟨x, f, y5, y6, y7, y8, rfl, k3, ex, fL, fB, fv⟩
      have t1 : (cs.map rv).take as.length = cs.map rv := List.take_of_length_le (by rw [List.length_map]; omega)
      have t2 : ls.take as.length = ls := List.take_of_length_le (by omega)
      rw [t1, t2] at fv
      walk_at "z"
      exact q H3 x f k3 ex fL (fB.mono (by omega)) fv

/-! ### all deals -/
def stepL (found : List (List Nat)) (l : Nat) : List (List Nat) := found.flatMap fun one => (List.range l).map fun i => one ++ [i + 1]
def allL (ls : List Nat) : List (List Nat) := ls.foldl stepL [[]]
def dealsL (ls : List Nat) (m : Int) : List (List Nat) := (allL ls).filter fun l => decide (((l.sum : Nat) : Int) = m)
theorem mem_fold : ∀ {ls : List Nat} {found : List (List Nat)} {l : List Nat}, l ∈ ls.foldl stepL found ↔ ∃ one ∈ found, ∃ t, l = one ++ t ∧ InL ls t
  | [], found, l => by
    constructor
    · intro h
      exact ⟨l, h, [], by simp, trivial⟩
    · rintro ⟨one, h, t, rfl, ht⟩
      cases t with
      | nil => rw [List.append_nil]; exact h
      | cons _ _ => exact ht.elim
  | x :: ls, found, l => by
    rw [List.foldl_cons, mem_fold (ls := ls)]
    constructor
    · rintro ⟨one', h1, t', rfl, ht⟩
      unfold stepL at h1
      obtain ⟨one, h2, h3⟩ := List.mem_flatMap.mp h1
      obtain ⟨i, h4, rfl⟩ := List.mem_map.mp h3
      have := List.mem_range.mp h4
      exact ⟨one, h2, (i + 1) :: t', by simp, ⟨by omega, by omega⟩, ht⟩
    · rintro ⟨one, h1, t, rfl, ht⟩
      cases t with
      | nil => exact ht.elim
      | cons n t =>
        refine ⟨one ++ [n], ?_, t, by simp, ht.2⟩
        unfold stepL
        refine List.mem_flatMap.mpr ⟨one, h1, List.mem_map.mpr ⟨n - 1, List.mem_range.mpr ?_, ?_⟩⟩
        · have := ht.1.1; have := ht.1.2; omega
        · rw [show n - 1 + 1 = n by have := ht.1.1; omega]
theorem mem_deals {ls l : List Nat} {m : Int} : l ∈ dealsL ls m ↔ InL ls l ∧ ((l.sum : Nat) : Int) = m := by
  unfold dealsL allL
  rw [List.mem_filter, mem_fold, decide_eq_true_eq]
  constructor
  · rintro ⟨⟨one, h1, t, rfl, ht⟩, h2⟩
    rw [List.mem_singleton.mp h1, List.nil_append] at *
    exact ⟨ht, h2⟩
  · rintro ⟨h1, h2⟩
    exact ⟨⟨[], by simp, l, by simp, h1⟩, h2⟩
theorem stepL_len : ∀ (found : List (List Nat)) (l : Nat), (stepL found l).length = found.length * l
  | [], l => by simp [stepL]
  | x :: r, l => by
    have ih := stepL_len r l
    unfold stepL at ih ⊢
    rw [List.flatMap_cons, List.length_append, ih, List.length_map, List.length_range, List.length_cons, Nat.add_mul]
    omega
theorem allL_len {ls : List Nat} (h : ∀ l ∈ ls, l ≤ 9) : ∀ i : Nat, (allL (ls.take i)).length ≤ 9 ^ i
  | 0 => by show ([[]] : List (List Nat)).length ≤ 1; decide
  | i + 1 => by
    have ih := allL_len h i
    cases e : ls[i]? with
    | none =>
      rw [List.take_add_one, e]
      show (allL (ls.take i ++ [])).length ≤ _
      rw [List.append_nil]
      exact Nat.le_trans ih (Nat.pow_le_pow_right (by decide) (by omega))
    | some l =>
      have hl := h l (List.mem_of_getElem? e)
      rw [List.take_add_one, e]
      have e2 : allL (ls.take i ++ [l]) = stepL (allL (ls.take i)) l := by
        unfold allL
        rw [List.foldl_append]
        rfl
      show (allL (ls.take i ++ [l])).length ≤ _
      rw [e2, stepL_len, Nat.pow_succ]
      exact Nat.mul_le_mul ih hl
theorem allL_succ {ls : List Nat} {i l : Nat} (e : ls[i]? = some l) : allL (ls.take (i + 1)) = stepL (allL (ls.take i)) l := by
  rw [List.take_add_one, e]
  unfold allL
  show (ls.take i ++ [l]).foldl _ _ = _
  rw [List.foldl_append]
  rfl
theorem allL_el {ls : List Nat} : ∀ l ∈ allL ls, l.length = ls.length := fun l h => by
  unfold allL at h
  obtain ⟨one, h1, t, rfl, ht⟩ := mem_fold.mp h
  rw [List.mem_singleton.mp h1, List.nil_append]
  exact ht.len.symm
/-- lists of numbers at as -/
def LLAt (H : Hp) (as : List Addr) (lss : List (List Nat)) : Prop := Paired (fun a l => H a = some (.lst (vN l))) as lss
theorem LLAt.len {H : Hp} {as : List Addr} {lss : List (List Nat)} (h : LLAt H as lss) : as.length = lss.length := Paired.length h
theorem LLAt.kp {M : List Addr} {H H' : Hp} (k : Kp M H H') : ∀ {as : List Addr} {lss : List (List Nat)}, LLAt H as lss → (∀ a ∈ as, a ∉ M) → LLAt H' as lss
  | [], [], _, _ => .nil
  | a :: as, l :: lss, .cons h r, n => .cons (k.get (n a (by simp)) h) (LLAt.kp k (as := as) (lss := lss) r fun x hx => n x (by simp [hx]))
theorem LLAt.kp0 {H H' : Hp} {as : List Addr} {lss : List (List Nat)} (h : LLAt H as lss) (k : Kp [] H H') : LLAt H' as lss := h.kp k fun _ _ => nin0
theorem LLAt.get {H : Hp} : ∀ {as : List Addr} {lss : List (List Nat)} {i : Nat} {v : V}, LLAt H as lss → (as.map V.ref)[i]? = some v → ∃ a l, v = .ref a ∧ as[i]? = some a ∧ lss[i]? = some l ∧ H a = some (.lst (vN l))
  | [], [], i, v, _, h => by simp at h
  | a :: as, l :: lss, 0, v, .cons h r, e => ⟨a, l, (Option.some.inj e).symm, rfl, rfl, h⟩
  | a :: as, l :: lss, i + 1, v, .cons h r, e => LLAt.get (as := as) (lss := lss) (i := i) r e
theorem LLAt.app {H : Hp} : ∀ {as bs : List Addr} {l1 l2 : List (List Nat)}, LLAt H as l1 → LLAt H bs l2 → LLAt H (as ++ bs) (l1 ++ l2)
  | [], _, [], _, _, h => h
  | a :: as, bs, l :: l1, l2, .cons h r, h2 => .cons h (LLAt.app (as := as) (l1 := l1) r h2)
theorem LLAt.snoc {H : Hp} {as : List Addr} {lss : List (List Nat)} {a : Addr} {l : List Nat} (h : LLAt H as lss) (e : H a = some (.lst (vN l))) : LLAt H (as ++ [a]) (lss ++ [l]) := h.app (.cons e .nil)
theorem LLAt.mem {H : Hp} : ∀ {as : List Addr} {lss : List (List Nat)} {a : Addr}, LLAt H as lss → a ∈ as → ∃ xs, H a = some (.lst xs)
  | a :: as, l :: lss, b, .cons h r, hm => by
    rcases List.mem_cons.mp hm with z | z
    · rw [z]; exact ⟨_, h⟩
    · exact LLAt.mem (as := as) (lss := lss) r z
def spDeals (K : PySem.W.Frag) : Sp := fun vs H Q _ => ∃ (a : Addr) (ls : List Nat) (m : Int), vs = [.ref a, .int m] ∧ SqL K H a (vN ls) ∧ ls.length ≤ 4 ∧ (∀ l ∈ ls, l ≤ 9) ∧ ∀ H' p as, H p = none → Kp [] H H' → H' p = some (.lst (as.map V.ref)) → LLAt H' as (dealsL ls m) → (∀ a ∈ as, H a = none ∧ a ≠ p) → Q (.ref p) H'
theorem ok__law_deals {P : Program} {w : World} {K : PySem.W.Frag} {mg : Str → Option Value} {base : Heap} (T : T P K mg) : FnOk P w K mg base CX0 1 T.a__law_deals T.fd__law_deals ["limits", "places"] (spDeals K) := by
  refine T.F__law_deals.ok sc__law_deals (fun vs H Q E h => ?_) (fun cdv A outer s H vs Q E hr h => ?_)
  · obtain ⟨a, ls, m, rfl, _⟩ := h
    rfl
  · obtain ⟨a, ls, m, rfl, hS, h4, h9, q⟩ := h
    have hL := allL_len h9
    have hL4 : ∀ i, i ≤ ls.length → (allL (ls.take i)).length ≤ 6561 := fun i hi => Nat.le_trans (hL i) (Nat.le_trans (Nat.pow_le_pow_right (by decide) (show i ≤ 4 by omega)) (by decide))
    refine ⟨_, (pss_cons (ps_set (i := 2) sc__law_deals.nd rfl (by first | exact Or.inl rfl | exact Or.inr rfl) (pe_lst (pa_cons (pe_lst pa_nil) pa_nil)))
      (pss_cons (ps_for PassesOwn.never rfl (pi_list (pv 0)) (pg_name (i := 3) sc__law_deals.nd rfl (by first | exact Or.inl rfl | exact Or.inr rfl)) (pss_cons (ps_set (i := 4) sc__law_deals.nd rfl (by first | exact Or.inl rfl | exact Or.inr rfl) (pe_lst pa_nil))
      (pss_cons (ps_for PassesOwn.never rfl (pi_list (pv 2)) (pg_name (i := 5) sc__law_deals.nd rfl (by first | exact Or.inl rfl | exact Or.inr rfl)) (pss_one (ps_set (i := 4) sc__law_deals.nd rfl (by first | exact Or.inl rfl | exact Or.inr rfl) (pe_op op_cat (pv 4) (pe_lc (own := [("number", 6)]) (g := gName 6) rfl sc__law_deals.nd (pi_range2 (by rfl) T.z_range (pa_cons pe_int (pa_cons (pe_op op_add (pv 3) pe_int) pa_nil))) (blkOk_by (own := [("number", 6)]) (N := N__law_deals) (sc := defScope s__law_deals) (by decide +kernel)) (fun _ _ _ _ _ => (pg_name (i := 6) sc__law_deals.nd rfl (by first | exact Or.inl rfl | exact Or.inr rfl))) (fun _ _ _ _ _ => pts_nil) (fun _ _ _ _ _ => (pe_op op_cat (pv 5) (pe_lst (pa_cons (pv 6) pa_nil)))))))))
      (pss_one (ps_set (i := 2) sc__law_deals.nd rfl (by first | exact Or.inl rfl | exact Or.inr rfl) (pv 4))))))
      (pss_one (ps_ret (pe_lc (own := [("one", 5)]) (g := gName 5) rfl sc__law_deals.nd (pi_list (pv 2)) (blkOk_by (own := [("one", 5)]) (N := N__law_deals) (sc := defScope s__law_deals) (by decide +kernel)) (fun _ _ _ _ _ => (pg_name (i := 5) sc__law_deals.nd rfl (by first | exact Or.inl rfl | exact Or.inr rfl))) (fun _ _ _ _ _ => (pts_one (pt_cmpR op_eq (pe_callB ((cr_sum rfl) : CallR _ _ (rSum K)) (by rfl) T.z_sum (by decide +kernel) (pa_cons (pv 5) pa_nil)) (pv 1) (nomark _)))) (fun _ _ _ _ _ => (pv 5))))))), ?_⟩
    walk_at "z0"
    walk_at "z"
    refine Z.lstK (fun E0 H1 nE k1 e1 => ?_)
    walk_at "z"
    refine Z.lstK (fun F0 H2 nF k2 e2 => ?_)
    walk_at "z"
    have e1' : H2 E0 = some (.lst (vN [])) := k2.get nin0 e1
    refine Z.forl (vN ls) ((k1.trans k2).seq nin0 hS) (fun i σ' H' => ∃ (F : Addr) (fas : List Addr) (y3 y4 y5 y6 : Option V), σ' = [some (.ref a), some (.int m), some (.ref F), y3, y4, y5, y6] ∧ Kp [] H H' ∧ H' F = some (.lst (fas.map V.ref)) ∧ LLAt H' fas (allL (ls.take i)) ∧ ∀ x ∈ fas, H x = none) ⟨F0, [E0], _, _, _, _, rfl, k1.trans k2, e2, .cons e1' .nil, fun x hx => by rw [List.mem_singleton.mp hx]; exact nE⟩ ?_ ?_ ?_
    · rintro i σ' H3 hi ⟨F, fas, y3, y4, y5, y6, rfl, k3, _⟩
      exact k3.seq nin0 hS
    · rintro i v σ' H3 hv ⟨F, fas, y3, y4, y5, y6, rfl, k3, e3, L3, hn3⟩
      obtain ⟨l, hl, rfl⟩ := vN_at hv
      have hi : i < ls.length := (List.getElem?_eq_some_iff.mp hl).1
      have hl9 := h9 l (List.mem_of_getElem? hl)
      have hL3 := hL4 i (by omega)
      walk_at "z"
      refine Z.lstK (fun G0 H4 nG k4 e4 => ?_)
      walk_at "z"
      have e4F := k4.get nin0 e3
      refine Z.forl (fas.map V.ref) (lstL e4F) (fun j σ' H' => ∃ (G : Addr) (gas : List Addr) (y5 y6 : Option V), σ' = [some (.ref a), some (.int m), some (.ref F), some (.int (l : Int)), some (.ref G), y5, y6] ∧ Kp [] H4 H' ∧ H' G = some (.lst (gas.map V.ref)) ∧ LLAt H' gas (stepL ((allL (ls.take i)).take j) l) ∧ ∀ x ∈ gas, H x = none) ⟨G0, [], _, _, rfl, Kp.refl _, e4, .nil, fun x hx => (by cases hx)⟩ ?_ ?_ ?_
      · rintro j σ' H5 hj ⟨G, gas, y5, y6, rfl, k5, _⟩
        exact lstL (k5.get nin0 e4F)
      · rintro j v σ' H5 hv2 ⟨G, gas, y5, y6, rfl, k5, e5, L5, hn5⟩
        obtain ⟨oa, one, rfl, _, hone, eone⟩ := ((L3.kp0 k4).kp0 k5).get hv2
        have k35 := k3.trans (k4.trans k5)
        have hone2 := allL_el one (List.mem_of_getElem? hone)
        have honel : one.length ≤ 4 := by rw [hone2, List.length_take]; omega
        have hgl : gas.length ≤ 60000 := by
          rw [L5.len, stepL_len]
          have : ((allL (ls.take i)).take j).length ≤ 6561 := by rw [List.length_take]; omega
          have := Nat.mul_le_mul this hl9
          omega
        walk_at "z"
        refine Z.lcr2 l (by omega) (by omega) (fun D k H' => ∃ das : List Addr, Kp [] H5 H' ∧ H' D = some (.lst (das.map V.ref)) ∧ LLAt H' das ((List.range k).map fun i => one ++ [i + 1]) ∧ (∀ x ∈ das, x ≠ D ∧ H x = none)) ?_ ?_ ?_
        · intro D H6 nD k6 e6
          exact ⟨[], k6, e6, .nil, fun x hx => (by cases hx)⟩
        · rintro D k H6 nD hk ⟨das, k6, e6, L6, hn6⟩
          have eo6 := k6.get nin0 eone
          have hdl : das.length ≤ 9 := by rw [L6.len, List.length_map, List.length_range]; omega
          dsimp only [wipe, List.set]
          walk_at "z"
          refine ⟨rfl, ?_⟩
          walk_at "z"
          refine Z.lstK (fun u H7 nu k7 e7 => ?_)
          refine Z.cat (k7.get nin0 eo6) e7 (by rw [vN_len]; simp; omega) (fun w H8 nw k8 e8 => ?_)
          have k68 := k7.trans k8
          have e8D := k68.get nin0 e6
          have nwD : w ≠ D := fun z => by rw [z, k7.get nin0 e6] at nw; cases nw
          have nwH : H w = none := (k35.trans (k6.trans k7)).none nin0 nw
          have e8w : H8 w = some (.lst (vN (one ++ [k + 1]))) := by
            rw [e8, vN_app]
            have : (1 : Int) + (k : Int) = ((k + 1 : Nat) : Int) := by omega
            rw [this]
            rfl
          have kD : Kp [D] H8 (upd H8 D (.lst (das.map V.ref ++ [.ref w]))) := Kp.put (by simp)
          refine ⟨_, e8D, Z.szl (m := 1000) (by rw [List.length_map]; omega), das ++ [w], (k6.trans k68).mut nD rfl, by rw [upd_same, List.map_append]; rfl, ?_, fun x hx => ?_⟩
          · rw [List.range_succ, List.map_append]
            refine ((L6.kp0 k68).snoc e8w).kp kD fun x hx => nin1 ?_
            rcases List.mem_append.mp hx with hx | hx
            · exact (hn6 x hx).1
            · rw [List.mem_singleton.mp hx]; exact nwD
          · rcases List.mem_append.mp hx with hx | hx
            · exact hn6 x hx
            · rw [List.mem_singleton.mp hx]; exact ⟨nwD, nwH⟩
        · rintro D H6 nD ⟨das, k6, e6, L6, hn6⟩
          have hdl : das.length ≤ 9 := by rw [L6.len, List.length_map, List.length_range]; omega
          refine Z.cat (k6.get nin0 e5) e6 (by rw [List.length_map, List.length_map]; omega) (fun w H7 nw k7 e7 => ?_)
          walk_at "z"
          refine ⟨w, gas ++ das, _, _, rfl, k5.trans (k6.trans k7), by rw [e7, List.map_append], ?_, fun x hx => ?_⟩
          · have e9 : stepL ((allL (ls.take i)).take (j + 1)) l = stepL ((allL (ls.take i)).take j) l ++ (List.range l).map fun i => one ++ [i + 1] := by
              unfold stepL
              rw [List.take_add_one, hone, List.flatMap_append]
              show _ ++ List.flatMap _ [one] = _
              rw [List.flatMap_singleton]
            rw [e9]
            exact (L5.kp0 (k6.trans k7)).app (L6.kp0 k7)
          · rcases List.mem_append.mp hx with hx | hx
            · exact hn5 x hx
            · exact (hn6 x hx).2
      · rintro σ' H5 ⟨G, gas, y5, y6, rfl, k5, e5, L5, hn5⟩
        rw [List.length_map, L3.len, List.take_length] at L5
        walk_at "z"
        refine ⟨G, gas, _, _, _, _, rfl, k3.trans (k4.trans k5), e5, ?_, hn5⟩
        rw [allL_succ hl]
        exact L5
    · rintro σ' H3 ⟨F, fas, y3, y4, y5, y6, rfl, k3, e3, L3, hn3⟩
      rw [vN_len, List.take_length] at L3
      have hL3 := hL4 ls.length (Nat.le_refl _)
      rw [List.take_length] at hL3
      walk_at "z"
      refine Z.lcl (fas.map V.ref) (lstL e3) (fun D i H' => ∃ das : List Addr, Kp [] H3 H' ∧ H' D = some (.lst (das.map V.ref)) ∧ LLAt H' das (((allL ls).take i).filter fun l => decide (((l.sum : Nat) : Int) = m)) ∧ (∀ x ∈ das, H x = none ∧ x ≠ D)) ?_ ?_ ?_ ?_
      · intro D H4 nD k4 e4
        exact ⟨[], k4, e4, .nil, fun x hx => (by cases hx)⟩
      · rintro D i H4 nD hi ⟨das, k4, e4, L4, hn4⟩
        exact lstL (k4.get nin0 e3)
      · rintro D i v H4 nD hv ⟨das, k4, e4, L4, hn4⟩
        obtain ⟨oa, one, rfl, hoa, hone, eone⟩ := (L3.kp0 k4).get hv
        have hoH := hn3 oa (List.mem_of_getElem? hoa)
        have hdl : das.length ≤ 6561 := by
          rw [L4.len]
          exact Nat.le_trans (List.length_filter_le _ _) (by rw [List.length_take]; omega)
        have noD : oa ≠ D := fun z => by
          obtain ⟨xs, e⟩ := L3.mem (List.mem_of_getElem? hoa)
          rw [z, nD] at e
          cases e
        have ef : ((allL ls).take (i + 1)).filter (fun l => decide (((l.sum : Nat) : Int) = m)) = ((allL ls).take i).filter (fun l => decide (((l.sum : Nat) : Int) = m)) ++ (if decide (((one.sum : Nat) : Int) = m) = true then [one] else []) := by
          rw [List.take_add_one, hone, List.filter_append]
          congr 1
          show List.filter _ [one] = _
          rw [List.filter_cons]
          rfl
        dsimp only [wipe, List.set]
        walk_at "z"
        refine ⟨rfl, ?_⟩
        walk_at "z"
        refine Z.sumL (ns := nints one) (lstL eone) ?_
        rw [ints_sum]
        walk_at "z"
        by_cases hm : ((one.sum : Nat) : Int) = m
        · rw [decide_eq_true hm] at ef
          rw [if_pos rfl] at ef
          refine Z.yes hm ?_
          walk_at "z"
          have kD : Kp [D] H4 (upd H4 D (.lst (das.map V.ref ++ [.ref oa]))) := Kp.put (by simp)
          refine ⟨_, e4, Z.szl (m := 10000) (by rw [List.length_map]; omega), das ++ [oa], k4.mut nD rfl, by rw [upd_same, List.map_append]; rfl, ?_, fun x hx => ?_⟩
          · rw [ef]
            refine (L4.snoc eone).kp kD fun x hx => nin1 ?_
            rcases List.mem_append.mp hx with hx | hx
            · exact (hn4 x hx).2
            · rw [List.mem_singleton.mp hx]; exact noD
          · rcases List.mem_append.mp hx with hx | hx
            · exact hn4 x hx
            · rw [List.mem_singleton.mp hx]; exact ⟨hoH, noD⟩
        · rw [decide_eq_false hm] at ef
          rw [if_neg Bool.false_ne_true, List.append_nil] at ef
          refine Z.no hm ?_
          walk_at "z"
          exact ⟨das, k4, e4, by rw [ef]; exact L4, hn4⟩
      · rintro D H4 nD ⟨das, k4, e4, L4, hn4⟩
        rw [List.length_map, L3.len, List.take_length] at L4
        walk_at "z"
        exact q H4 D das (k3.none nin0 nD) (k3.trans k4) e4 L4 hn4

theorem FrAt.kpd {K : PySem.W.Frag} {H H' : Hp} {a b : Addr} {f : Fr} (h : FrAt K H b f) (k : Kp [a] H H') (d : DrawsAt H a) : FrAt K H' b f := let ⟨_, e⟩ := d; h.kpl k e
theorem FrsAt.kpd {K : PySem.W.Frag} {H H' : Hp} {a : Addr} {as : List Addr} {fs : List Fr} (h : FrsAt K H as fs) (k : Kp [a] H H') (d : DrawsAt H a) : FrsAt K H' as fs := let ⟨_, e⟩ := d; h.kpl k e
theorem tyTup {K : PySem.W.Frag} {H : Hp} {a : Addr} {xs : List V} (h : SqT K H a xs) : TyX K H (.ref a) (.type "tuple") := by
  rcases h with (h | ⟨o, h⟩) | ⟨o, its, n, h1, h2, _⟩
  · exact .base (.tup h)
  · exact .fTuple h
  · exact .kTuple h1 h2
/-! data -/
def nsD (l : List Nat) : PyData := .list ((nints l).map PyData.int)
theorem dpN {K : PySem.W.Frag} {H : Hp} {a : Addr} {l : List Nat} (h : SqL K H a (vN l)) : Dp K H (.ref a) (nsD l) := dpI (ws := nints l) h
theorem dpLL {K : PySem.W.Frag} {H : Hp} : ∀ {as : List Addr} {lss : List (List Nat)}, LLAt H as lss → DpAll K H (as.map V.ref) (lss.map nsD)
  | [], [], _ => .nil
  | a :: as, l :: lss, .cons h r => .cons (dpN (lstL h)) (dpLL (as := as) (lss := lss) r)
theorem nsD_lay (l : List Nat) : PyData.canLay0 (nsD l) = true := by simp [nsD, PyData.canLay0, layInts]
theorem nsD_depth (l : List Nat) : (nsD l).depth = 1 := by simp [nsD, PyData.depth, depthInts]
theorem layLL : ∀ lss : List (List Nat), PyData.canLayAll0 (lss.map nsD) = true
  | [] => by simp [PyData.canLayAll0]
  | l :: r => by rw [List.map_cons, PyData.canLayAll0, nsD_lay, layLL r]; rfl
theorem depthLL : ∀ lss : List (List Nat), PyData.depthAll (lss.map nsD) ≤ 1
  | [] => by simp [PyData.depthAll]
  | l :: r => by
    have := depthLL r
    rw [List.map_cons, PyData.depthAll, nsD_depth]
    omega
theorem shLL (lss : List (List Nat)) : SeqAt.shaped (.list (lss.map nsD)) = true := by
  have := depthLL lss
  simp only [SeqAt.shaped, PyData.canLay0, PyData.depth, layLL, Bool.true_and]
  exact decide_eq_true (by omega)
theorem shN (l : List Nat) : SeqAt.shaped (nsD l) = true := shInts (nints l)
theorem shNil : SeqAt.shaped (.list []) = true := by decide +kernel
theorem eqvAll_nil : ∀ l : List PyData, PyData.eqvAll l [] = l.isEmpty
  | [] => by simp [PyData.eqvAll]
  | _ :: _ => by simp [PyData.eqvAll]
theorem eqNilLL {K : PySem.W.Frag} {H : Hp} {Q : VK} {a b : Addr} {as : List Addr} {lss : List (List Nat)} (h1 : H a = some (.lst (as.map V.ref))) (L : LLAt H as lss) (h2 : H b = some (.lst [])) (q : Q (.bl lss.isEmpty) H) : rEqD K (.ref a) (.ref b) H Q :=
  ⟨_, _, .lst (lstL h1) (dpLL L), .lst (ds := []) (lstL h2) .nil, shLL lss, shNil, by
    rw [PyData.eqv, eqvAll_nil]
    have e : (lss.map nsD).isEmpty = lss.isEmpty := by cases lss <;> rfl
    rw [e]; exact q⟩
theorem eqvAll_ints : ∀ a b : List Int, PyData.eqvAll (a.map PyData.int) (b.map PyData.int) = decide (a = b)
  | [], [] => by simp [PyData.eqvAll]
  | [], _ :: _ => by simp [PyData.eqvAll]
  | _ :: _, [] => by simp [PyData.eqvAll]
  | x :: a, y :: b => by
    have ih := eqvAll_ints a b
    simp [PyData.eqvAll, PyData.eqv, ih]
    rfl
theorem nints_inj {a b : List Nat} : nints a = nints b ↔ a = b := by
  constructor
  · intro h
    unfold nints at h
    exact (List.map_inj_right (f := fun n : Nat => (n : Int)) (fun x y (z : (x : Int) = (y : Int)) => by omega)).mp h
  · rintro rfl; rfl
theorem eqv_ns (a b : List Nat) : PyData.eqv (nsD a) (nsD b) = decide (a = b) := by
  show PyData.eqvAll _ _ = _
  rw [eqvAll_ints, decide_eq_decide]
  exact nints_inj
theorem any_ns {l : List Nat} : ∀ lss : List (List Nat), ((lss.map nsD).any fun z => PyData.eqv z (nsD l)) = decide (l ∈ lss)
  | [] => by simp
  | x :: r => by
    rw [List.map_cons, List.any_cons, any_ns r, eqv_ns]
    by_cases h : x = l
    · subst h; simp
    · have h' : ¬ l = x := fun z => h z.symm
      simp [h, h']
def toldD (ns : List Nat) (f : Fr) : PyData := .tuple [nsD ns, frD f]
theorem dpT {K : PySem.W.Frag} {H : Hp} {t N p : Addr} {ns : List Nat} {f : Fr} (h : Told K H t ns f N p) : Dp K H (.ref t) (toldD ns f) := .tup (tupT h.t) (.cons (dpN (lstL h.N)) (.cons (dpF h.p) .nil))
theorem toldD_lay (ns : List Nat) (f : Fr) : PyData.canLay0 (toldD ns f) = true := by simp [toldD, frD, nsD, PyData.canLay0, PyData.canLayAll0, layInts]
theorem toldD_sh (ns : List Nat) (f : Fr) : SeqAt.shaped (toldD ns f) = true := by
  have h1 := toldD_lay ns f
  have h2 : (toldD ns f).depth ≤ 2 := by simp [toldD, frD, nsD, PyData.depth, PyData.depthAll, depthInts]
  simp only [SeqAt.shaped, h1, Bool.true_and]
  exact decide_eq_true (by omega)
theorem neTT {K : PySem.W.Frag} {H : Hp} {Q : VK} {t u N p N' p' : Addr} {ns : List Nat} {f : Fr} (h1 : Told K H t ns f N p) (h2 : Told K H u ns f N' p') (q : Q (.bl false) H) : rNeD K (.ref t) (.ref u) H Q :=
  ⟨_, _, dpT h1, dpT h2, toldD_sh _ _, toldD_sh _ _, by rw [SeqAt.eqv_refl _ (toldD_lay _ _)]; exact q⟩
theorem Told.kp0 {K : PySem.W.Frag} {H H' : Hp} {t N p : Addr} {ns : List Nat} {f : Fr} (h : Told K H t ns f N p) (k : Kp [] H H') : Told K H' t ns f N p := ⟨k.get nin0 h.t, k.get nin0 h.N, h.p.kp0 k⟩
theorem eqFL {K : PySem.W.Frag} {H : Hp} {Q : VK} {a b : Addr} {as : List Addr} {fs : List Fr} (h1 : H a = some (.lst (as.map V.ref))) (h2 : H b = some (.lst (as.map V.ref))) (h : FrsAt K H as fs) (q : Q (.bl true) H) : rEqD K (.ref a) (.ref b) H Q :=
  ⟨_, _, .lst (lstL h1) (dpFs h), .lst (lstL h2) (dpFs h), shFs _, shFs _, by rw [SeqAt.eqv_refl (.list (fs.map frD)) (by simp [PyData.canLay0, layFs])]; exact q⟩
theorem lo_fst_nn {p q : Int} (hp : 0 ≤ p) (hq : 1 ≤ q) : 0 ≤ (lo p q).1 := by
  obtain ⟨a, b, e, _, _, h3, _⟩ := lo_spec (p := p) (q := q) (by omega)
  rw [e]
  rw [gI_pos hq] at h3
  have := gN_pos (p := p) (q := q) (by omega)
  refine Decidable.byContradiction fun z => ?_
  have h4 : (gN p q : Int) * a < 0 := Int.mul_neg_of_pos_of_neg (by omega) (show a < 0 by omega)
  omega
theorem cost_ok {v u : Int} (h0 : 0 ≤ v) (h1 : v < 40) (h2 : 0 ≤ u) (h3 : u < 4) : CB (lo v (1 + u)) :=
  ⟨lo_low (by omega), lo_fst_nn h0 (by omega), lo_B (by omega) (by omega) (by omega)⟩
/-! what the facts say -/
theorem var_rv {cs : List Fr} {ns : List Nat} (hc : ∀ c ∈ cs, CB c) (hn : ∀ n ∈ ns, 1 ≤ n ∧ n < 2 ^ 10) : rv (fsum (0, 1) (vterms cs ns)) = varR (cs.map rv) ns ∧ Low (fsum (0, 1) (vterms cs ns)) ∧ (cs.length = ns.length → ns.length ≤ 4 → FrB 100 (fsum (0, 1) (vterms cs ns))) := by
  have hB := vterms_B hc hn
  have hs := rv_fsum (fs := vterms cs ns) low_zero fun f hf => (hB f hf).2.ne
  refine ⟨?_, hs.2, fun hl h4 => ?_⟩
  · rw [hs.1, rv_zero, vterms_rv hc fun n hn' => (hn n hn').1]
    grind
  · have hB2 := fsum_B (fs := vterms cs ns) (t := (0, 1)) (n := 1) (m := 16) ⟨by decide, by decide⟩ (by decide) fun f hf => ⟨(hB f hf).1, (hB f hf).2.ne⟩
    refine hB2.1.mono ?_
    have := Nat.mul_le_mul_right (16 + 1) (show (vterms cs ns).length ≤ 4 by rw [vterms_len hl]; exact h4)
    omega
theorem in_bnd {cs : List Fr} {ls ns : List Nat} (hC : CsOk cs ls) (hI : InL ls ns) : ∀ n ∈ ns, 1 ≤ n ∧ n < 2 ^ 10 := fun n hn => by
  obtain ⟨i, hi⟩ := List.getElem?_of_mem hn
  have := hI.bnd hC i (List.getElem?_eq_some_iff.mp hi).1
  rw [getD_of hi] at this
  omega
theorem weakD {cs : List Fr} {ls ns : List Nat} {t : Rat} (hC : CsOk cs ls) (hI : InL ls ns) : lvS t (cs.map rv) ls - ((ns.sum : Nat) : Rat) * t ≤ varR (cs.map rv) ns := by
  have := weakS (t := t) (cs := cs.map rv) (by rw [List.length_map]; exact hC.len) hI
  grind
theorem strongD {cs : List Fr} {ls : List Nat} {r : Nat} (hC : CsOk cs ls) (hr : ls.length + r ≤ ls.sum) : lvS (rv (dealAt cs ls r).2) (cs.map rv) ls - (((ls.length + r : Nat)) : Rat) * rv (dealAt cs ls r).2 = varR (cs.map rv) (dealAt cs ls r).1 := by
  have d := dealAt_ok hC hr
  have hcl := hC.len
  have hl := d.I.len
  have ho : Opt (rv (dealAt cs ls r).2) (cs.map rv) ls (dealAt cs ls r).1 := opt_of fun h hh => by
    have e : (cs.map rv).getD h 0 = rv (cs.getD h (0, 1)) := by
      have hc : cs[h]? = some (cs[h]'(by omega)) := List.getElem?_eq_getElem (by omega)
      rw [frD_of hc, List.getD_eq_getElem?_getD, List.getElem?_map, hc]
      rfl
    rw [e]
    exact ⟨(hC.at (by omega)).v, d.opt h hh⟩
  have := strongS (by rw [List.length_map]; exact hC.len) d.I ho
  rw [d.sum] at this
  grind
theorem InL.sum_ge : ∀ {ls ns : List Nat}, InL ls ns → ns.length ≤ ns.sum ∧ ns.sum ≤ ls.sum
  | [], [], _ => ⟨Nat.le_refl _, Nat.le_refl _⟩
  | [], _ :: _, h => h.elim
  | _ :: _, [], h => h.elim
  | l :: ls, n :: ns, h => by
    have ih := InL.sum_ge h.2
    have := h.1.1
    have := h.1.2
    rw [List.sum_cons, List.sum_cons, List.length_cons]
    omega
theorem deals_none {ls : List Nat} {m : Int} (h : ¬ ((ls.length : Int) ≤ m ∧ m ≤ ((ls.sum : Nat) : Int))) : dealsL ls m = [] := by
  refine List.eq_nil_iff_forall_not_mem.mpr fun l hl => ?_
  obtain ⟨h1, h2⟩ := mem_deals.mp hl
  have := h1.sum_ge
  have := h1.len
  omega
theorem ones_no {ls : List Nat} {m : Int} (hl : ∀ l ∈ ls, 1 ≤ l) (h : ¬ ((ls.length : Int) ≤ m ∧ m ≤ ((ls.sum : Nat) : Int))) : isDealB ls (ones ls) m = false := by
  cases e : isDealB ls (ones ls) m with
  | false => rfl
  | true =>
    obtain ⟨h1, h2⟩ := isDeal_iff.mp e
    have h3 := h1.sum_ge
    rw [ones_sum] at h2 h3
    omega
theorem isDeal_mem {ls ns : List Nat} {m : Int} : isDealB ls ns m = decide (ns ∈ dealsL ls m) := by
  cases e : isDealB ls ns m with
  | true => exact (decide_eq_true (mem_deals.mpr (isDeal_iff.mp e))).symm
  | false =>
    refine (decide_eq_false fun z => ?_).symm
    rw [isDeal_iff.mpr (mem_deals.mp z)] at e
    cases e

theorem pickI (l : List Int) {v : Int} (h0 : 0 ≤ v) (h1 : v < (l.length : Nat)) : ∃ s, s ∈ l ∧ atI (l.map V.int) v = some (.int s) := by
  obtain ⟨j, rfl⟩ : ∃ j : Nat, v = (j : Int) := ⟨v.toNat, by omega⟩
  have hj : j < l.length := by omega
  exact ⟨l[j], List.getElem_mem hj, atI_nat (by rw [List.getElem?_map, List.getElem?_eq_getElem hj]; rfl)⟩
theorem eqStrD {K : PySem.W.Frag} {H : Hp} {Q : VK} {s : Str} (h : SeqAt.shaped (.str s) = true) (q : Q (.bl true) H) : rEqD K (.str s) (.str s) H Q :=
  ⟨.str s, .str s, .str s, .str s, h, h, by rw [SeqAt.eqv_refl (.str s) (by simpa [SeqAt.shaped] using (show PyData.canLay0 (.str s) = true ∧ _ from by simpa [SeqAt.shaped] using h).1)]; exact q⟩
theorem none_sh : SeqAt.shaped (.str "none") = true := by decide +kernel
theorem sum_ge1 : ∀ {ls : List Nat}, (∀ l ∈ ls, 1 ≤ l) → ls.length ≤ ls.sum
  | [], _ => Nat.le_refl _
  | l :: ls, h => by
    have h1 := h l (by simp)
    have h2 := sum_ge1 (ls := ls) fun z hz => h z (by simp [hz])
    rw [List.sum_cons, List.length_cons]
    omega
def spLaw (K : PySem.W.Frag) : Sp := fun vs H Q _ => ∃ (a : Addr) (ns : List Int), vs = [.ref a] ∧ SqL K H a (ns.map V.int) ∧ ns.length ≤ 63 ∧ (∀ z ∈ ns, Builtin.Int.intBits z ≤ 1048576) ∧ ∀ H', Q (.bl true) H'
set_option maxHeartbeats 4000000 in
theorem ok_law {P : Program} {w : World} {K : PySem.W.Frag} {mg : Str → Option Value} {base : Heap} (T : T P K mg) : FnOk P w K mg base CX0 8 T.a_law T.fd_law ["script"] (spLaw K) := by
  refine T.F_law.ok sc_law (fun vs H Q E h => ?_) (fun cdv A outer s H vs Q E hr h => ?_)
  · obtain ⟨a, ns, rfl, _⟩ := h
    rfl
  · obtain ⟨c, ns, rfl, hS, hlen, hb, q⟩ := h
    refine ⟨_, (pss_cons (ps_set (i := 1) sc_law.nd rfl (by first | exact Or.inl rfl | exact Or.inr rfl) (pe_call (ok__law_numbers T) (hr.mono (by decide)) (by rfl) T.g__law_numbers T.F__law_numbers.kp T.b__law_numbers .nil pass0 (pa_cons (pv 0) (pa_cons pe_int pa_nil))))
      (pss_cons (ps_set (i := 2) sc_law.nd rfl (by first | exact Or.inl rfl | exact Or.inr rfl) (pe_lc (own := [("k", 14)]) (g := gName 14) rfl sc_law.nd (pi_range1 (by rfl) T.z_range (pa_cons (pe_op op_add pe_int (pe_call (ok__law_take T) (hr.mono (by decide)) (by rfl) T.g__law_take T.F__law_take.kp T.b__law_take .nil pass0 (pa_cons (pv 1) (pa_cons pe_int pa_nil)))) pa_nil)) (blkOk_by (own := [("k", 14)]) (N := N_law) (sc := defScope s_law) (by decide +kernel)) (fun _ _ _ _ _ => (pg_name (i := 14) sc_law.nd rfl (by first | exact Or.inl rfl | exact Or.inr rfl))) (fun _ _ _ _ _ => pts_nil) (fun _ _ _ _ _ => (pe_call (ok__law_low T) (hr.mono (by decide)) (by rfl) T.g__law_low T.F__law_low.kp T.b__law_low .nil pass0 (pa_cons (pe_call (ok__law_take T) (hr.mono (by decide)) (by rfl) T.g__law_take T.F__law_take.kp T.b__law_take .nil pass0 (pa_cons (pv 1) (pa_cons pe_int pa_nil))) (pa_cons (pe_op op_add pe_int (pe_call (ok__law_take T) (hr.mono (by decide)) (by rfl) T.g__law_take T.F__law_take.kp T.b__law_take .nil pass0 (pa_cons (pv 1) (pa_cons pe_int pa_nil)))) pa_nil))))))
      (Z.pss_consJ (ps_if (pt_cmpR op_eq (pe_call (ok__law_take T) (hr.mono (by decide)) (by rfl) T.g__law_take T.F__law_take.kp T.b__law_take .nil pass0 (pa_cons (pv 1) (pa_cons pe_int pa_nil))) pe_int (nomark _)) (pss_one (ps_set (i := 2) sc_law.nd rfl (by first | exact Or.inl rfl | exact Or.inr rfl) (pe_lc (own := [("cost", 15)]) (g := gName 15) rfl sc_law.nd (pi_list (pv 2)) (blkOk_by (own := [("cost", 15)]) (N := N_law) (sc := defScope s_law) (by decide +kernel)) (fun _ _ _ _ _ => (pg_name (i := 15) sc_law.nd rfl (by first | exact Or.inl rfl | exact Or.inr rfl))) (fun _ _ _ _ _ => pts_nil) (fun _ _ _ _ _ => (pe_ix (ix_list : IxR _ (rIxL K)) (pv 2) pe_int (fun _ _ => rfl)))))) pss_nil)
      (pss_cons (ps_setLc (i := 3) (own := [("cost", 15)]) (g := gName 15) rfl sc_law.nd rfl rfl (sw_true rfl rfl rfl (by decide +kernel)) (pi_list (pv 2)) (blkOk_by (own := [("cost", 15)]) (N := N_law) (sc := defScope s_law) (by decide +kernel)) (fun _ _ _ _ _ => (pg_name (i := 15) sc_law.nd rfl (by first | exact Or.inl rfl | exact Or.inr rfl))) (fun _ _ _ _ _ => pts_nil) (fun _ _ _ _ _ => (pe_op op_add pe_int (pe_call (ok__law_take T) (hr.mono (by decide)) (by rfl) T.g__law_take T.F__law_take.kp T.b__law_take .nil pass0 (pa_cons (pv 1) (pa_cons pe_int pa_nil))))))
      (pss_cons (ps_set (i := 4) sc_law.nd rfl (by first | exact Or.inl rfl | exact Or.inr rfl) (pe_op op_add (pe_callB c_len (by rfl) T.z_len (by decide +kernel) (pa_cons (pv 3) pa_nil)) (pe_call (ok__law_take T) (hr.mono (by decide)) (by rfl) T.g__law_take T.F__law_take.kp T.b__law_take .nil pass0 (pa_cons (pv 1) (pa_cons (pe_op op_add (pe_op op_sub (pe_callB (cr_sum rfl) (by rfl) T.z_sum (by decide +kernel) (pa_cons (pv 3) pa_nil)) (pe_callB c_len (by rfl) T.z_len (by decide +kernel) (pa_cons (pv 3) pa_nil))) pe_int) pa_nil)))))
      (Z.pss_consJ (ps_if (pt_cmpR op_eq (pe_call (ok__law_take T) (hr.mono (by decide)) (by rfl) T.g__law_take T.F__law_take.kp T.b__law_take .nil pass0 (pa_cons (pv 1) (pa_cons pe_int pa_nil))) pe_int (nomark _)) (pss_one (ps_set (i := 4) sc_law.nd rfl (by first | exact Or.inl rfl | exact Or.inr rfl) (pe_ix ix_list (pe_lst (pa_cons pe_int (pa_cons (pe_op op_sub (pe_callB c_len (by rfl) T.z_len (by decide +kernel) (pa_cons (pv 3) pa_nil)) pe_int) (pa_cons (pe_op op_add (pe_callB (cr_sum rfl) (by rfl) T.z_sum (by decide +kernel) (pa_cons (pv 3) pa_nil)) pe_int) pa_nil)))) (pe_call (ok__law_take T) (hr.mono (by decide)) (by rfl) T.g__law_take T.F__law_take.kp T.b__law_take .nil pass0 (pa_cons (pv 1) (pa_cons pe_int pa_nil))) (fun _ _ => rfl)))) pss_nil)
      (pss_cons (ps_par (i := 5) (j := 6) rfl sc_law.nd rfl rfl (by decide) rfl rfl (pa_cons (pe_callTy c_list (by rfl) T.z_list (by decide +kernel) (pa_cons (pv 2) pa_nil)) (pa_cons (pe_callTy c_list (by rfl) T.z_list (by decide +kernel) (pa_cons (pv 3) pa_nil)) pa_nil)) (by rfl))
      (pss_cons (ps_set (i := 7) sc_law.nd rfl (by first | exact Or.inl rfl | exact Or.inr rfl) (pe_call (ok__law_told T) (hr.mono (by decide)) (by rfl) T.g__law_told T.F__law_told.kp T.b__law_told .nil pass0 (pa_cons (pv 5) (pa_cons (pv 6) (pa_cons (pv 4) pa_nil)))))
      (pss_cons (ps_set (i := 8) sc_law.nd rfl (by first | exact Or.inl rfl | exact Or.inr rfl) (pe_call (ok__law_deals T) (hr.mono (by decide)) (by rfl) T.g__law_deals T.F__law_deals.kp T.b__law_deals .nil pass0 (pa_cons (pv 3) (pa_cons (pv 4) pa_nil))))
      (pss_cons (ps_if (pt_cmpR (op_eqD hr.units) (pv 8) (pe_lst pa_nil) (nomark _)) (pss_one (ps_ret (pe_and (pe_cmpR (op_eqD hr.units) (pv 7) pe_str (nomark _)) (pe_one (pe_not (pe_call (ok_is_deal T) (hr.mono (by decide)) (by rfl) T.g_is_deal T.F_is_deal.kp T.b_is_deal .nil pass0 (pa_cons (pv 6) (pa_cons (pv 4) (pa_cons (pe_lc (own := [("limit", 16)]) (g := gName 16) rfl sc_law.nd (pi_list (pv 3)) (blkOk_by (own := [("limit", 16)]) (N := N_law) (sc := defScope s_law) (by decide +kernel)) (fun _ _ _ _ _ => (pg_name (i := 16) sc_law.nd rfl (by first | exact Or.inl rfl | exact Or.inr rfl))) (fun _ _ _ _ _ => pts_nil) (fun _ _ _ _ _ => pe_int)) pa_nil))))))))) pss_nil)
      (pss_cons (ps_if (PW.pt (pw_or (pt_cmpR (op_neD hr.units) (pv 7) (pe_call (ok__law_greedy T) (hr.mono (by decide)) (by rfl) T.g__law_greedy T.F__law_greedy.kp T.b__law_greedy .nil pass0 (pa_cons (pv 2) (pa_cons (pv 3) (pa_cons (pv 4) pa_nil)))) (nomark _)) (pw_or1 (pt_not (pt_val (pe_callB call_isi (by rfl) T.z_isinstance (by decide +kernel) (pa_cons (pv 7) (pa_cons (pe_bltn (v := .ty "tuple") (by rfl) T.z_tuple (by decide +kernel) rfl) pa_nil)))))))) (pss_one (ps_ret pe_bl)) pss_nil)
      (pss_cons (ps_set (i := 9) sc_law.nd rfl (by first | exact Or.inl rfl | exact Or.inr rfl) (pe_call (ok__law_variance T) (hr.mono (by decide)) (by rfl) T.g__law_variance T.F__law_variance.kp T.b__law_variance .nil pass0 (pa_cons (pv 2) (pa_cons (pe_ix ix_tup (pv 7) pe_int (fun _ _ => rfl)) pa_nil))))
      (pss_cons (ps_for PassesOwn.never rfl (pi_list (pv 8)) (pg_name (i := 10) sc_law.nd rfl (by first | exact Or.inl rfl | exact Or.inr rfl)) (pss_one (ps_if (PW.pt (pw_or (pt_not (pt_val (pe_call (ok_is_deal T) (hr.mono (by decide)) (by rfl) T.g_is_deal T.F_is_deal.kp T.b_is_deal .nil pass0 (pa_cons (pv 6) (pa_cons (pv 4) (pa_cons (pe_callTy c_list (by rfl) T.z_list (by decide +kernel) (pa_cons (pv 10) pa_nil)) pa_nil)))))) (pw_or1 (pt_val (pe_call (ok__law_less T) (hr.mono (by decide)) (by rfl) T.g__law_less T.F__law_less.kp T.b__law_less .nil pass0 (pa_cons (pe_call (ok__law_variance T) (hr.mono (by decide)) (by rfl) T.g__law_variance T.F__law_variance.kp T.b__law_variance .nil pass0 (pa_cons (pv 2) (pa_cons (pv 10) pa_nil))) (pa_cons (pv 9) pa_nil))))))) (pss_one (ps_ret pe_bl)) pss_nil)))
      (pss_cons (ps_if (PW.pt (pw_or (pt_cmpR (op_neD hr.units) (pe_call (ok_variance_of T) (hr.mono (by decide)) (by rfl) T.g_variance_of T.F_variance_of.kp T.b_variance_of .nil pass0 (pa_cons (pv 5) (pa_cons (pe_callTy c_list (by rfl) T.z_list (by decide +kernel) (pa_cons (pe_ix ix_list (pv 8) pe_int (fun _ _ => rfl)) pa_nil)) pa_nil))) (pe_call (ok__law_variance T) (hr.mono (by decide)) (by rfl) T.g__law_variance T.F__law_variance.kp T.b__law_variance .nil pass0 (pa_cons (pv 2) (pa_cons (pe_ix ix_list (pv 8) pe_int (fun _ _ => rfl)) pa_nil))) (nomark _)) (pw_or1 (pt_cmpR (op_neD hr.units) (pe_call (ok_deal_bound T) (hr.mono (by decide)) (by rfl) T.g_deal_bound T.F_deal_bound.kp T.b_deal_bound .nil pass0 (pa_cons (pv 5) (pa_cons (pv 6) (pa_cons (pv 4) (pa_cons (pe_ix ix_tup (pv 7) pe_int (fun _ _ => rfl)) pa_nil))))) (pv 9) (nomark _))))) (pss_one (ps_ret pe_bl)) pss_nil)
      (pss_cons (ps_for PassesOwn.never rfl (pi_range1 (by rfl) T.z_range (pa_cons pe_int pa_nil)) (pg_name (i := 11) sc_law.nd rfl (by first | exact Or.inl rfl | exact Or.inr rfl)) (pss_cons (ps_set (i := 12) sc_law.nd rfl (by first | exact Or.inl rfl | exact Or.inr rfl) (pe_call (ok__law_low T) (hr.mono (by decide)) (by rfl) T.g__law_low T.F__law_low.kp T.b__law_low .nil pass0 (pa_cons (pe_call (ok__law_take T) (hr.mono (by decide)) (by rfl) T.g__law_take T.F__law_take.kp T.b__law_take .nil pass0 (pa_cons (pv 1) (pa_cons pe_int pa_nil))) (pa_cons (pe_op op_add pe_int (pe_call (ok__law_take T) (hr.mono (by decide)) (by rfl) T.g__law_take T.F__law_take.kp T.b__law_take .nil pass0 (pa_cons (pv 1) (pa_cons pe_int pa_nil)))) pa_nil))))
      (pss_cons (ps_set (i := 13) sc_law.nd rfl (by first | exact Or.inl rfl | exact Or.inr rfl) (pe_call (ok_deal_bound T) (hr.mono (by decide)) (by rfl) T.g_deal_bound T.F_deal_bound.kp T.b_deal_bound .nil pass0 (pa_cons (pv 5) (pa_cons (pv 6) (pa_cons (pv 4) (pa_cons (pv 12) pa_nil))))))
      (pss_cons (ps_if (PW.pt (pw_or (pt_cmpR (op_neD hr.units) (pv 13) (pe_call (ok__law_bound T) (hr.mono (by decide)) (by rfl) T.g__law_bound T.F__law_bound.kp T.b__law_bound .nil pass0 (pa_cons (pv 2) (pa_cons (pv 3) (pa_cons (pv 4) (pa_cons (pv 12) pa_nil))))) (nomark _)) (pw_or1 (pt_val (pe_call (ok__law_less T) (hr.mono (by decide)) (by rfl) T.g__law_less T.F__law_less.kp T.b__law_less .nil pass0 (pa_cons (pv 9) (pa_cons (pv 13) pa_nil))))))) (pss_one (ps_ret pe_bl)) pss_nil)
      (pss_cons (ps_set (i := 10) sc_law.nd rfl (by first | exact Or.inl rfl | exact Or.inr rfl) (pe_callTy c_list (by rfl) T.z_list (by decide +kernel) (pa_cons (pe_ix ix_list (pv 8) (pe_call (ok__law_take T) (hr.mono (by decide)) (by rfl) T.g__law_take T.F__law_take.kp T.b__law_take .nil pass0 (pa_cons (pv 1) (pa_cons (pe_callB c_len (by rfl) T.z_len (by decide +kernel) (pa_cons (pv 8) pa_nil)) pa_nil))) (fun _ _ => rfl)) pa_nil)))
      (pss_cons (ps_asg (pe_call (ok__law_take T) (hr.mono (by decide)) (by rfl) T.g__law_take T.F__law_take.kp T.b__law_take .nil pass0 (pa_cons (pv 1) (pa_cons pe_int pa_nil))) (pg_sub (pv 10) (pe_call (ok__law_take T) (hr.mono (by decide)) (by rfl) T.g__law_take T.F__law_take.kp T.b__law_take .nil pass0 (pa_cons (pv 1) (pa_cons (pe_callB c_len (by rfl) T.z_len (by decide +kernel) (pa_cons (pv 10) pa_nil)) pa_nil))) set_list))
      (pss_one (ps_if (PW.pt (pw_or (pt_cmpR op_ne (pe_call (ok_is_deal T) (hr.mono (by decide)) (by rfl) T.g_is_deal T.F_is_deal.kp T.b_is_deal .nil pass0 (pa_cons (pv 6) (pa_cons (pv 4) (pa_cons (pv 10) pa_nil)))) (pe_cmpR (op_inD (Z.u65 hr) : OpR _ _ (rInD K)) (pv 10) (pv 8) rfl) (nomark _)) (pw_or1 (pt_val (pe_call (ok_is_deal T) (hr.mono (by decide)) (by rfl) T.g_is_deal T.F_is_deal.kp T.b_is_deal .nil pass0 (pa_cons (pv 6) (pa_cons (pv 4) (pa_cons (pe_op op_cat (pv 10) (pe_lst (pa_cons pe_int pa_nil))) pa_nil)))))))) (pss_one (ps_ret pe_bl)) pss_nil))))))))
      (pss_one (ps_ret (pe_and (pe_cmpR (op_eqD hr.units) (pv 5) (pv 2) (nomark _)) (pe_one (pe_cmpR (op_eqD hr.units) (pv 6) (pv 3) (nomark _))))))))))))))))))))), ?_⟩
    walk_at "z0"
    walk_at "z"
    refine ⟨c, ns, 110, rfl, hS, by decide, hb, fun a H1 na k1 d1 => ?_⟩
    walk_at "z"
    refine ⟨a, 4, rfl, d1, by decide, by decide, fun H2 v h0 h1 k2 d2 => ?_⟩
    obtain ⟨n, hn, hn1, hn4⟩ : ∃ n : Nat, 1 + v = (n : Int) ∧ 1 ≤ n ∧ n ≤ 4 := ⟨(1 + v).toNat, by omega, by omega, by omega⟩
    refine Z.i0 ?_
    rw [hn]
    refine Z.lcr n rfl (by omega) (fun D i H' => ∃ (as : List Addr) (cs : List Fr), DrawsAt H' a ∧ H' D = some (.lst (as.map V.ref)) ∧ FrsAt K H' as cs ∧ cs.length = i ∧ (∀ c ∈ cs, CB c) ∧ a ≠ D) ?_ ?_ ?_
    · intro D H3 nD k3 e3
      exact ⟨[], [], d2.kp0 k3, e3, .nil, rfl, fun x hx => (by cases hx), d2.ne nD⟩
    · rintro D i H3 nD hi ⟨as, cs, d3, e3, F3, hl, hC, naD⟩
      dsimp only [wipe, List.set]
      walk_at "z"
      refine ⟨rfl, ?_⟩
      walk_at "z"
      refine ⟨a, 40, rfl, d3, by decide, by decide, fun H4 v4 h40 h41 k4 d4 => ?_⟩
      walk_at "z"
      refine ⟨a, 4, rfl, d4, by decide, by decide, fun H5 v5 h50 h51 k5 d5 => ?_⟩
      walk_at "z"
      refine ⟨v4, 1 + v5, rfl, by omega, Nat.lt_of_lt_of_le (show (1 + v5).natAbs < 2 ^ 3 by omega) (Nat.pow_le_pow_right (by decide) (by decide)), fun H6 b nb k6 e6 => ?_⟩
      have k45 : Kp [a] H3 H5 := k4.trans k5
      have e6D := k6.get nin0 (k45.get (nin1 naD.symm) e3)
      refine ⟨_, e6D, Z.szl (m := 1000) (by rw [List.length_map, F3.len]; omega), as ++ [b], cs ++ [lo v4 (1 + v5)], (d5.kp0 k6).put naD, by rw [upd_same, List.map_append]; rfl, ((((F3.kpd k4 d3).kpd k5 d4).kp0 k6).snoc e6).kpl (Kp.put (by simp)) e6D, by rw [List.length_append]; simp; omega, fun x hx => ?_, naD⟩
      rcases List.mem_append.mp hx with hx | hx
      · exact hC x hx
      · rw [List.mem_singleton.mp hx]; exact cost_ok h40 h41 h50 h51
    · rintro C0 H3 nC0 ⟨as0, cs0, d3, e3, F3, hl0, hC0, naC0⟩
      walk_at "z"
      refine Z.seqJ (fun σ' H' => ∃ (C : Addr) (as : List Addr) (cs : List Fr), σ' = [some (.ref c), some (.ref a), some (.ref C), none, none, none, none, none, none, none, none, none, none, none, none, none, none] ∧ DrawsAt H' a ∧ H' C = some (.lst (as.map V.ref)) ∧ FrsAt K H' as cs ∧ cs.length = n ∧ (∀ c ∈ cs, CB c) ∧ a ≠ C) ?_ ?_
      · rintro σ' H4 ⟨C, as, cs, rfl, d4, e4, F4, hl, hC, naC⟩
        have hasl : as.length = n := by rw [F4.len, hl]
        walk_at "z"
        refine Z.lcl (as.map V.ref) (lstL e4) (fun D i H' => ∃ ls : List Nat, DrawsAt H' a ∧ Kp [a] H4 H' ∧ H' D = some (.lst (vN ls)) ∧ ls.length = i ∧ (∀ l ∈ ls, 1 ≤ l ∧ l ≤ 9) ∧ a ≠ D) ?_ ?_ ?_ ?_
        · intro D H5 nD k5 e5
          exact ⟨[], d4.kp0 k5, k5.sub (by simp), e5, rfl, fun x hx => (by cases hx), d4.ne nD⟩
        · rintro D i H5 nD hi ⟨ls, d5, k5, _⟩
          exact lstL (k5.get (nin1 naC.symm) e4)
        · rintro D i v H5 nD hv ⟨ls, d5, k5, e5, hll, hlb, naD⟩
          have hi : i < as.length := by have := (List.getElem?_eq_some_iff.mp hv).1; rwa [List.length_map] at this
          dsimp only [wipe, List.set]
          walk_at "z"
          refine ⟨rfl, ?_⟩
          walk_at "z"
          refine ⟨a, 5, rfl, d5, by decide, by decide, fun H6 v6 h60 h61 k6 d6 => ?_⟩
          have e6 := k6.get (nin1 naD.symm) e5
          have ev : (1 : Int) + v6 = ((v6.toNat + 1 : Nat) : Int) := by omega
          refine Z.i0 ?_
          rw [ev]
          refine ⟨_, e6, Z.szl (m := 1000) (by rw [vN_len]; omega), ls ++ [v6.toNat + 1], d6.put naD, (k5.trans k6).mut nD rfl, by rw [upd_same, vN_app]; rfl, by rw [List.length_append]; simp; omega, fun x hx => ?_, naD⟩
          rcases List.mem_append.mp hx with hx | hx
          · exact hlb x hx
          · rw [List.mem_singleton.mp hx]; omega
        · rintro L H5 nL ⟨ls, d5, k5, e5, hll, hlb, naL⟩
          rw [List.length_map, hasl] at hll
          have hCs : CsOk cs ls := ⟨by omega, hC, hlb⟩
          have hs1 := sum_ge1 fun l hl => (hlb l hl).1
          have hs9 := sum_le9 fun l hl => (hlb l hl).2
          have e5C := k5.get (nin1 naC.symm) e4
          have F5 := F4.kpd k5 d4
          walk_at "z"
          refine Z.lenL (lstL e5) ?_
          rw [vN_len]
          walk_at "z"
          refine Z.sumL (ns := nints ls) (lstL e5) ?_
          rw [ints_sum]
          walk_at "z"
          refine Z.lenL (lstL e5) ?_
          rw [vN_len]
          walk_at "z"
          refine ⟨a, _, rfl, d5, by omega, by omega, fun H6 v6 h60 h61 k6 d6 => ?_⟩
          walk_at "z"
          refine Z.seqJ (fun σ' H' => ∃ m : Int, σ' = [some (.ref c), some (.ref a), some (.ref C), some (.ref L), some (.int m), none, none, none, none, none, none, none, none, none, none, none, none] ∧ 0 ≤ m ∧ m < 100 ∧ Kp [a] H5 H' ∧ DrawsAt H' a) ?_ ?_
          · rintro σ' H7 ⟨m, rfl, hm0, hm1, k7, d7⟩
            have e7C := k7.get (nin1 naC.symm) e5C
            have e7L := k7.get (nin1 naL.symm) e5
            have F7 := F5.kpd k7 d5
            walk_at "z"
            refine ⟨C, _, rfl, .inl (lstL e7C), fun G nG => ?_⟩
            have k8 : Kp [] H7 (upd H7 G (.lst (as.map V.ref))) := Kp.new nG
            have e8 : upd H7 G (.lst (as.map V.ref)) G = some (.lst (as.map V.ref)) := upd_same
            have naG : a ≠ G := d7.ne nG
            generalize upd H7 G (.lst (as.map V.ref)) = H8 at k8 e8 ⊢
            walk_at "z"
            refine ⟨L, _, rfl, .inl (lstL (k8.get nin0 e7L)), fun B nB => ?_⟩
            have naB : a ≠ B := (d7.kp0 k8).ne nB
            have k9 : Kp [] H8 (upd H8 B (.lst (vN ls))) := Kp.new nB
            have e9 : upd H8 B (.lst (vN ls)) B = some (.lst (vN ls)) := upd_same
            generalize upd H8 B (.lst (vN ls)) = H9 at k9 e9 ⊢
            have e9G := k9.get nin0 e8
            have k79 := k8.trans k9
            have e9C := k79.get nin0 e7C
            have e9L := k79.get nin0 e7L
            have F9 := F7.kp0 k79
            have d9 := d7.kp0 k79
            have hl9 : ∀ l ∈ ls, l ≤ 9 := fun l hl => (hlb l hl).2
            walk_at "z"
            refine ⟨G, B, as, cs, ls, m, rfl, lstL e9G, F9, lstL e9, hCs, by omega, fun hno => ?_, fun r hr hs H10 t N p nt k10 eT => ?_⟩
            · walk_at "z"
              refine ⟨L, ls, m, rfl, lstL e9L, by omega, hl9, fun H10 P das nP k10 eP LP hnP => ?_⟩
              walk_at "z"
              refine Z.lstK (fun M H11 nM k11 e11 => ?_)
              refine eqNilLL (k11.get nin0 eP) (LP.kp0 k11) e11 ?_
              rw [deals_none hno, List.isEmpty_nil]
              walk_at "z"
              refine eqStrD none_sh ?_
              walk_at "z"
              have k911 := k10.trans k11
              refine Z.lcl (vN ls) (lstL (k911.get nin0 e9L)) (fun D i H' => Kp [] H11 H' ∧ H' D = some (.lst (vN (ones (ls.take i))))) ?_ ?_ ?_ ?_
              · intro D H12 nD k12 e12
                exact ⟨k12, e12⟩
              · rintro D i H12 nD hi ⟨k12, e12⟩
                exact lstL (k12.get nin0 (k911.get nin0 e9L))
              · rintro D i v H12 nD hv ⟨k12, e12⟩
                obtain ⟨l, hl', rfl⟩ := vN_at hv
                have hi : i < ls.length := (List.getElem?_eq_some_iff.mp hl').1
                dsimp only [wipe, List.set]
                walk_at "z"
                refine ⟨rfl, ?_⟩
                walk_at "z"
                refine ⟨_, e12, Z.szl (m := 1000) (by rw [vN_len, ones_len, List.length_take]; omega), k12.mut nD rfl, ?_⟩
                rw [upd_same, List.take_add_one, hl']
                unfold ones
                rw [List.map_append, vN_app]
                rfl
              · rintro D H12 nD ⟨k12, e12⟩
                rw [vN_len, List.take_length] at e12
                walk_at "z"
                refine ⟨B, D, ls, ones ls, m, rfl, lstL (k12.get nin0 (k911.get nin0 e9)), lstL e12, fun H13 k13 => ?_⟩
                rw [ones_no (fun l hl => (hlb l hl).1) hno]
                walk_at "z"
                exact q _
            · subst hr
              have dk := dealAt_ok hCs hs
              have e10L := k10.get nin0 e9L
              have hmr : ((ls.length : Int) + (r : Int)) = ((ls.length + r : Nat) : Int) := by omega
              walk_at "z"
              refine ⟨L, ls, _, rfl, lstL e10L, by omega, hl9, fun H11 P das nP k11 eP LP hnP => ?_⟩
              have hmemT : (dealAt cs ls r).1 ∈ dealsL ls ((ls.length : Int) + (r : Int)) := mem_deals.mpr ⟨dk.I, by rw [dk.sum]; omega⟩
              walk_at "z"
              refine Z.lstK (fun M H12 nM k12 e12 => ?_)
              refine eqNilLL (k12.get nin0 eP) (LP.kp0 k12) e12 ?_
              have hne : (dealsL ls ((ls.length : Int) + (r : Int))).isEmpty = false := by
                cases e : dealsL ls ((ls.length : Int) + (r : Int)) with
                | nil => rw [e] at hmemT; cases hmemT
                | cons _ _ => rfl
              rw [hne]
              have k102 := k11.trans k12
              have k902 := k10.trans k102
              have T12 := eT.kp0 k102
              walk_at "z"
              refine ⟨C, L, as, cs, ls, r, rfl, lstL (k902.get nin0 e9C), F9.kp0 k902, lstL (k902.get nin0 e9L), hCs, by omega, hs, fun H13 t2 N2 p2 k13 eT2 => ?_⟩
              have T13 := T12.kp0 k13
              refine neTT T13 eT2 ?_
              walk_at "z"
              refine Z.isi (b := true) (tyTup (tupT T13.t)) (by rfl) ?_
              walk_at "z"
              refine Z.ixT (tupT T13.t) rfl ?_
              walk_at "z"
              have k903 := k902.trans k13
              have hbT := in_bnd hCs dk.I
              have hTl := dk.I.len
              refine ⟨C, N, as, cs, _, rfl, lstL (k903.get nin0 e9C), F9.kp0 k903, lstL T13.N, by omega, by omega, hC, hbT, fun H14 le k14 ele => ?_⟩
              have hvT := var_rv hC hbT
              have leB := hvT.2.2 (by omega) (by omega)
              have hstr := strongD hCs hs
              have k904 := k903.trans k14
              have P14 := (k13.trans k14).get nin0 (k12.get nin0 eP)
              have LP14 := LP.kp0 (k12.trans (k13.trans k14))
              have e14B := k904.get nin0 e9
              have e14C := k904.get nin0 e9C
              have e14G := k904.get nin0 e9G
              have e14L := k904.get nin0 e9L
              have F14 := F9.kp0 k904
              have d14 := d9.kp0 k904
              have T14 := T13.kp0 k14
              walk_at "z"
              refine Z.forl (das.map V.ref) (lstL P14) (fun j σ' H' => ∃ y10, σ' = [some (.ref c), some (.ref a), some (.ref C), some (.ref L), some (.int ((ls.length : Int) + (r : Int))), some (.ref G), some (.ref B), some (.ref t), some (.ref P), some (.ref le), y10, none, none, none, none, none, none] ∧ Kp [] H14 H') ⟨_, rfl, Kp.refl _⟩ ?_ ?_ ?_
              · rintro j σ' H15 hj ⟨y10, rfl, k15⟩
                exact lstL (k15.get nin0 P14)
              · rintro j v σ' H15 hv ⟨y10, rfl, k15⟩
                obtain ⟨oa, one, rfl, hoa, hone, eone⟩ := (LP14.kp0 k15).get hv
                have hom := mem_deals.mp (List.mem_of_getElem? hone)
                have hob := in_bnd hCs hom.1
                have hol := hom.1.len
                walk_at "z"
                refine ⟨oa, _, rfl, .inl (lstL eone), fun cc ncc => ?_⟩
                have k16 : Kp [] H15 (upd H15 cc (.lst (vN one))) := Kp.new ncc
                have e16 : upd H15 cc (.lst (vN one)) cc = some (.lst (vN one)) := upd_same
                generalize upd H15 cc (.lst (vN one)) = H16 at k16 e16 ⊢
                have k156 := k15.trans k16
                walk_at "z"
                refine ⟨B, cc, ls, one, _, rfl, lstL (k156.get nin0 e14B), lstL e16, fun H17 k17 => ?_⟩
                rw [isDeal_iff.mpr hom]
                have k157 := k156.trans k17
                walk_at "z"
                refine ⟨C, oa, as, cs, one, rfl, lstL (k157.get nin0 e14C), F14.kp0 k157, lstL ((k16.trans k17).get nin0 eone), by omega, by omega, hC, hob, fun H18 x k18 ex => ?_⟩
                walk_at "z"
                have hvo := var_rv hC hob
                have xB := hvo.2.2 (by omega) (by omega)
                refine ⟨x, le, _, _, rfl, ex, (ele.kp0 k157).kp0 k18, xB.mono (by decide), leB.mono (by decide), ?_⟩
                have hw := weakD (t := rv (dealAt cs ls r).2) hCs hom.1
                have esum : one.sum = ls.length + r := by have := hom.2; omega
                rw [esum, hstr] at hw
                rw [fless_iff hvo.2.1.1 hvT.2.1.1, hvo.1, hvT.1, decide_eq_false (by grind)]
                walk_at "z"
                exact ⟨_, rfl, k157.trans k18⟩
              · rintro σ' H15 ⟨y10, rfl, k15⟩
                have hdl : das.length = (dealsL ls ((ls.length : Int) + (r : Int))).length := LP14.len
                have hdp : 0 < das.length := by
                  rw [hdl]
                  exact List.length_pos_of_mem hmemT
                have hd0 : (das.map V.ref)[0]? = some (.ref das[0]) := by rw [List.getElem?_map, List.getElem?_eq_getElem hdp]; rfl
                obtain ⟨oa, one, e9v, hoa, hone, eone⟩ := (LP14.kp0 k15).get hd0
                cases e9v
                generalize das[0] = oa at hd0 hoa eone
                have hom := mem_deals.mp (List.mem_of_getElem? hone)
                have hob := in_bnd hCs hom.1
                have hol := hom.1.len
                have P15 := k15.get nin0 P14
                walk_at "z"
                refine Z.ixL (j := ((0 : Nat) : Int)) (lstL P15) (atI_nat hd0) ?_
                walk_at "z"
                refine ⟨oa, _, rfl, .inl (lstL eone), fun cc ncc => ?_⟩
                have k16 : Kp [] H15 (upd H15 cc (.lst (vN one))) := Kp.new ncc
                have e16 : upd H15 cc (.lst (vN one)) cc = some (.lst (vN one)) := upd_same
                generalize upd H15 cc (.lst (vN one)) = H16 at k16 e16 ⊢
                have k156 := k15.trans k16
                walk_at "z"
                refine ⟨G, cc, as, cs, one, rfl, lstL (k156.get nin0 e14G), F14.kp0 k156, lstL e16, by omega, by omega, hC, hob, fun H17 x k17 ex => ?_⟩
                have k157 := k156.trans k17
                walk_at "z"
                refine Z.ixL (j := ((0 : Nat) : Int)) (lstL (k157.get nin0 P14)) (atI_nat hd0) ?_
                walk_at "z"
                refine ⟨C, oa, as, cs, one, rfl, lstL (k157.get nin0 e14C), F14.kp0 k157, lstL ((k16.trans k17).get nin0 eone), by omega, by omega, hC, hob, fun H18 x2 k18 ex2 => ?_⟩
                refine neFF (ex.kp0 k18) ex2 ?_
                have k158 := k157.trans k18
                have T18 := T14.kp0 k158
                walk_at "z"
                refine Z.ixT (tupT T18.t) rfl ?_
                walk_at "z"
                have hmB : ((ls.length : Int) + (r : Int)).natAbs < 2 ^ 10 := by omega
                have mcast : (((ls.length : Int) + (r : Int) : Int) : Rat) = (((ls.length + r : Nat)) : Rat) := by exact_mod_cast rfl
                refine ⟨G, B, p, as, cs, ls, _, _, rfl, lstL (k158.get nin0 e14G), F14.kp0 k158, lstL (k158.get nin0 e14B), hCs, by omega, hmB, T18.p, ⟨dk.L.1, dk.B.mono (by decide)⟩, fun H19 z f k19 ez fL fB fv => ?_⟩
                have k159 := k158.trans k19
                obtain rfl : f = fsum (0, 1) (vterms cs (dealAt cs ls r).1) := low_eq fL hvT.2.1 (by rw [fv, mcast, hstr, hvT.1])
                walk_at "z"
                refine neFF ez (ele.kp0 k159) ?_
                have d19 := d14.kp0 k159
                have e19P := k159.get nin0 P14
                have e19B := k159.get nin0 e14B
                have e19C := k159.get nin0 e14C
                have e19G := k159.get nin0 e14G
                have e19L := k159.get nin0 e14L
                have F19 := F14.kp0 k159
                have le19 := ele.kp0 k159
                have LP19 := LP14.kp0 k159
                have naP : a ≠ P := ((d9.kp0 k10)).ne nP
                have hnDa : ∀ x ∈ das, x ∉ [a] := fun x hx => nin1 fun z => (d9.kp0 k10).ne (hnP x hx).1 z.symm
                walk_at "z"
                have hdl2 : das.length ≤ 6561 := by
                  rw [hdl]
                  refine Nat.le_trans (List.length_filter_le _ _) ?_
                  have := allL_len hl9 ls.length
                  rw [List.take_length] at this
                  exact Nat.le_trans this (Nat.le_trans (Nat.pow_le_pow_right (by decide) (show ls.length ≤ 4 by omega)) (by decide))
                have naC' := naC.symm
                have naL' := naL.symm
                have naB' := naB.symm
                have naG' := naG.symm
                have naP' := naP.symm
                refine Z.forr 4 (by rfl) (by decide) (fun i σ' H' => ∃ y10 y11 y12 y13, σ' = [some (.ref c), some (.ref a), some (.ref C), some (.ref L), some (.int ((ls.length : Int) + (r : Int))), some (.ref G), some (.ref B), some (.ref t), some (.ref P), some (.ref le), y10, y11, y12, y13, none, none, none] ∧ Kp [a] H19 H' ∧ DrawsAt H' a) ⟨_, _, _, _, rfl, Kp.refl _, d19⟩ ?_ ?_
                · rintro i σ' H20 hi ⟨y10, y11, y12, y13, rfl, k20, d20⟩
                  walk_at "z"
                  refine ⟨a, 30, rfl, d20, by decide, by decide, fun H21 v21 h210 h211 k21 d21 => ?_⟩
                  walk_at "z"
                  refine ⟨a, 7, rfl, d21, by decide, by decide, fun H22 v22 h220 h221 k22 d22 => ?_⟩
                  walk_at "z"
                  refine ⟨v21, 1 + v22, rfl, by omega, Nat.lt_of_lt_of_le (show (1 + v22).natAbs < 2 ^ 3 by omega) (Nat.pow_le_pow_right (by decide) (by decide)), fun H23 pa npa k23 epa => ?_⟩
                  have pPB : PB (lo v21 (1 + v22)) := ⟨(lo_low (by omega)).1, (lo_B (n := 6) (by omega) (by omega) (by omega)).mono (by decide)⟩
                  have k193 : Kp [a] H19 H23 := k20.trans (k21.trans (k22.trans (k23.sub (by simp))))
                  have d23 := d22.kp0 k23
                  have e23B := k193.get (nin1 naB') e19B
                  have e23C := k193.get (nin1 naC') e19C
                  have e23G := k193.get (nin1 naG') e19G
                  have e23L := k193.get (nin1 naL') e19L
                  have e23P := k193.get (nin1 naP') e19P
                  have F23 := F19.kpd k193 d19
                  have le23 := le19.kpd k193 d19
                  have LP23 := LP19.kp k193 hnDa
                  revert pPB epa
                  generalize lo v21 (1 + v22) = pr
                  intro epa pPB
                  walk_at "z"
                  refine ⟨G, B, pa, as, cs, ls, _, pr, rfl, lstL e23G, F23, lstL e23B, hCs, by omega, hmB, epa, pPB, fun H24 ba fb k24 eb bL bB bv => ?_⟩
                  walk_at "z"
                  refine ⟨C, L, pa, as, cs, ls, _, pr, rfl, lstL (k24.get nin0 e23C), F23.kp0 k24, lstL (k24.get nin0 e23L), hCs, by omega, hmB, epa.kp0 k24, pPB, fun H25 ba2 fb2 k25 eb2 bL2 bB2 bv2 => ?_⟩
                  obtain rfl : fb2 = fb := low_eq bL2 bL (by rw [bv2, bv])
                  refine neFF (eb.kp0 k25) eb2 ?_
                  have k235 := k24.trans k25
                  walk_at "z"
                  refine ⟨le, ba, _, fb2, rfl, le23.kp0 k235, eb.kp0 k25, leB.mono (by decide), bB.mono (by decide), ?_⟩
                  have hw := weakD (t := rv pr) hCs dk.I
                  rw [dk.sum] at hw
                  rw [fless_iff hvT.2.1.1 bL.1, hvT.1, bv, mcast, decide_eq_false (by grind)]
                  have e25P := k235.get nin0 e23P
                  have d25 := d23.kp0 k235
                  walk_at "z"
                  refine Z.lenL (lstL e25P) ?_
                  rw [List.length_map]
                  walk_at "z"
                  refine ⟨a, _, rfl, d25, by omega, by omega, fun H26 v26 h260 h261 k26 d26 => ?_⟩
                  obtain ⟨j, rfl⟩ : ∃ j : Nat, v26 = (j : Int) := ⟨v26.toNat, by omega⟩
                  have e26P := k26.get (nin1 naP') e25P
                  have LP26 := (LP23.kp0 k235).kp k26 hnDa
                  have hjv : (das.map V.ref)[j]? = some (.ref (das[j]'(by omega))) := by rw [List.getElem?_map, List.getElem?_eq_getElem (by omega)]; rfl
                  obtain ⟨ob, two, e9v, hob2, htwo, etwo⟩ := LP26.get hjv
                  have hobe : das[j]'(by omega) = ob := by cases e9v; rfl
                  rw [hobe] at hjv
                  have htm := mem_deals.mp (List.mem_of_getElem? htwo)
                  have htl := htm.1.len
                  refine Z.ixL (lstL e26P) (atI_nat hjv) ?_
                  walk_at "z"
                  refine ⟨ob, _, rfl, .inl (lstL etwo), fun nl nnl => ?_⟩
                  have k27 : Kp [] H26 (upd H26 nl (.lst (vN two))) := Kp.new nnl
                  have e27 : upd H26 nl (.lst (vN two)) nl = some (.lst (vN two)) := upd_same
                  have nanl : a ≠ nl := d26.ne nnl
                  generalize upd H26 nl (.lst (vN two)) = H27 at k27 e27 ⊢
                  have d27 := d26.kp0 k27
                  walk_at "z"
                  refine ⟨a, 8, rfl, d27, by decide, by decide, fun H28 v28 h280 h281 k28 d28 => ?_⟩
                  have e28 := k28.get (nin1 nanl.symm) e27
                  walk_at "z"
                  refine Z.lenL (lstL e28) ?_
                  rw [vN_len]
                  walk_at "z"
                  refine ⟨a, _, rfl, d28, by omega, by omega, fun H29 v29 h290 h291 k29 d29 => ?_⟩
                  have e29 := k29.get (nin1 nanl.symm) e28
                  obtain ⟨x, rfl⟩ : ∃ x : Nat, v29 = (x : Int) := ⟨v29.toNat, by omega⟩
                  obtain ⟨w, rfl⟩ : ∃ w : Nat, v28 = (w : Int) := ⟨v28.toNat, by omega⟩
                  refine Z.setL e29 (ixN_nat (by rw [vN_len]; omega)) ?_
                  rw [vN_set]
                  have k269 : Kp [a] H26 H29 := (k27.sub (by simp)).trans (k28.trans k29)
                  have e29P := k269.get (nin1 naP') e26P
                  have LP29 := LP26.kp k269 hnDa
                  have k199 : Kp [a] H19 H29 := k193.trans ((k235.sub (by simp)).trans (k26.trans k269))
                  have e29B := k199.get (nin1 naB') e19B
                  have nBn : B ≠ nl := fun z => by
                    have := k26.get (nin1 naB') (k235.get nin0 e23B)
                    rw [z, nnl] at this
                    cases this
                  have nPn : P ≠ nl := fun z => by rw [z, nnl] at e26P; cases e26P
                  have nDn : ∀ y ∈ das, y ∉ [nl] := fun y hy => nin1 fun z => by
                    obtain ⟨xs, e⟩ := LP26.mem hy
                    rw [z, nnl] at e
                    cases e
                  have n19 : H19 nl = none := (k193.trans ((k235.sub (by simp)).trans k26)).none (nin1 nanl.symm) nnl
                  have kU : Kp [nl] H29 (upd H29 nl (.lst (vN (two.set x w)))) := Kp.put (by simp)
                  have eU : upd H29 nl (.lst (vN (two.set x w))) nl = some (.lst (vN (two.set x w))) := upd_same
                  have k190 : Kp [a] H19 (upd H29 nl (.lst (vN (two.set x w)))) := k199.mut n19 rfl
                  have d30 : DrawsAt (upd H29 nl (.lst (vN (two.set x w)))) a := d29.put nanl
                  generalize upd H29 nl (.lst (vN (two.set x w))) = H30 at kU eU k190 d30 ⊢
                  have hl' : (two.set x w).length = ls.length := by rw [List.length_set]; exact htl.symm
                  generalize two.set x w = three at eU hl' ⊢
                  have e30B := kU.get (nin1 nBn) e29B
                  have e30P := kU.get (nin1 nPn) e29P
                  have LP30 := LP29.kp kU nDn
                  walk_at "z"
                  refine ⟨B, nl, ls, three, _, rfl, lstL e30B, lstL eU, fun H31 k31 => ?_⟩
                  walk_at "z"
                  refine ⟨nsD three, (dealsL ls ((ls.length : Int) + (r : Int))).map nsD, dpN (lstL (k31.get nin0 eU)), .lst (lstL (k31.get nin0 e30P)) (dpLL (LP30.kp0 k31)), shN _, shLL _, ?_⟩
                  rw [any_ns, isDeal_mem]
                  walk_at "z"
                  rw [decide_eq_true rfl]
                  walk_at "z"
                  refine Z.lstK (fun M H32 nM k32 e32 => ?_)
                  refine Z.cat (k32.get nin0 (k31.get nin0 eU)) e32 (by rw [vN_len]; simp; omega) (fun M2 H33 nM2 k33 e33 => ?_)
                  have e33' : H33 M2 = some (.lst (vN (three ++ [1]))) := by rw [e33, vN_app]; rfl
                  have k313 := k31.trans (k32.trans k33)
                  walk_at "z"
                  refine ⟨B, M2, ls, three ++ [1], _, rfl, lstL (k313.get nin0 e30B), lstL e33', fun H34 k34 => ?_⟩
                  have hno : isDealB ls (three ++ [1]) ((ls.length : Int) + (r : Int)) = false := by
                    cases e : isDealB ls (three ++ [1]) ((ls.length : Int) + (r : Int)) with
                    | false => rfl
                    | true =>
                      have := (isDeal_iff.mp e).1.len
                      rw [List.length_append] at this
                      simp at this
                      omega
                  rw [hno]
                  walk_at "z"
                  exact ⟨_, _, _, _, rfl, k190.trans ((k313.trans k34).sub (by simp)), d30.kp0 (k313.trans k34)⟩
                · rintro σ' H20 ⟨y10, y11, y12, y13, rfl, k20, d20⟩
                  walk_at "z"
                  refine eqFL (k20.get (nin1 naG') e19G) (k20.get (nin1 naC') e19C) (F19.kpd k20 d19) ?_
                  walk_at "z"
                  exact eqLL (ws := nints ls) (lstL (k20.get (nin1 naB') e19B)) (lstL (k20.get (nin1 naL') e19L)) (q _)
          · intro N jn
            walk_at "z"
            refine ⟨a, 6, rfl, d6, by decide, by decide, fun H7 v7 h70 h71 k7 d7 => ?_⟩
            have k57 := k6.trans k7
            walk_at "z"
            refine Z.ite (fun h2 => ?_) (fun h2 => ?_)
            · have e7L := k57.get (nin1 naL.symm) e5
              walk_at "z"
              refine Z.lenL (lstL e7L) ?_
              rw [vN_len]
              walk_at "z"
              refine Z.sumL (ns := nints ls) (lstL e7L) ?_
              rw [ints_sum]
              walk_at "z"
              refine Z.lstK (fun M H8 nM k8 e8 => ?_)
              have naM : a ≠ M := d7.ne nM
              walk_at "z"
              refine ⟨a, 3, rfl, d7.kp0 k8, by decide, by decide, fun H9 v9 h90 h91 k9 d9 => ?_⟩
              obtain ⟨m, hm, em⟩ := pickI [0, (ls.length : Int) - 1, ((ls.sum : Nat) : Int) + 1] h90 h91
              have hmb : 0 ≤ m ∧ m < 100 := by
                rcases List.mem_cons.mp hm with z | hm
                · omega
                · rcases List.mem_cons.mp hm with z | hm
                  · omega
                  · rw [List.mem_singleton.mp hm]; omega
              refine Z.ixL (lstL (k9.get (nin1 naM.symm) e8)) em ?_
              walk_at "z"
              exact jn _ _ ⟨m, rfl, hmb.1, hmb.2, k57.trans ((k8.sub (by simp)).trans k9), d9⟩
            · walk_at "z"
              exact jn _ _ ⟨_, rfl, by omega, by omega, k57, d7⟩
      · intro N jn
        walk_at "z"
        refine ⟨a, 3, rfl, d3, by decide, by decide, fun H4 v4 h40 h41 k4 d4 => ?_⟩
        have e4 := k4.get (nin1 naC0.symm) e3
        have F4 := F3.kpd k4 d3
        walk_at "z"
        refine Z.ite (fun h2 => ?_) (fun h2 => ?_)
        · obtain ⟨x, ex, hx⟩ := F4.at (i := 0) (by omega)
          have hcb : CB (cs0.getD 0 (0, 1)) := by
            have hc : cs0[0]? = some (cs0[0]'(by omega)) := List.getElem?_eq_getElem (by omega)
            rw [frD_of hc]
            exact hC0 _ (List.mem_of_getElem? hc)
          walk_at "z"
          refine Z.lcl (as0.map V.ref) (lstL e4) (fun D i H' => ∃ (as : List Addr) (cs : List Fr), Kp [] H4 H' ∧ H' D = some (.lst (as.map V.ref)) ∧ FrsAt K H' as cs ∧ cs.length = i ∧ (∀ c ∈ cs, CB c) ∧ a ≠ D) ?_ ?_ ?_ ?_
          · intro D H5 nD k5 e5
            exact ⟨[], [], k5, e5, .nil, rfl, fun x hx => (by cases hx), d4.ne nD⟩
          · rintro D i H5 nD hi ⟨as, cs, k5, _⟩
            exact lstL (k5.get nin0 e4)
          · rintro D i v H5 nD hv ⟨as, cs, k5, e5, F5, hl5, hC5, naD⟩
            have hi : i < as0.length := by have := (List.getElem?_eq_some_iff.mp hv).1; rwa [List.length_map] at this
            have := F4.len
            dsimp only [wipe, List.set]
            walk_at "z"
            refine ⟨rfl, ?_⟩
            walk_at "z"
            refine Z.ixL (j := ((0 : Nat) : Int)) (lstL (k5.get nin0 e4)) (atI_nat ex) ?_
            refine ⟨_, e5, Z.szl (m := 1000) (by rw [List.length_map, F5.len]; omega), as ++ [x], cs ++ [cs0.getD 0 (0, 1)], k5.mut nD rfl, by rw [upd_same, List.map_append]; rfl, (F5.snoc (hx.kp0 k5)).kpl (Kp.put (by simp)) e5, by rw [List.length_append]; simp; omega, fun y hy => ?_, naD⟩
            rcases List.mem_append.mp hy with hy | hy
            · exact hC5 y hy
            · rw [List.mem_singleton.mp hy]; exact hcb
          · rintro D H5 nD ⟨as, cs, k5, e5, F5, hl5, hC5, naD⟩
            rw [List.length_map, F4.len, hl0] at hl5
            walk_at "z"
            exact jn _ _ ⟨D, as, cs, rfl, d4.kp0 k5, e5, F5, hl5, hC5, naD⟩
        · walk_at "z"
          exact jn _ _ ⟨C0, as0, cs0, rfl, d4, e4, F4, hl0, hC0, naC0⟩

set_option maxHeartbeats 4000000 in
theorem all_mk {l : PySem.W.OpenLaw} {w : World} {K : PySem.W.Frag} {h : Heap} {mg : Str → Option Value} {fa : Addr} (X : K.In h) (G : h.Ns mainGlobals mg) (hfa : mg "law" = some (.ref fa))
    {CSamphireError : Addr}
    {CZeroDenominator fZeroDenominator cZeroDenominator ccZeroDenominator : Addr}
    {CNoDeal fNoDeal cNoDeal ccNoDeal : Addr}
    {od1 an1 : Option Addr} {sl1 : Array (Option Value)} {oc1 kV1 dc1 pm1 cd1 ct1 : Value} {f1 : Addr}
    {od2 an2 : Option Addr} {sl2 : Array (Option Value)} {oc2 kV2 dc2 pm2 cd2 ct2 : Value} {f2 : Addr}
    {od3 an3 : Option Addr} {sl3 : Array (Option Value)} {oc3 kV3 dc3 pm3 cd3 ct3 : Value} {f3 : Addr}
    {od4 an4 : Option Addr} {sl4 : Array (Option Value)} {oc4 kV4 dc4 pm4 cd4 ct4 : Value} {f4 : Addr}
    {od5 an5 : Option Addr} {sl5 : Array (Option Value)} {oc5 kV5 dc5 pm5 cd5 ct5 : Value} {f5 : Addr}
    {od6 an6 : Option Addr} {sl6 : Array (Option Value)} {oc6 kV6 dc6 pm6 cd6 ct6 : Value} {f6 : Addr}
    {od7 an7 : Option Addr} {sl7 : Array (Option Value)} {oc7 kV7 dc7 pm7 cd7 ct7 : Value} {f7 : Addr}
    {od8 an8 : Option Addr} {sl8 : Array (Option Value)} {oc8 kV8 dc8 pm8 cd8 ct8 : Value} {f8 : Addr}
    {od9 an9 : Option Addr} {sl9 : Array (Option Value)} {oc9 kV9 dc9 pm9 cd9 ct9 : Value} {f9 : Addr}
    {od10 an10 : Option Addr} {sl10 : Array (Option Value)} {oc10 kV10 dc10 pm10 cd10 ct10 : Value} {f10 : Addr}
    {od11 an11 : Option Addr} {sl11 : Array (Option Value)} {oc11 kV11 dc11 pm11 cd11 ct11 : Value} {f11 : Addr}
    {od12 an12 : Option Addr} {sl12 : Array (Option Value)} {oc12 kV12 dc12 pm12 cd12 ct12 : Value} {f12 : Addr}
    {od13 an13 : Option Addr} {sl13 : Array (Option Value)} {oc13 kV13 dc13 pm13 cd13 ct13 : Value} {f13 : Addr}
    {od14 an14 : Option Addr} {sl14 : Array (Option Value)} {oc14 kV14 dc14 pm14 cd14 ct14 : Value} {f14 : Addr}
    {od15 an15 : Option Addr} {sl15 : Array (Option Value)} {oc15 kV15 dc15 pm15 cd15 ct15 : Value} {f15 : Addr}
    {od16 an16 : Option Addr} {sl16 : Array (Option Value)} {oc16 kV16 dc16 pm16 cd16 ct16 : Value} {f16 : Addr}
    {od17 an17 : Option Addr} {sl17 : Array (Option Value)} {oc17 kV17 dc17 pm17 cd17 ct17 : Value} {f17 : Addr}
    {od18 an18 : Option Addr} {sl18 : Array (Option Value)} {oc18 kV18 dc18 pm18 cd18 ct18 : Value} {f18 : Addr}
    {od19 an19 : Option Addr} {sl19 : Array (Option Value)} {oc19 kV19 dc19 pm19 cd19 ct19 : Value} {f19 : Addr}
    {od20 an20 : Option Addr} {sl20 : Array (Option Value)} {oc20 kV20 dc20 pm20 cd20 ct20 : Value} {f20 : Addr}
    {od21 an21 : Option Addr} {sl21 : Array (Option Value)} {oc21 kV21 dc21 pm21 cd21 ct21 : Value} {f21 : Addr}
    {od22 an22 : Option Addr} {sl22 : Array (Option Value)} {oc22 kV22 dc22 pm22 cd22 ct22 : Value} {f22 : Addr}
    {od23 an23 : Option Addr} {sl23 : Array (Option Value)} {oc23 kV23 dc23 pm23 cd23 ct23 : Value} {f23 : Addr}
    {od24 an24 : Option Addr} {sl24 : Array (Option Value)} {oc24 kV24 dc24 pm24 cd24 ct24 : Value} {f24 : Addr}
    {od25 an25 : Option Addr} {sl25 : Array (Option Value)} {oc25 kV25 dc25 pm25 cd25 ct25 : Value} {f25 : Addr}
    {od26 an26 : Option Addr} {sl26 : Array (Option Value)} {oc26 kV26 dc26 pm26 cd26 ct26 : Value} {f26 : Addr}
    {od27 an27 : Option Addr} {sl27 : Array (Option Value)} {oc27 kV27 dc27 pm27 cd27 ct27 : Value} {f27 : Addr}
    {od28 an28 : Option Addr} {sl28 : Array (Option Value)} {oc28 kV28 dc28 pm28 cd28 ct28 : Value} {f28 : Addr}
    {nmZeroDenominator qZeroDenominator : Str} {NZeroDenominator : Addr} {bsZeroDenominator : List Value} {snZeroDenominator : List Str} {subZeroDenominator : List Value} {abZeroDenominator : Bool} {colZeroDenominator : Option Bool} {ddZeroDenominator : Option Addr} {m0ZeroDenominator m1ZeroDenominator m2ZeroDenominator m3ZeroDenominator m5ZeroDenominator : Option Value} {occZeroDenominator : Value} {cddZeroDenominator : Option Addr} {cvsZeroDenominator : List Value} {cslZeroDenominator : Array (Option Value)} {cclZeroDenominator : Value} {ccdZeroDenominator : Option Addr} {ccsZeroDenominator : Array (Option Value)} {ocZeroDenominator : Value} {odZeroDenominator : Option Addr} {oslZeroDenominator : Array (Option Value)} {docZeroDenominator pmZeroDenominator ctvZeroDenominator : Value}
    {nmNoDeal qNoDeal : Str} {NNoDeal : Addr} {bsNoDeal : List Value} {snNoDeal : List Str} {subNoDeal : List Value} {abNoDeal : Bool} {colNoDeal : Option Bool} {ddNoDeal : Option Addr} {m0NoDeal m1NoDeal m2NoDeal m3NoDeal m5NoDeal : Option Value} {occNoDeal : Value} {cddNoDeal : Option Addr} {cvsNoDeal : List Value} {cslNoDeal : Array (Option Value)} {cclNoDeal : Value} {ccdNoDeal : Option Addr} {ccsNoDeal : Array (Option Value)} {ocNoDeal : Value} {odNoDeal : Option Addr} {oslNoDeal : Array (Option Value)} {docNoDeal pmNoDeal ctvNoDeal : Value}
    {k_ZERO : Addr} {od_ZERO : Option Addr} {nn_ZERO : Nat} {sl_ZERO : Array (Option Value)} {t0_ZERO t1_ZERO : Tok}
    (a1 : PySem.W.nsIn K mainGlobals "lowest" = some (some (.ref f1)))
    (l1 : K.lookup f1 = some ⟨oc1, od1, .func (PySem.W.fnOf "lowest" "lowest" (defArgs s_lowest) (defBody s_lowest) (defScope s_lowest) .none kV1 dc1 pm1 an1 cd1 ct1), sl1⟩)
    (c1 : PySem.W.codeIn K cd1 "lowest" = true)
    (k1 : PySem.W.keepIn K (.ref f1) = true)
    (a2 : PySem.W.nsIn K mainGlobals "plus" = some (some (.ref f2)))
    (l2 : K.lookup f2 = some ⟨oc2, od2, .func (PySem.W.fnOf "plus" "plus" (defArgs s_plus) (defBody s_plus) (defScope s_plus) .none kV2 dc2 pm2 an2 cd2 ct2), sl2⟩)
    (c2 : PySem.W.codeIn K cd2 "plus" = true)
    (k2 : PySem.W.keepIn K (.ref f2) = true)
    (a3 : PySem.W.nsIn K mainGlobals "minus" = some (some (.ref f3)))
    (l3 : K.lookup f3 = some ⟨oc3, od3, .func (PySem.W.fnOf "minus" "minus" (defArgs s_minus) (defBody s_minus) (defScope s_minus) .none kV3 dc3 pm3 an3 cd3 ct3), sl3⟩)
    (c3 : PySem.W.codeIn K cd3 "minus" = true)
    (k3 : PySem.W.keepIn K (.ref f3) = true)
    (a4 : PySem.W.nsIn K mainGlobals "times" = some (some (.ref f4)))
    (l4 : K.lookup f4 = some ⟨oc4, od4, .func (PySem.W.fnOf "times" "times" (defArgs s_times) (defBody s_times) (defScope s_times) .none kV4 dc4 pm4 an4 cd4 ct4), sl4⟩)
    (c4 : PySem.W.codeIn K cd4 "times" = true)
    (k4 : PySem.W.keepIn K (.ref f4) = true)
    (a5 : PySem.W.nsIn K mainGlobals "over" = some (some (.ref f5)))
    (l5 : K.lookup f5 = some ⟨oc5, od5, .func (PySem.W.fnOf "over" "over" (defArgs s_over) (defBody s_over) (defScope s_over) .none kV5 dc5 pm5 an5 cd5 ct5), sl5⟩)
    (c5 : PySem.W.codeIn K cd5 "over" = true)
    (k5 : PySem.W.keepIn K (.ref f5) = true)
    (a6 : PySem.W.nsIn K mainGlobals "less" = some (some (.ref f6)))
    (l6 : K.lookup f6 = some ⟨oc6, od6, .func (PySem.W.fnOf "less" "less" (defArgs s_less) (defBody s_less) (defScope s_less) .none kV6 dc6 pm6 an6 cd6 ct6), sl6⟩)
    (c6 : PySem.W.codeIn K cd6 "less" = true)
    (k6 : PySem.W.keepIn K (.ref f6) = true)
    (a7 : PySem.W.nsIn K mainGlobals "sum_of" = some (some (.ref f7)))
    (l7 : K.lookup f7 = some ⟨oc7, od7, .func (PySem.W.fnOf "sum_of" "sum_of" (defArgs s_sum_of) (defBody s_sum_of) (defScope s_sum_of) .none kV7 dc7 pm7 an7 cd7 ct7), sl7⟩)
    (c7 : PySem.W.codeIn K cd7 "sum_of" = true)
    (k7 : PySem.W.keepIn K (.ref f7) = true)
    (a8 : PySem.W.nsIn K mainGlobals "is_deal" = some (some (.ref f8)))
    (l8 : K.lookup f8 = some ⟨oc8, od8, .func (PySem.W.fnOf "is_deal" "is_deal" (defArgs s_is_deal) (defBody s_is_deal) (defScope s_is_deal) .none kV8 dc8 pm8 an8 cd8 ct8), sl8⟩)
    (c8 : PySem.W.codeIn K cd8 "is_deal" = true)
    (k8 : PySem.W.keepIn K (.ref f8) = true)
    (a9 : PySem.W.nsIn K mainGlobals "variance_of" = some (some (.ref f9)))
    (l9 : K.lookup f9 = some ⟨oc9, od9, .func (PySem.W.fnOf "variance_of" "variance_of" (defArgs s_variance_of) (defBody s_variance_of) (defScope s_variance_of) .none kV9 dc9 pm9 an9 cd9 ct9), sl9⟩)
    (c9 : PySem.W.codeIn K cd9 "variance_of" = true)
    (k9 : PySem.W.keepIn K (.ref f9) = true)
    (a10 : PySem.W.nsIn K mainGlobals "fall" = some (some (.ref f10)))
    (l10 : K.lookup f10 = some ⟨oc10, od10, .func (PySem.W.fnOf "fall" "fall" (defArgs s_fall) (defBody s_fall) (defScope s_fall) .none kV10 dc10 pm10 an10 cd10 ct10), sl10⟩)
    (c10 : PySem.W.codeIn K cd10 "fall" = true)
    (k10 : PySem.W.keepIn K (.ref f10) = true)
    (a11 : PySem.W.nsIn K mainGlobals "steepest" = some (some (.ref f11)))
    (l11 : K.lookup f11 = some ⟨oc11, od11, .func (PySem.W.fnOf "steepest" "steepest" (defArgs s_steepest) (defBody s_steepest) (defScope s_steepest) .none kV11 dc11 pm11 an11 cd11 ct11), sl11⟩)
    (c11 : PySem.W.codeIn K cd11 "steepest" = true)
    (k11 : PySem.W.keepIn K (.ref f11) = true)
    (a12 : PySem.W.nsIn K mainGlobals "deal" = some (some (.ref f12)))
    (l12 : K.lookup f12 = some ⟨oc12, od12, .func (PySem.W.fnOf "deal" "deal" (defArgs s_deal) (defBody s_deal) (defScope s_deal) .none kV12 dc12 pm12 an12 cd12 ct12), sl12⟩)
    (c12 : PySem.W.codeIn K cd12 "deal" = true)
    (k12 : PySem.W.keepIn K (.ref f12) = true)
    (a13 : PySem.W.nsIn K mainGlobals "least_value" = some (some (.ref f13)))
    (l13 : K.lookup f13 = some ⟨oc13, od13, .func (PySem.W.fnOf "least_value" "least_value" (defArgs s_least_value) (defBody s_least_value) (defScope s_least_value) .none kV13 dc13 pm13 an13 cd13 ct13), sl13⟩)
    (c13 : PySem.W.codeIn K cd13 "least_value" = true)
    (k13 : PySem.W.keepIn K (.ref f13) = true)
    (a14 : PySem.W.nsIn K mainGlobals "deal_bound" = some (some (.ref f14)))
    (l14 : K.lookup f14 = some ⟨oc14, od14, .func (PySem.W.fnOf "deal_bound" "deal_bound" (defArgs s_deal_bound) (defBody s_deal_bound) (defScope s_deal_bound) .none kV14 dc14 pm14 an14 cd14 ct14), sl14⟩)
    (c14 : PySem.W.codeIn K cd14 "deal_bound" = true)
    (k14 : PySem.W.keepIn K (.ref f14) = true)
    (a15 : PySem.W.nsIn K mainGlobals "_law_mix" = some (some (.ref f15)))
    (l15 : K.lookup f15 = some ⟨oc15, od15, .func (PySem.W.fnOf "_law_mix" "_law_mix" (defArgs s__law_mix) (defBody s__law_mix) (defScope s__law_mix) .none kV15 dc15 pm15 an15 cd15 ct15), sl15⟩)
    (c15 : PySem.W.codeIn K cd15 "_law_mix" = true)
    (k15 : PySem.W.keepIn K (.ref f15) = true)
    (a16 : PySem.W.nsIn K mainGlobals "_law_numbers" = some (some (.ref f16)))
    (l16 : K.lookup f16 = some ⟨oc16, od16, .func (PySem.W.fnOf "_law_numbers" "_law_numbers" (defArgs s__law_numbers) (defBody s__law_numbers) (defScope s__law_numbers) .none kV16 dc16 pm16 an16 cd16 ct16), sl16⟩)
    (c16 : PySem.W.codeIn K cd16 "_law_numbers" = true)
    (k16 : PySem.W.keepIn K (.ref f16) = true)
    (a17 : PySem.W.nsIn K mainGlobals "_law_take" = some (some (.ref f17)))
    (l17 : K.lookup f17 = some ⟨oc17, od17, .func (PySem.W.fnOf "_law_take" "_law_take" (defArgs s__law_take) (defBody s__law_take) (defScope s__law_take) .none kV17 dc17 pm17 an17 cd17 ct17), sl17⟩)
    (c17 : PySem.W.codeIn K cd17 "_law_take" = true)
    (k17 : PySem.W.keepIn K (.ref f17) = true)
    (a18 : PySem.W.nsIn K mainGlobals "_law_low" = some (some (.ref f18)))
    (l18 : K.lookup f18 = some ⟨oc18, od18, .func (PySem.W.fnOf "_law_low" "_law_low" (defArgs s__law_low) (defBody s__law_low) (defScope s__law_low) .none kV18 dc18 pm18 an18 cd18 ct18), sl18⟩)
    (c18 : PySem.W.codeIn K cd18 "_law_low" = true)
    (k18 : PySem.W.keepIn K (.ref f18) = true)
    (a19 : PySem.W.nsIn K mainGlobals "_law_plus" = some (some (.ref f19)))
    (l19 : K.lookup f19 = some ⟨oc19, od19, .func (PySem.W.fnOf "_law_plus" "_law_plus" (defArgs s__law_plus) (defBody s__law_plus) (defScope s__law_plus) .none kV19 dc19 pm19 an19 cd19 ct19), sl19⟩)
    (c19 : PySem.W.codeIn K cd19 "_law_plus" = true)
    (k19 : PySem.W.keepIn K (.ref f19) = true)
    (a20 : PySem.W.nsIn K mainGlobals "_law_times" = some (some (.ref f20)))
    (l20 : K.lookup f20 = some ⟨oc20, od20, .func (PySem.W.fnOf "_law_times" "_law_times" (defArgs s__law_times) (defBody s__law_times) (defScope s__law_times) .none kV20 dc20 pm20 an20 cd20 ct20), sl20⟩)
    (c20 : PySem.W.codeIn K cd20 "_law_times" = true)
    (k20 : PySem.W.keepIn K (.ref f20) = true)
    (a21 : PySem.W.nsIn K mainGlobals "_law_less" = some (some (.ref f21)))
    (l21 : K.lookup f21 = some ⟨oc21, od21, .func (PySem.W.fnOf "_law_less" "_law_less" (defArgs s__law_less) (defBody s__law_less) (defScope s__law_less) .none kV21 dc21 pm21 an21 cd21 ct21), sl21⟩)
    (c21 : PySem.W.codeIn K cd21 "_law_less" = true)
    (k21 : PySem.W.keepIn K (.ref f21) = true)
    (a22 : PySem.W.nsIn K mainGlobals "_law_variance" = some (some (.ref f22)))
    (l22 : K.lookup f22 = some ⟨oc22, od22, .func (PySem.W.fnOf "_law_variance" "_law_variance" (defArgs s__law_variance) (defBody s__law_variance) (defScope s__law_variance) .none kV22 dc22 pm22 an22 cd22 ct22), sl22⟩)
    (c22 : PySem.W.codeIn K cd22 "_law_variance" = true)
    (k22 : PySem.W.keepIn K (.ref f22) = true)
    (a23 : PySem.W.nsIn K mainGlobals "_law_deals" = some (some (.ref f23)))
    (l23 : K.lookup f23 = some ⟨oc23, od23, .func (PySem.W.fnOf "_law_deals" "_law_deals" (defArgs s__law_deals) (defBody s__law_deals) (defScope s__law_deals) .none kV23 dc23 pm23 an23 cd23 ct23), sl23⟩)
    (c23 : PySem.W.codeIn K cd23 "_law_deals" = true)
    (k23 : PySem.W.keepIn K (.ref f23) = true)
    (a24 : PySem.W.nsIn K mainGlobals "_law_fall" = some (some (.ref f24)))
    (l24 : K.lookup f24 = some ⟨oc24, od24, .func (PySem.W.fnOf "_law_fall" "_law_fall" (defArgs s__law_fall) (defBody s__law_fall) (defScope s__law_fall) .none kV24 dc24 pm24 an24 cd24 ct24), sl24⟩)
    (c24 : PySem.W.codeIn K cd24 "_law_fall" = true)
    (k24 : PySem.W.keepIn K (.ref f24) = true)
    (a25 : PySem.W.nsIn K mainGlobals "_law_greedy" = some (some (.ref f25)))
    (l25 : K.lookup f25 = some ⟨oc25, od25, .func (PySem.W.fnOf "_law_greedy" "_law_greedy" (defArgs s__law_greedy) (defBody s__law_greedy) (defScope s__law_greedy) .none kV25 dc25 pm25 an25 cd25 ct25), sl25⟩)
    (c25 : PySem.W.codeIn K cd25 "_law_greedy" = true)
    (k25 : PySem.W.keepIn K (.ref f25) = true)
    (a26 : PySem.W.nsIn K mainGlobals "_law_bound" = some (some (.ref f26)))
    (l26 : K.lookup f26 = some ⟨oc26, od26, .func (PySem.W.fnOf "_law_bound" "_law_bound" (defArgs s__law_bound) (defBody s__law_bound) (defScope s__law_bound) .none kV26 dc26 pm26 an26 cd26 ct26), sl26⟩)
    (c26 : PySem.W.codeIn K cd26 "_law_bound" = true)
    (k26 : PySem.W.keepIn K (.ref f26) = true)
    (a27 : PySem.W.nsIn K mainGlobals "_law_told" = some (some (.ref f27)))
    (l27 : K.lookup f27 = some ⟨oc27, od27, .func (PySem.W.fnOf "_law_told" "_law_told" (defArgs s__law_told) (defBody s__law_told) (defScope s__law_told) .none kV27 dc27 pm27 an27 cd27 ct27), sl27⟩)
    (c27 : PySem.W.codeIn K cd27 "_law_told" = true)
    (k27 : PySem.W.keepIn K (.ref f27) = true)
    (a28 : PySem.W.nsIn K mainGlobals "law" = some (some (.ref f28)))
    (l28 : K.lookup f28 = some ⟨oc28, od28, .func (PySem.W.fnOf "law" "law" (defArgs s_law) (defBody s_law) (defScope s_law) .none kV28 dc28 pm28 an28 cd28 ct28), sl28⟩)
    (c28 : PySem.W.codeIn K cd28 "law" = true)
    (k28 : PySem.W.keepIn K (.ref f28) = true)
    (aCSamphireError : PySem.W.nsIn K mainGlobals "SamphireError" = some (some (.ref CSamphireError)))
    (aCZeroDenominator : PySem.W.nsIn K mainGlobals "ZeroDenominator" = some (some (.ref CZeroDenominator)))
    (iCZeroDenominator : PySem.W.findIn K (.ref CZeroDenominator) "__init__" = some (some (.ref fZeroDenominator)))
    (tIZeroDenominator : PySem.W.typeIn K (.ref fZeroDenominator) = some (.type "function"))
    (lkZeroDenominator : K.lookup fZeroDenominator = some ⟨ocZeroDenominator, odZeroDenominator, .func ((NF_ZeroDenominator ccZeroDenominator cZeroDenominator).fd docZeroDenominator pmZeroDenominator ctvZeroDenominator), oslZeroDenominator⟩)
    (hcZeroDenominator : PySem.W.codeIn K (.ref cZeroDenominator) "ZeroDenominator.__init__" = true)
    (xLZeroDenominator : K.lookup CZeroDenominator = some (excClassObj nmZeroDenominator qZeroDenominator CZeroDenominator NZeroDenominator bsZeroDenominator [.ref CSamphireError, .type "ValueError", .type "Exception", .type "BaseException", .type "object"] true snZeroDenominator subZeroDenominator abZeroDenominator colZeroDenominator ddZeroDenominator m0ZeroDenominator m1ZeroDenominator m2ZeroDenominator m3ZeroDenominator m5ZeroDenominator "ValueError.__new__"))
    (saZeroDenominator : PySem.W.findIn K (.ref CZeroDenominator) "__setattr__" = some (some (.builtin "object.__setattr__")))
    (sBZeroDenominator : PySem.W.subIn K (.ref CZeroDenominator) (.type "BaseException") = some true)
    (tCZeroDenominator : PySem.W.typeIn K (.ref CZeroDenominator) = some (.type "type"))
    (kCZeroDenominator : PySem.W.keepIn K (.ref CZeroDenominator) = true)
    (coZeroDenominator : K.lookup cZeroDenominator = some ⟨occZeroDenominator, cddZeroDenominator, .fields cvsZeroDenominator.toArray, cslZeroDenominator⟩)
    (flZeroDenominator : (match cvsZeroDenominator with | _ :: _ :: .str file _ :: _ => (l.prog.main.file : Str) == file | _ => false) = true)
    (ceZeroDenominator : K.lookup ccZeroDenominator = some ⟨cclZeroDenominator, ccdZeroDenominator, .cell (some (.ref CZeroDenominator)), ccsZeroDenominator⟩)
    (mrZeroDenominator : PySem.W.mroIn K CZeroDenominator (.ref CZeroDenominator) = some true)
    (sVZeroDenominator : PySem.W.subIn K (.ref CZeroDenominator) (.type "ValueError") = some true)
    (anZeroDenominator : PySem.W.nsIn K PySem.cStatics "thirdparty.any" = some none)
    (suZeroDenominator : PySem.W.ks_superIn K CZeroDenominator CZeroDenominator "__init__" = some (some (.builtin "ValueError.__init__")))
    (tpZeroDenominator : (l.prog.main.scope.names.lookup ("super" : Str)).isSome = false)
    (hgZeroDenominator : PySem.W.findIn K (.ref CZeroDenominator) "__getattribute__" = some (some (.builtin "BaseException.__getattribute__")))
    (hkZeroDenominator : PySem.W.findIn K (.ref CZeroDenominator) "__getattr__" = some none)
    (hdZeroDenominator : PySem.W.hasDictIn K CZeroDenominator = true)
    (haZeroDenominator : PySem.W.findIn K (.ref CZeroDenominator) "__class__" = some (some (.builtin "object.__class__")))
    (hnZeroDenominator : PySem.W.specialIn K (.builtin "object.__class__") "__get__" = some (some (.builtin "getset_descriptor.__get__")))
    (htZeroDenominator : PySem.W.takesIn K (.builtin "object.__class__") = some true)
    (hmZeroDenominator : PySem.W.mroIn K CZeroDenominator (.type "object") = some true)
    (icZeroDenominator : PySem.W.isClsIn K CZeroDenominator = true)
    (sCZeroDenominator : PySem.W.subIn K (.ref CZeroDenominator) (.ref CZeroDenominator) = some true)
    (aCNoDeal : PySem.W.nsIn K mainGlobals "NoDeal" = some (some (.ref CNoDeal)))
    (iCNoDeal : PySem.W.findIn K (.ref CNoDeal) "__init__" = some (some (.ref fNoDeal)))
    (tINoDeal : PySem.W.typeIn K (.ref fNoDeal) = some (.type "function"))
    (lkNoDeal : K.lookup fNoDeal = some ⟨ocNoDeal, odNoDeal, .func ((NF_NoDeal ccNoDeal cNoDeal).fd docNoDeal pmNoDeal ctvNoDeal), oslNoDeal⟩)
    (hcNoDeal : PySem.W.codeIn K (.ref cNoDeal) "NoDeal.__init__" = true)
    (xLNoDeal : K.lookup CNoDeal = some (excClassObj nmNoDeal qNoDeal CNoDeal NNoDeal bsNoDeal [.ref CSamphireError, .type "ValueError", .type "Exception", .type "BaseException", .type "object"] true snNoDeal subNoDeal abNoDeal colNoDeal ddNoDeal m0NoDeal m1NoDeal m2NoDeal m3NoDeal m5NoDeal "ValueError.__new__"))
    (saNoDeal : PySem.W.findIn K (.ref CNoDeal) "__setattr__" = some (some (.builtin "object.__setattr__")))
    (sBNoDeal : PySem.W.subIn K (.ref CNoDeal) (.type "BaseException") = some true)
    (tCNoDeal : PySem.W.typeIn K (.ref CNoDeal) = some (.type "type"))
    (kCNoDeal : PySem.W.keepIn K (.ref CNoDeal) = true)
    (coNoDeal : K.lookup cNoDeal = some ⟨occNoDeal, cddNoDeal, .fields cvsNoDeal.toArray, cslNoDeal⟩)
    (flNoDeal : (match cvsNoDeal with | _ :: _ :: .str file _ :: _ => (l.prog.main.file : Str) == file | _ => false) = true)
    (ceNoDeal : K.lookup ccNoDeal = some ⟨cclNoDeal, ccdNoDeal, .cell (some (.ref CNoDeal)), ccsNoDeal⟩)
    (mrNoDeal : PySem.W.mroIn K CNoDeal (.ref CNoDeal) = some true)
    (sVNoDeal : PySem.W.subIn K (.ref CNoDeal) (.type "ValueError") = some true)
    (anNoDeal : PySem.W.nsIn K PySem.cStatics "thirdparty.any" = some none)
    (suNoDeal : PySem.W.ks_superIn K CNoDeal CNoDeal "__init__" = some (some (.builtin "ValueError.__init__")))
    (tpNoDeal : (l.prog.main.scope.names.lookup ("super" : Str)).isSome = false)
    (hgNoDeal : PySem.W.findIn K (.ref CNoDeal) "__getattribute__" = some (some (.builtin "BaseException.__getattribute__")))
    (hkNoDeal : PySem.W.findIn K (.ref CNoDeal) "__getattr__" = some none)
    (hdNoDeal : PySem.W.hasDictIn K CNoDeal = true)
    (haNoDeal : PySem.W.findIn K (.ref CNoDeal) "__class__" = some (some (.builtin "object.__class__")))
    (hnNoDeal : PySem.W.specialIn K (.builtin "object.__class__") "__get__" = some (some (.builtin "getset_descriptor.__get__")))
    (htNoDeal : PySem.W.takesIn K (.builtin "object.__class__") = some true)
    (hmNoDeal : PySem.W.mroIn K CNoDeal (.type "object") = some true)
    (icNoDeal : PySem.W.isClsIn K CNoDeal = true)
    (sCNoDeal : PySem.W.subIn K (.ref CNoDeal) (.ref CNoDeal) = some true)
    (z_abs : PySem.W.nsIn K mainGlobals "abs" = some none)
    (z_enumerate : PySem.W.nsIn K mainGlobals "enumerate" = some none)
    (z_int : PySem.W.nsIn K mainGlobals "int" = some none)
    (z_isinstance : PySem.W.nsIn K mainGlobals "isinstance" = some none)
    (z_len : PySem.W.nsIn K mainGlobals "len" = some none)
    (z_list : PySem.W.nsIn K mainGlobals "list" = some none)
    (z_max : PySem.W.nsIn K mainGlobals "max" = some none)
    (z_range : PySem.W.nsIn K mainGlobals "range" = some none)
    (z_sum : PySem.W.nsIn K mainGlobals "sum" = some none)
    (z_super : PySem.W.nsIn K mainGlobals "super" = some none)
    (z_tuple : PySem.W.nsIn K mainGlobals "tuple" = some none)
    (z_zip : PySem.W.nsIn K mainGlobals "zip" = some none)
    (v_ZERO : PySem.W.nsIn K mainGlobals "ZERO" = some (some (.ref k_ZERO)))
    (l_ZERO : K.lookup k_ZERO = some ⟨.type "tuple", od_ZERO, .seq #[.int (0) t0_ZERO, .int (1) t1_ZERO] nn_ZERO, sl_ZERO⟩)
    (g_gcd : PySem.W.nsIn K mainGlobals "gcd" = some (some (.builtin "math.gcd"))) :
    ∃ fd : FuncData, (∀ (s : Shared) (v : Value), BindsTo s fd ⟨[v], []⟩ [("script", v)]) ∧ ∀ base : Heap, K.In base → base.Ns mainGlobals mg → FnOk l.prog w K mg base CX0 8 fa fd ["script"] (spLaw K) := by
  have e : f28 = fa := by
    have e := hfa.symm.trans (PySem.W.mg_of X G a28)
    cases e
    rfl
  subst e
  let t : T l.prog K mg := {
    a_lowest := f1, fd_lowest := _, F_lowest := fun_mk (st := s_lowest) l1 c1 k1, b_lowest := (fun_mk (st := s_lowest) l1 c1 k1).binds (ps := ["p", "q"]) (fun _ _ _ _ _ _ us hl => match us, hl with | [_, _], _ => rfl),
    g_lowest := PySem.W.mg_of X G a1,
    a_plus := f2, fd_plus := _, F_plus := fun_mk (st := s_plus) l2 c2 k2, b_plus := (fun_mk (st := s_plus) l2 c2 k2).binds (ps := ["a", "b"]) (fun _ _ _ _ _ _ us hl => match us, hl with | [_, _], _ => rfl),
    g_plus := PySem.W.mg_of X G a2,
    a_minus := f3, fd_minus := _, F_minus := fun_mk (st := s_minus) l3 c3 k3, b_minus := (fun_mk (st := s_minus) l3 c3 k3).binds (ps := ["a", "b"]) (fun _ _ _ _ _ _ us hl => match us, hl with | [_, _], _ => rfl),
    g_minus := PySem.W.mg_of X G a3,
    a_times := f4, fd_times := _, F_times := fun_mk (st := s_times) l4 c4 k4, b_times := (fun_mk (st := s_times) l4 c4 k4).binds (ps := ["a", "b"]) (fun _ _ _ _ _ _ us hl => match us, hl with | [_, _], _ => rfl),
    g_times := PySem.W.mg_of X G a4,
    a_over := f5, fd_over := _, F_over := fun_mk (st := s_over) l5 c5 k5, b_over := (fun_mk (st := s_over) l5 c5 k5).binds (ps := ["a", "b"]) (fun _ _ _ _ _ _ us hl => match us, hl with | [_, _], _ => rfl),
    g_over := PySem.W.mg_of X G a5,
    a_less := f6, fd_less := _, F_less := fun_mk (st := s_less) l6 c6 k6, b_less := (fun_mk (st := s_less) l6 c6 k6).binds (ps := ["a", "b"]) (fun _ _ _ _ _ _ us hl => match us, hl with | [_, _], _ => rfl),
    g_less := PySem.W.mg_of X G a6,
    a_sum_of := f7, fd_sum_of := _, F_sum_of := fun_mk (st := s_sum_of) l7 c7 k7, b_sum_of := (fun_mk (st := s_sum_of) l7 c7 k7).binds (ps := ["fractions"]) (fun _ _ _ _ _ _ us hl => match us, hl with | [_], _ => rfl),
    g_sum_of := PySem.W.mg_of X G a7,
    a_is_deal := f8, fd_is_deal := _, F_is_deal := fun_mk (st := s_is_deal) l8 c8 k8, b_is_deal := (fun_mk (st := s_is_deal) l8 c8 k8).binds (ps := ["limits", "places", "numbers"]) (fun _ _ _ _ _ _ us hl => match us, hl with | [_, _, _], _ => rfl),
    g_is_deal := PySem.W.mg_of X G a8,
    a_variance_of := f9, fd_variance_of := _, F_variance_of := fun_mk (st := s_variance_of) l9 c9 k9, b_variance_of := (fun_mk (st := s_variance_of) l9 c9 k9).binds (ps := ["costs", "deal"]) (fun _ _ _ _ _ _ us hl => match us, hl with | [_, _], _ => rfl),
    g_variance_of := PySem.W.mg_of X G a9,
    a_fall := f10, fd_fall := _, F_fall := fun_mk (st := s_fall) l10 c10 k10, b_fall := (fun_mk (st := s_fall) l10 c10 k10).binds (ps := ["cost", "number"]) (fun _ _ _ _ _ _ us hl => match us, hl with | [_, _], _ => rfl),
    g_fall := PySem.W.mg_of X G a10,
    a_steepest := f11, fd_steepest := _, F_steepest := fun_mk (st := s_steepest) l11 c11 k11, b_steepest := (fun_mk (st := s_steepest) l11 c11 k11).binds (ps := ["falls", "limits", "numbers"]) (fun _ _ _ _ _ _ us hl => match us, hl with | [_, _, _], _ => rfl),
    g_steepest := PySem.W.mg_of X G a11,
    a_deal := f12, fd_deal := _, F_deal := fun_mk (st := s_deal) l12 c12 k12, b_deal := (fun_mk (st := s_deal) l12 c12 k12).binds (ps := ["costs", "limits", "places"]) (fun _ _ _ _ _ _ us hl => match us, hl with | [_, _, _], _ => rfl),
    g_deal := PySem.W.mg_of X G a12,
    a_least_value := f13, fd_least_value := _, F_least_value := fun_mk (st := s_least_value) l13 c13 k13, b_least_value := (fun_mk (st := s_least_value) l13 c13 k13).binds (ps := ["cost", "limit", "price"]) (fun _ _ _ _ _ _ us hl => match us, hl with | [_, _, _], _ => rfl),
    g_least_value := PySem.W.mg_of X G a13,
    a_deal_bound := f14, fd_deal_bound := _, F_deal_bound := fun_mk (st := s_deal_bound) l14 c14 k14, b_deal_bound := (fun_mk (st := s_deal_bound) l14 c14 k14).binds (ps := ["costs", "limits", "places", "price"]) (fun _ _ _ _ _ _ us hl => match us, hl with | [_, _, _, _], _ => rfl),
    g_deal_bound := PySem.W.mg_of X G a14,
    a__law_mix := f15, fd__law_mix := _, F__law_mix := fun_mk (st := s__law_mix) l15 c15 k15, b__law_mix := (fun_mk (st := s__law_mix) l15 c15 k15).binds (ps := ["number", "k"]) (fun _ _ _ _ _ _ us hl => match us, hl with | [_, _], _ => rfl),
    g__law_mix := PySem.W.mg_of X G a15,
    a__law_numbers := f16, fd__law_numbers := _, F__law_numbers := fun_mk (st := s__law_numbers) l16 c16 k16, b__law_numbers := (fun_mk (st := s__law_numbers) l16 c16 k16).binds (ps := ["script", "count"]) (fun _ _ _ _ _ _ us hl => match us, hl with | [_, _], _ => rfl),
    g__law_numbers := PySem.W.mg_of X G a16,
    a__law_take := f17, fd__law_take := _, F__law_take := fun_mk (st := s__law_take) l17 c17 k17, b__law_take := (fun_mk (st := s__law_take) l17 c17 k17).binds (ps := ["row", "bound"]) (fun _ _ _ _ _ _ us hl => match us, hl with | [_, _], _ => rfl),
    g__law_take := PySem.W.mg_of X G a17,
    a__law_low := f18, fd__law_low := _, F__law_low := fun_mk (st := s__law_low) l18 c18 k18, b__law_low := (fun_mk (st := s__law_low) l18 c18 k18).binds (ps := ["p", "q"]) (fun _ _ _ _ _ _ us hl => match us, hl with | [_, _], _ => rfl),
    g__law_low := PySem.W.mg_of X G a18,
    a__law_plus := f19, fd__law_plus := _, F__law_plus := fun_mk (st := s__law_plus) l19 c19 k19, b__law_plus := (fun_mk (st := s__law_plus) l19 c19 k19).binds (ps := ["one", "other"]) (fun _ _ _ _ _ _ us hl => match us, hl with | [_, _], _ => rfl),
    g__law_plus := PySem.W.mg_of X G a19,
    a__law_times := f20, fd__law_times := _, F__law_times := fun_mk (st := s__law_times) l20 c20 k20, b__law_times := (fun_mk (st := s__law_times) l20 c20 k20).binds (ps := ["one", "other"]) (fun _ _ _ _ _ _ us hl => match us, hl with | [_, _], _ => rfl),
    g__law_times := PySem.W.mg_of X G a20,
    a__law_less := f21, fd__law_less := _, F__law_less := fun_mk (st := s__law_less) l21 c21 k21, b__law_less := (fun_mk (st := s__law_less) l21 c21 k21).binds (ps := ["one", "other"]) (fun _ _ _ _ _ _ us hl => match us, hl with | [_, _], _ => rfl),
    g__law_less := PySem.W.mg_of X G a21,
    a__law_variance := f22, fd__law_variance := _, F__law_variance := fun_mk (st := s__law_variance) l22 c22 k22, b__law_variance := (fun_mk (st := s__law_variance) l22 c22 k22).binds (ps := ["costs", "numbers"]) (fun _ _ _ _ _ _ us hl => match us, hl with | [_, _], _ => rfl),
    g__law_variance := PySem.W.mg_of X G a22,
    a__law_deals := f23, fd__law_deals := _, F__law_deals := fun_mk (st := s__law_deals) l23 c23 k23, b__law_deals := (fun_mk (st := s__law_deals) l23 c23 k23).binds (ps := ["limits", "places"]) (fun _ _ _ _ _ _ us hl => match us, hl with | [_, _], _ => rfl),
    g__law_deals := PySem.W.mg_of X G a23,
    a__law_fall := f24, fd__law_fall := _, F__law_fall := fun_mk (st := s__law_fall) l24 c24 k24, b__law_fall := (fun_mk (st := s__law_fall) l24 c24 k24).binds (ps := ["cost", "number"]) (fun _ _ _ _ _ _ us hl => match us, hl with | [_, _], _ => rfl),
    g__law_fall := PySem.W.mg_of X G a24,
    a__law_greedy := f25, fd__law_greedy := _, F__law_greedy := fun_mk (st := s__law_greedy) l25 c25 k25, b__law_greedy := (fun_mk (st := s__law_greedy) l25 c25 k25).binds (ps := ["costs", "limits", "places"]) (fun _ _ _ _ _ _ us hl => match us, hl with | [_, _, _], _ => rfl),
    g__law_greedy := PySem.W.mg_of X G a25,
    a__law_bound := f26, fd__law_bound := _, F__law_bound := fun_mk (st := s__law_bound) l26 c26 k26, b__law_bound := (fun_mk (st := s__law_bound) l26 c26 k26).binds (ps := ["costs", "limits", "places", "price"]) (fun _ _ _ _ _ _ us hl => match us, hl with | [_, _, _, _], _ => rfl),
    g__law_bound := PySem.W.mg_of X G a26,
    a__law_told := f27, fd__law_told := _, F__law_told := fun_mk (st := s__law_told) l27 c27 k27, b__law_told := (fun_mk (st := s__law_told) l27 c27 k27).binds (ps := ["costs", "limits", "places"]) (fun _ _ _ _ _ _ us hl => match us, hl with | [_, _, _], _ => rfl),
    g__law_told := PySem.W.mg_of X G a27,
    a_law := f28, fd_law := _, F_law := fun_mk (st := s_law) l28 c28 k28, b_law := (fun_mk (st := s_law) l28 c28 k28).binds (ps := ["script"]) (fun _ _ _ _ _ _ us hl => match us, hl with | [_], _ => rfl),
    g_law := PySem.W.mg_of X G a28,
    C_SamphireError := CSamphireError, mg_SamphireError := PySem.W.mg_of X G aCSamphireError,
    C_ZeroDenominator := CZeroDenominator, a_ZeroDenominator_init := fZeroDenominator, c_ZeroDenominator := cZeroDenominator, cc_ZeroDenominator := ccZeroDenominator, doc_ZeroDenominator := docZeroDenominator, pm_ZeroDenominator := pmZeroDenominator, ctv_ZeroDenominator := ctvZeroDenominator, oc_ZeroDenominator := ocZeroDenominator, od_ZeroDenominator := odZeroDenominator, osl_ZeroDenominator := oslZeroDenominator, lk_ZeroDenominator := lkZeroDenominator, hc_ZeroDenominator := hcZeroDenominator,
    x_ZeroDenominator := Sup.excT_mk xLZeroDenominator rfl saZeroDenominator sBZeroDenominator tCZeroDenominator kCZeroDenominator coZeroDenominator flZeroDenominator ceZeroDenominator mrZeroDenominator sVZeroDenominator (PySem.W.mg_none_of X G z_super) anZeroDenominator suZeroDenominator tpZeroDenominator (PySem.W.mg_of X G aCZeroDenominator) iCZeroDenominator tIZeroDenominator ⟨hgZeroDenominator, hkZeroDenominator, sBZeroDenominator, hdZeroDenominator, haZeroDenominator, hnZeroDenominator, htZeroDenominator, hmZeroDenominator⟩ icZeroDenominator sCZeroDenominator,
    bx_ZeroDenominator := .all (fun us hl => match us, hl with | [_], _ => rfl),
    C_NoDeal := CNoDeal, a_NoDeal_init := fNoDeal, c_NoDeal := cNoDeal, cc_NoDeal := ccNoDeal, doc_NoDeal := docNoDeal, pm_NoDeal := pmNoDeal, ctv_NoDeal := ctvNoDeal, oc_NoDeal := ocNoDeal, od_NoDeal := odNoDeal, osl_NoDeal := oslNoDeal, lk_NoDeal := lkNoDeal, hc_NoDeal := hcNoDeal,
    x_NoDeal := Sup.excT_mk xLNoDeal rfl saNoDeal sBNoDeal tCNoDeal kCNoDeal coNoDeal flNoDeal ceNoDeal mrNoDeal sVNoDeal (PySem.W.mg_none_of X G z_super) anNoDeal suNoDeal tpNoDeal (PySem.W.mg_of X G aCNoDeal) iCNoDeal tINoDeal ⟨hgNoDeal, hkNoDeal, sBNoDeal, hdNoDeal, haNoDeal, hnNoDeal, htNoDeal, hmNoDeal⟩ icNoDeal sCNoDeal,
    bx_NoDeal := .all (fun us hl => match us, hl with | [_], _ => rfl),
    z_abs := PySem.W.mg_none_of X G z_abs,
    z_enumerate := PySem.W.mg_none_of X G z_enumerate,
    z_int := PySem.W.mg_none_of X G z_int,
    z_isinstance := PySem.W.mg_none_of X G z_isinstance,
    z_len := PySem.W.mg_none_of X G z_len,
    z_list := PySem.W.mg_none_of X G z_list,
    z_max := PySem.W.mg_none_of X G z_max,
    z_range := PySem.W.mg_none_of X G z_range,
    z_sum := PySem.W.mg_none_of X G z_sum,
    z_super := PySem.W.mg_none_of X G z_super,
    z_tuple := PySem.W.mg_none_of X G z_tuple,
    z_zip := PySem.W.mg_none_of X G z_zip,
    k_ZERO := k_ZERO, g_ZERO := PySem.W.mg_of X G v_ZERO, q_ZERO := fun H => .inr ⟨_, _, _, l_ZERO, rfl, rfl, (show 2 ≤ sizeLine by decide), (.cons ⟨_, rfl⟩ (.cons ⟨_, rfl⟩ .nil))⟩,
    g_gcd := PySem.W.mg_of X G g_gcd }
  exact ⟨t.fd_law, fun s v => .of_eq rfl, fun base _ _ => ok_law t⟩

end K54
open PySem PySem.W PyProof.Rows in
set_option maxRecDepth 100000 in
set_option maxHeartbeats 0 in
theorem PySem.Challenge.cw_samphire_k54_whole_places_for_strata_holds : PySem.Challenge.rw_samphire_k54_whole_places_for_strata.Holds := by
  w_on; o_law; k_head; (case hw => w_witness2)
  k_fill
  refine L2.walk_ofB (l := PySem.Challenge.rw_samphire_k54_whole_places_for_strata) (n := 63) (k := 8) (x := "script") (CX := fun w => L2.CX0) (sp := fun w => K54.spLaw _) rfl (by decide) rfl ⟨rfl, by decide, by decide⟩ (fun w h Y => PySem.W.kIn_of Y) ?F (fun _ H a ns hl hb _ hS => ⟨a, ns, rfl, hS, hl, hb, fun _ => rfl⟩) (fun _ _ _ _ _ h => h)
  case F =>
    intro w mg fa h KX G hmg
    refine' K54.all_mk KX G hmg ?a1 ?l1 ?c1 ?k1 ?a2 ?l2 ?c2 ?k2 ?a3 ?l3 ?c3 ?k3 ?a4 ?l4 ?c4 ?k4 ?a5 ?l5 ?c5 ?k5 ?a6 ?l6 ?c6 ?k6 ?a7 ?l7 ?c7 ?k7 ?a8 ?l8 ?c8 ?k8 ?a9 ?l9 ?c9 ?k9 ?a10 ?l10 ?c10 ?k10 ?a11 ?l11 ?c11 ?k11 ?a12 ?l12 ?c12 ?k12 ?a13 ?l13 ?c13 ?k13 ?a14 ?l14 ?c14 ?k14 ?a15 ?l15 ?c15 ?k15 ?a16 ?l16 ?c16 ?k16 ?a17 ?l17 ?c17 ?k17 ?a18 ?l18 ?c18 ?k18 ?a19 ?l19 ?c19 ?k19 ?a20 ?l20 ?c20 ?k20 ?a21 ?l21 ?c21 ?k21 ?a22 ?l22 ?c22 ?k22 ?a23 ?l23 ?c23 ?k23 ?a24 ?l24 ?c24 ?k24 ?a25 ?l25 ?c25 ?k25 ?a26 ?l26 ?c26 ?k26 ?a27 ?l27 ?c27 ?k27 ?a28 ?l28 ?c28 ?k28 ?aCSamphireError ?aCZeroDenominator ?iCZeroDenominator ?tIZeroDenominator ?lkZeroDenominator ?hcZeroDenominator ?xLZeroDenominator ?saZeroDenominator ?sBZeroDenominator ?tCZeroDenominator ?kCZeroDenominator ?coZeroDenominator ?flZeroDenominator ?ceZeroDenominator ?mrZeroDenominator ?sVZeroDenominator ?anZeroDenominator ?suZeroDenominator ?tpZeroDenominator ?hgZeroDenominator ?hkZeroDenominator ?hdZeroDenominator ?haZeroDenominator ?hnZeroDenominator ?htZeroDenominator ?hmZeroDenominator ?icZeroDenominator ?sCZeroDenominator ?aCNoDeal ?iCNoDeal ?tINoDeal ?lkNoDeal ?hcNoDeal ?xLNoDeal ?saNoDeal ?sBNoDeal ?tCNoDeal ?kCNoDeal ?coNoDeal ?flNoDeal ?ceNoDeal ?mrNoDeal ?sVNoDeal ?anNoDeal ?suNoDeal ?tpNoDeal ?hgNoDeal ?hkNoDeal ?hdNoDeal ?haNoDeal ?hnNoDeal ?htNoDeal ?hmNoDeal ?icNoDeal ?sCNoDeal ?z_abs ?z_enumerate ?z_int ?z_isinstance ?z_len ?z_list ?z_max ?z_range ?z_sum ?z_super ?z_tuple ?z_zip ?v_ZERO ?l_ZERO ?g_gcd
    (case aCSamphireError => k_is)
    (case aCZeroDenominator => k_is)
    (case aCNoDeal => k_is)
    (case a1 => k_is)
    (case l1 => k_is)
    (case c1 => k_is)
    (case k1 => k_is)
    (case a2 => k_is)
    (case l2 => k_is)
    (case c2 => k_is)
    (case k2 => k_is)
    (case a3 => k_is)
    (case l3 => k_is)
    (case c3 => k_is)
    (case k3 => k_is)
    (case a4 => k_is)
    (case l4 => k_is)
    (case c4 => k_is)
    (case k4 => k_is)
    (case a5 => k_is)
    (case l5 => k_is)
    (case c5 => k_is)
    (case k5 => k_is)
    (case a6 => k_is)
    (case l6 => k_is)
    (case c6 => k_is)
    (case k6 => k_is)
    (case a7 => k_is)
    (case l7 => k_is)
    (case c7 => k_is)
    (case k7 => k_is)
    (case a8 => k_is)
    (case l8 => k_is)
    (case c8 => k_is)
    (case k8 => k_is)
    (case a9 => k_is)
    (case l9 => k_is)
    (case c9 => k_is)
    (case k9 => k_is)
    (case a10 => k_is)
    (case l10 => k_is)
    (case c10 => k_is)
    (case k10 => k_is)
    (case a11 => k_is)
    (case l11 => k_is)
    (case c11 => k_is)
    (case k11 => k_is)
    (case a12 => k_is)
    (case l12 => k_is)
    (case c12 => k_is)
    (case k12 => k_is)
    (case a13 => k_is)
    (case l13 => k_is)
    (case c13 => k_is)
    (case k13 => k_is)
    (case a14 => k_is)
    (case l14 => k_is)
    (case c14 => k_is)
    (case k14 => k_is)
    (case a15 => k_is)
    (case l15 => k_is)
    (case c15 => k_is)
    (case k15 => k_is)
    (case a16 => k_is)
    (case l16 => k_is)
    (case c16 => k_is)
    (case k16 => k_is)
    (case a17 => k_is)
    (case l17 => k_is)
    (case c17 => k_is)
    (case k17 => k_is)
    (case a18 => k_is)
    (case l18 => k_is)
    (case c18 => k_is)
    (case k18 => k_is)
    (case a19 => k_is)
    (case l19 => k_is)
    (case c19 => k_is)
    (case k19 => k_is)
    (case a20 => k_is)
    (case l20 => k_is)
    (case c20 => k_is)
    (case k20 => k_is)
    (case a21 => k_is)
    (case l21 => k_is)
    (case c21 => k_is)
    (case k21 => k_is)
    (case a22 => k_is)
    (case l22 => k_is)
    (case c22 => k_is)
    (case k22 => k_is)
    (case a23 => k_is)
    (case l23 => k_is)
    (case c23 => k_is)
    (case k23 => k_is)
    (case a24 => k_is)
    (case l24 => k_is)
    (case c24 => k_is)
    (case k24 => k_is)
    (case a25 => k_is)
    (case l25 => k_is)
    (case c25 => k_is)
    (case k25 => k_is)
    (case a26 => k_is)
    (case l26 => k_is)
    (case c26 => k_is)
    (case k26 => k_is)
    (case a27 => k_is)
    (case l27 => k_is)
    (case c27 => k_is)
    (case k27 => k_is)
    (case a28 => k_is)
    (case l28 => k_is)
    (case c28 => k_is)
    (case k28 => k_is)
    (case iCZeroDenominator => k_is)
    (case tIZeroDenominator => k_is)
    (case lkZeroDenominator => k_is)
    (case hcZeroDenominator => k_is)
    (case xLZeroDenominator => k_is)
    (case saZeroDenominator => k_is)
    (case sBZeroDenominator => k_is)
    (case tCZeroDenominator => k_is)
    (case kCZeroDenominator => k_is)
    (case coZeroDenominator => k_is)
    (case flZeroDenominator => first | rfl | decide +kernel)
    (case ceZeroDenominator => k_is)
    (case mrZeroDenominator => first | rfl | k_is)
    (case sVZeroDenominator => k_is)
    (case anZeroDenominator => k_is)
    (case suZeroDenominator => ks_is)
    (case tpZeroDenominator => first | rfl | decide +kernel)
    (case hgZeroDenominator => k_is)
    (case hkZeroDenominator => k_is)
    (case hdZeroDenominator => k_is)
    (case haZeroDenominator => k_is)
    (case hnZeroDenominator => k_is)
    (case htZeroDenominator => k_is)
    (case hmZeroDenominator => k_is)
    (case icZeroDenominator => k_is)
    (case sCZeroDenominator => first | rfl | k_is)
    (case iCNoDeal => k_is)
    (case tINoDeal => k_is)
    (case lkNoDeal => k_is)
    (case hcNoDeal => k_is)
    (case xLNoDeal => k_is)
    (case saNoDeal => k_is)
    (case sBNoDeal => k_is)
    (case tCNoDeal => k_is)
    (case kCNoDeal => k_is)
    (case coNoDeal => k_is)
    (case flNoDeal => first | rfl | decide +kernel)
    (case ceNoDeal => k_is)
    (case mrNoDeal => first | rfl | k_is)
    (case sVNoDeal => k_is)
    (case anNoDeal => k_is)
    (case suNoDeal => ks_is)
    (case tpNoDeal => first | rfl | decide +kernel)
    (case hgNoDeal => k_is)
    (case hkNoDeal => k_is)
    (case hdNoDeal => k_is)
    (case haNoDeal => k_is)
    (case hnNoDeal => k_is)
    (case htNoDeal => k_is)
    (case hmNoDeal => k_is)
    (case icNoDeal => k_is)
    (case sCNoDeal => first | rfl | k_is)
    (case z_abs => k_is)
    (case z_enumerate => k_is)
    (case z_int => k_is)
    (case z_isinstance => k_is)
    (case z_len => k_is)
    (case z_list => k_is)
    (case z_max => k_is)
    (case z_range => k_is)
    (case z_sum => k_is)
    (case z_super => k_is)
    (case z_tuple => k_is)
    (case z_zip => k_is)
    (case v_ZERO => k_is)
    (case l_ZERO => k_is)
    (case g_gcd => k_is)
