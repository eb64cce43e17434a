import PyProof.Rows.All
import Wide.All
import OpenK.AllK
import Wide.FinOn
import HandS.ForMost
import HandS.ForExc
import HandS.EndBits
import HandS.Wide
import HandS.IsInst
import HandS.ExcInit
import HandS.Nested
import KE.KExcSuper
import HandS.ExcIs
import HandS.ExcField
import HandS.Gcd
import HandS.Rev
import HandS.Walk
import HandS.Style
import HandS.FStr
import HandS.TryOnly
import KE.GoesEnumKw
import HandS.Text
import HandS.SortInts
import HandS.More
import HandS.Deep
import HandS.StrMore
import KE.SortData
import KE.SortKeyHeap
import PySem.Challenge.RW_samphire_k53_whole_no_lesser_spread
set_option Elab.async false
set_option linter.all false
set_option maxRecDepth 100000

/-! ### an own exception whose __init__ begins with super().__init__(..) -/
namespace Sup
open PySem PySem.Spec PyProof.Rows L2 NdefX
/-- what the written part says of such a class (at C), of its __init__ (at f; its code at c, its cell of the class at cc) -/
structure SupC (P : Program) (K : PySem.W.Frag) (mg : Str → Option Value) (C f c cc : Addr) : Prop where
  T : OexC K C
  cd : ∃ cd, PySem.W.clsIn K C = some cd
  code : ∃ occ cdd vs sl file tf, K.lookup c = some ⟨occ, cdd, .fields vs, sl⟩ ∧ vs[2]? = some (.str file tf) ∧ ((P.main.file : Str) == file) = true
  cell : ∃ cl cld sl, K.lookup cc = some ⟨cl, cld, .cell (some (.ref C)), sl⟩
  sub : PySem.W.mroIn K C (.ref C) = some true
  subV : PySem.W.subIn K (.ref C) (.type "ValueError") = some true
  zs : mg "super" = none
  any : PySem.W.nsIn K PySem.cStatics "thirdparty.any" = some none
  sup : PySem.W.ks_superIn K C C "__init__" = some (some (.builtin "ValueError.__init__"))
  top : (P.main.scope.names.lookup ("super" : Str)).isSome = false
section
variable {CX : CXT} {P : Program} {w : World} {K : PySem.W.Frag} {mg : Str → Option Value} {base : Heap} {N ps : List Str} {F : NF} {f C cc : Addr} {k : Nat} {sp : Sp}
/-- the body's first statement -/
abbrev supSt (arg : Expr) (p0 p1 p2 p3 p4 : Pos) : Stmt := .Expr (.Call (.Attribute (.Call (.Name "super" p0) [] [] p1) "__init__" p2) [arg] [] p3) p4
theorem callW {M : Model} {A : Around} {E : Value → Shared → Prop} {s : Shared} {i : String} {u x : Addr} {pos : Pos} {env : Env} {e : Expr} {Q : Value → Shared → Prop} (he : starEach [e] env = (false, eval e env) :: starEach [] env)
    (h : wpAny M A (spliced (backTo pos (starEach [e] env))) (fun vs s₁ => PySem.W.KxsAt i u x s₁.heap ∧ wpAny M A (call (.ref u) vs) Q E s₁) E s) : wpAny M A (callWith pos (.ref u) [] (backTo pos (starEach [e] env)) []) Q E s := by
  rw [he] at h ⊢
  refine PySem.W.kxs_callWith (i := i) (x := x) rfl ?_
  exact PySem.Calls.evalArgs_plain h
theorem fn_super {oc : Value} {od : Option Addr} {osl : Array (Option Value)} {doc pm ctv : Value} {arg : Expr} {rest : List Stmt} {p0 p1 p2 p3 p4 : Pos} {p : Str} {ps' : List Str}
    (T : SupC P K mg C f F.c cc) (lk : K.lookup f = some ⟨oc, od, .func (F.fd doc pm ctv), osl⟩) (hcl : F.cl = [(("__class__" : Str), cc)]) (hcd : PySem.W.codeIn K (.ref F.c) F.qual = true) (S : NScope N ps ["__class__"] F.scope) (hps : ps = p :: ps')
    (hpar : ∃ ar, (F.params.posonlyargs ++ F.params.args).head? = some ar ∧ ar.arg = p) (hsu : F.scope.names.lookup ("super" : Str) = some .globalImplicit) (hbd : F.body = supSt arg p0 p1 p2 p3 p4 :: rest)
    (hsw : ∀ L : Addr, swapsWith (.Call (.Attribute (.Call (.Name "super" p0) [] [] p1) "__init__" p2) [arg] [] p3) none p4.line (envF F f L) = pure false)
    (hev : ∀ L : Addr, ∃ pl, eval (.Call (.Attribute (.Call (.Name "super" p0) [] [] p1) "__init__" p2) [arg] [] p3) (envF F f L) = (do
        let ov ← attributeBase (.Call (.Name "super" p0) [] [] p1) "__init__" (envF F f L) (eval (.Call (.Name "super" p0) [] [] p1) (envF F f L))
        standAt p2.atName
        let (f', first) ← holding [ov] (getMethod ov "__init__" pl)
        callWith p3 f' first (backTo p3 (starEach [arg] (envF F f L))) []))
    (hst : ∀ L : Addr, starEach [arg] (envF F f L) = (false, eval arg (envF F f L)) :: starEach [] (envF F f L))
    (len : ∀ vs H Q E, sp vs H Q E → vs.length = ps.length)
    (hbody : ∀ (A : Around) (outer : List Env) (s : Shared) (H : Hp) (vs : List V) (Q : VK) (E : XK), Room k (A.deeper (envF F f s.heap.objs.size)) → sp vs H Q E →
      ∃ a vs' ta t, vs = .ref a :: vs' ∧ H a = some (exo a C none) ∧ PA (ncx CX P w K mg base N F f A outer s H E) [arg] ta ∧ PSs (ncx CX P w K mg base N F f A outer s H E) rest t ∧
        ta (startF N vs [none]) H (fun ws H1 => ws.length ≤ 1000 ∧ H1 a = some (exo a C none) ∧ t { nx := fun _ H' => Q .non H', rt := Q } (startF N vs [none]) H1)) :
    FnOk P w K mg base CX (k + 1) f (F.fd doc pm ctv) ps sp := by
  refine ⟨len, fun A outer s H args us vs Q E hr e0 hb r hsp => ?_⟩
  have KX : K.In s.heap := e0.mod.kin.keeps fun b o e => (e0.bs b o e).1
  have hl := len _ _ _ _ hsp
  have lim : s.heap.NoLimit := e0.mod.nolimit.keeps fun b o e => (e0.bs b o e).1
  refine codeAny_call_function hr.depth (KX _ _ lk) rfl S.co S.gen rfl (PySem.W.codeRec_of KX hcd) (hb _ _ _ _ ?_)
  refine wpAny_newFunctionEnv S.nocell (fun ⟨n, _⟩ hy => S.par n (List.of_mem_zip hy).1) (fun h₁ hns hsb => ⟨lim.fresh _ hsb, ?_⟩) S.kind
  show codeAny _ _ (.func F.body (envF F f s.heap.objs.size)) _ _
  refine PySem.ks_codeAny_funcAt ?_
  have kp : ∀ b o, s.heap.get? b = some o → h₁.get? b = some o := fun b o e => hsb.extBut b o (Nat.ne_of_lt (Heap.lt_size e)) (Heap.get?_push_of_some _ e)
  obtain ⟨a, vs', ta, t, hvs, ha, hta, ht, hq⟩ := hbody A outer s H vs Q E (hr.deeper _) hsp
  obtain ⟨cl, cld, csl, hcell⟩ := T.cell
  have hbc : base.get? cc = some ⟨cl, cld, .cell (some (.ref C)), csl⟩ := e0.mod.kin _ _ hcell
  have hlook : ∀ {y : Str} {c : Addr}, F.cl.lookup y = some c → y = "__class__" ∧ c = cc := fun {y c} e => by
    rw [hcl] at e
    by_cases hy : y = "__class__"
    · subst hy
      rw [show List.lookup ("__class__" : Str) [(("__class__" : Str), cc)] = some cc by simp [List.lookup]] at e
      exact ⟨rfl, (Option.some.inj e).symm⟩
    · have hb : (y == ("__class__" : Str)) = false := by simpa using hy
      rw [show List.lookup y [(("__class__" : Str), cc)] = none by simp [List.lookup, hb]] at e
      cases e
  have hlk : F.cl.lookup ("__class__" : Str) = some cc := by rw [hcl]; simp [List.lookup]
  have CA : CellsAt F.cl ["__class__"] [none] s.heap H := {
    len := rfl
    all := fun y c e => by
      obtain ⟨_, rfl⟩ := hlook e
      exact ⟨(e0.bs _ _ hbc).2, _, ⟨_, (e0.bs _ _ hbc).1, rfl⟩⟩
    inj := fun x y c e1 e2 => (hlook e1).1.trans (hlook e2).1.symm
    has := fun i y e => by
      match i, e with
      | 0, e =>
        have ey : ("__class__" : Str) = y := Option.some.inj e
        subst ey
        exact ⟨cc, hlk, fun v hv => by simp at hv⟩ }
  have I : Inv (ncx CX P w K mg base N F f A outer s H E) [] (startF N vs [none]) H { s with heap := h₁, toks := s.toks + (ps.zip us).length } := inv_startN S hr.hd e0 hl r CA hns kp
  have kI : K.In h₁ := KX.keeps kp
  have hN0 : N[0]? = some p := by
    have q := S.pre
    rw [hps] at q
    have z : (N.take ((p :: ps').length + 1))[0]? = some p := by
      have z := congrArg (fun l : List Str => l[0]?) q
      exact z
    rw [List.getElem?_take_of_lt (by simp)] at z
    exact z
  have hs0 : (startF N vs [none])[0]? = some (some (.ref a)) := by rw [hvs]; rfl
  have hploc : F.scope.names.lookup p = some .local := S.par p (by rw [hps]; exact List.mem_cons_self)
  obtain ⟨m, hnm, hlm⟩ := id I.loc
  obtain ⟨u0, ru0, hu0⟩ := hlm 0 p (.ref a) hN0 hs0 (.inl hploc)
  have eu0 : u0 = Value.ref a := ru0
  subst eu0
  have hself : m p = some (.ref a) := by
    rcases hu0 with ⟨_, z⟩ | ⟨z, _⟩
    · exact z
    · have z' : F.scope.names.lookup p = some .cell ∨ F.scope.names.lookup p = some .free := z
      rw [hploc] at z'
      rcases z' with z' | z' <;> cases z'
  obtain ⟨occ, cdd, cvs, csl2, file, tf, hcode, hvs2, hfile⟩ := T.code
  obtain ⟨cdD, hcdD⟩ := T.cd
  have hD : ∃ oD, h₁.get? C = some oD ∧ oD.data = .cls cdD := by
    have hD := hcdD
    unfold PySem.W.clsIn at hD
    split at hD
    · rename_i c d cd' sl ho
      cases hD
      exact ⟨_, kI _ _ ho, rfl⟩
    · cases hD
  obtain ⟨oD, hD1, hD2⟩ := hD
  obtain ⟨nm, q, N', bs, bm, sn, sub, ab, col, dd, k0, k1, k2, k3, k5, hC, hbm⟩ := T.T.cls
  obtain ⟨ar, har1, har2⟩ := hpar
  have hkc : F.scope.names.lookup ("__class__" : Str) = some .free := S.frk _ (by simp)
  obtain ⟨mb, hb1, hb2⟩ := I.mod.blt
  rw [hbd]
  obtain ⟨pl, he⟩ := hev s.heap.objs.size
  refine PySem.ks_wpAt_execs_cons (PySem.ks_wpAt_Expr_any (PySem.ks_wpAt_MethodCall (pl := pl) (PySem.ks_wpAt_super_base (fd := F.fd doc pm ctv) hsu hkc (by decide) rfl (kI _ _ lk) rfl har1 rfl (kI _ _ hcode) rfl hvs2 hfile T.top ?_) he) I.quiet (hsw _))
  -- the names
  refine PySem.W.ks_loadName_global S.kind hsu (Calls.loadGlobal_builtin (by exact I.mod.glob.keeps I.bk) T.zs (by exact hb1.keeps I.bk) ((hb2 _ (by decide)).trans (by decide +kernel)) ⟨rfl, ?_⟩)
  refine wpAny_loadName_free S.kind hkc hlk ⟨_, kI _ _ hcell, rfl⟩ ?_
  refine wpAny_loadName_local S.kind (by rw [har2]; exact hploc) hnm (by rw [har2]; exact hself) ?_
  refine PySem.ks_wpAny_isType_cls hD1 hD2 ⟨rfl, ?_⟩
  obtain ⟨t1, hox⟩ := exo_at I.hok ha
  refine PySem.ks_wpAny_call_super hD1 hD2 hox rfl (fun c e => by cases e) (PySem.W.looks_mroIn kI T.sub) (fun h' hso k' => ?_)
  have I2 : Inv (ncx CX P w K mg base N F f A outer s H E) [] (startF N vs [none]) H { s with heap := h', toks := s.toks + (ps.zip us).length } := I.kept (t' := s.toks + (ps.zip us).length) k'
  have kI2 : K.In h' := kI.keeps k'
  have hox2 : h'.get? a = some ({ cls := .ref C, dict := none, data := .fields #[.ref t1, .none, .none, .none, .bool false, .none] } : Obj) := k' _ _ hox
  have IA : PySem.W.InstAt h' a ({ cls := .ref C, dict := none, data := .fields #[.ref t1, .none, .none, .none, .bool false, .none] } : Obj) C none := ⟨hox2, rfl, rfl, trivial⟩
  have hal : PySem.W.alongIn K "__init__" ((cdD.mro.dropWhile (· != .ref C)).drop 1) = some (some (.builtin "ValueError.__init__")) := by
    have z := T.sup
    unfold PySem.W.ks_superIn at z
    rw [hcdD] at z
    exact z
  refine PySem.W.kxs_getMethod PySem.W.kxs_ValueError hso (PySem.W.looks_opaque kI2 T.any) (l₀ := cdD.mro) (fun A Q E s k q => wpAny_bind ((PySem.W.looks_clsIn kI2 hcdD) A _ E s k (wpAny_pure q))) rfl kI2 hal (IA.type.andThen (PySem.W.looks_subIn kI2 T.subV)) (PySem.W.ks_ne kI2 IA hcdD) (by decide) ?_
  -- the bound __init__ at u
  have ku : ∀ b o, h'.get? b = some o → (h'.push (PySem.W.kxs_mw "ValueError.__init__" a)).get? b = some o := fun b o e => Heap.get?_push_of_some _ e
  have I3 : Inv (ncx CX P w K mg base N F f A outer s H E) [] (startF N vs [none]) H { s with heap := h'.push (PySem.W.kxs_mw "ValueError.__init__" a), toks := s.toks + (ps.zip us).length + 1 } := I2.kept (t' := s.toks + (ps.zip us).length + 1) ku
  have hu : (h'.push (PySem.W.kxs_mw "ValueError.__init__" a)).get? h'.objs.size = some (PySem.W.kxs_mw "ValueError.__init__" a) := Heap.get?_push_at rfl rfl
  have I4 : Inv (ncx CX P w K mg base N F f A outer s H E) [(h'.objs.size, PySem.W.kxs_mw "ValueError.__init__" a)] (startF N vs [none]) H { s with heap := h'.push (PySem.W.kxs_mw "ValueError.__init__" a), toks := s.toks + (ps.zip us).length + 1 } := I3.pins_of fun p hp => by
    have hp1 := List.mem_singleton.mp hp
    subst hp1
    exact ⟨hu, I2.hok.fresh (Nat.le_refl _), fun z => absurd (z ▸ I2.lt) (Nat.lt_irrefl _), I2.nofs (Nat.le_refl _), fun v z => by cases z⟩
  refine callW (i := "ValueError.__init__") (x := a) (hst _) ?_
  refine thn (hta.run p3 _ _ _ H _ I4 hq) fun ws' s5 ⟨ws, H5, I5, r5, hlen, ha5, ht5⟩ => ?_
  have hu5 : s5.heap.get? h'.objs.size = some (PySem.W.kxs_mw "ValueError.__init__" a) := (I5.pin _ (List.mem_append_right _ (List.mem_singleton.mpr rfl))).1
  refine ⟨hu5, ?_⟩
  obtain ⟨t5, hox5⟩ := exo_at I5.hok ha5
  have hws : ws'.length ≤ sizeLine := by
    rw [← Paired.length r5, sizeLine_eq]
    omega
  have I6 : Inv (ncx CX P w K mg base N F f A outer s H E) [] (startF N vs [none]) H5 s5 := I5.pins_of fun p hp => absurd hp (by simp)
  obtain ⟨h5, g5, d5, k5', os5⟩ := s5
  have hC5 := I5.kIn _ _ hC
  show wpAny _ _ (call (.ref h'.objs.size) ws') _ _ _
  refine wpAny_call (codeAny_of_tree ?_)
  show wpAny _ _ (callAny (.ref h'.objs.size) ⟨ws', []⟩) _ _ _
  simp only [callAny]
  refine wpAny_bind (wpAny_load hu5 ?_)
  simp only [PySem.W.kxs_mw, show (Value.type "method-wrapper" == Value.type "method" || Value.type "method-wrapper" == Value.type "builtin_function_or_method" || Value.type "method-wrapper" == Value.type "method-wrapper") = true by decide, if_true]
  refine PySem.W.KFB.if_so (by decide) ?_
  refine wpAny_bind (PySem.W.check_bound_init PySem.F.excBase_ValueError.toExcCallFacts hC5 hox5 rfl ?_)
  refine wpAny_bind (wpAny_pure (wpAny_pure ?_))
  refine ⟨plainId_quiet PySem.F.excBase_ValueError.init.plain _, codeAny_builtin PySem.F.excBase_ValueError.initEntry ?_⟩
  refine PySem.W.exc_init_tree (cls := .ref C) (t0 := t5) (dv := none) (c2 := .none) (c3 := .none) (b4 := .bool false) hox5 hws (fun h6 k6 e6 _ => ?_)
  have J := I6.write (t' := k5') (x := a) (e := a) (o := exo a C none) (by rw [ha5]; exact True.intro) (.inl rfl) k6 ⟨_, e6⟩ (exo_ok e6)
  have eu : upd H5 a (exo a C none) = H5 := by
    funext b
    by_cases hb : b = a
    · rw [hb, upd_same, ha5]
    · rw [upd_ne hb]
  rw [eu] at J
  refine PySem.wpAt_of_wpAny (wpAny_mono (ht.run [] _ (startF N vs [none]) H5 _ J ht5) (fun fl s' hs => ?_) fun e s' hs => hs)
  have fin : ∀ {σ' : L2.St} {H' : Hp} {v : V} {u : Value}, Inv (ncx CX P w K mg base N F f A outer s H E) [] σ' H' s' → L2.RelV v u → Q v H' → CE outer P w H s Q u s' :=
    fun {σ' H' v u} J rv q => ⟨v, H', J.os, J.bare, J.base, J.hok, rv, q⟩
  cases fl with
  | ret u =>
    obtain ⟨v, σ', H', J, rv, q⟩ := hs
    exact fin J rv q
  | next =>
    obtain ⟨σ', H', J, q⟩ := hs
    exact fin (v := V.non) (u := Value.none) J rfl q
  | brk =>
    obtain ⟨_, _, _, q⟩ := hs
    exact False.elim q
  | cont =>
    obtain ⟨_, _, _, q⟩ := hs
    exact False.elim q
end
/-! ### an exception without fields, made -/
section
variable {X : Cx}
theorem mk_endN {pins : List (Addr × Obj)} {σ : L2.St} {H1 H2 : Hp} {Q : XK} {hp hp2 h2 : Heap} {g1 g2 : Array GenState} {d1 d2 : Drawn} {t1 t2 : Nat} {os1 os2 : OsState} {a C : Addr} (T : Raises X (.ref C)) (I1 : Inv X pins σ H1 ⟨hp, g1, d1, t1, os1⟩)
    (ha : hp.objs.size ≤ a) (k : ∀ b o, hp.get? b = some o → hp2.get? b = some o) (un : Un (frs X.stack) [] (upd H1 a (exo a C none)) H2 hp2 h2) (hok : HOk X.prog X.w H2 h2) (ho : os2 = os1) (hb : AllBare g2)
    (ea : H2 a = some (exo a C none)) (q : Q (.ref C) none (del H2 a)) : MkP X pins σ Q (.ref a) ⟨h2, g2, d2, t2, os2⟩ := by
  obtain ⟨t0, hoe⟩ := exo_at hok ea
  have hn : H1 a = none := I1.hok.fresh ha
  obtain ⟨G, g1', g2'⟩ := restrict h2 fun b => decide (b ≠ a)
  have gk : ∀ b, b ≠ a → G.get? b = h2.get? b := fun b hb => g1' b (decide_eq_true hb)
  have ge : G.get? a = none := g2' a (by simp)
  have nha : ∀ {b : Addr} {o : Obj}, hp.get? b = some o → b ≠ a := fun {b o} z => Nat.ne_of_lt (Nat.lt_of_lt_of_le (Heap.lt_size z) ha)
  have up : ∀ {b : Addr}, b ≠ a → H1 b = none → upd H1 a (exo a C none) b = none := fun {b} hb n => by rw [upd_ne hb]; exact n
  have U : Un (frs X.stack) [] H1 (del H2 a) hp G := {
    keep := fun b o z n hf hx => by
      rw [gk b (nha z)]
      exact un.keep b o (k b o z) (up (nha z) n) hf hx
    slot := fun b o z n hf hx => by
      rw [gk b (nha z)]
      exact un.slot b o (k b o z) (up (nha z) n) hf hx
    free := fun b o z n hx => by
      rw [del_ne (nha z)]
      exact un.free b o (k b o z) (up (nha z) n) hx
    there := fun b o z hx => by
      rw [gk b (nha z)]
      exact un.there b o (k b o z) hx
    tups := fun b xs z => by
      rw [del_ne (ne_of_none z hn)]
      exact un.tups b xs (by rw [upd_ne (ne_of_none z hn)]; exact z)
    frzs := fun b o v z => by
      rw [del_ne (ne_of_none z hn)]
      exact un.frzs b o v (by rw [upd_ne (ne_of_none z hn)]; exact z)
    tbls := fun b ps z => by
      rw [del_ne (ne_of_none z hn)]
      exact un.tbls b ps (by rw [upd_ne (ne_of_none z hn)]; exact z) }
  have hok3 : HOk X.prog X.w (del H2 a) G := fun b o z => by
    have hba : b ≠ a := fun e => by
      rw [e, del_same] at z
      cases z
    rw [del_ne hba] at z
    have noa : ∀ {c : Addr}, H2 c = some (.own b) → c ≠ a := fun {c} hc => at_ne ea hc exo_own
    exact (hok b o z).stay (fun c v hc y => by
        have hca : c ≠ a := by
          rcases hc with hc | hc
          · rw [hc]
            exact hba
          · exact noa hc
        rw [gk c hca]
        exact y)
      (fun c hc => by rw [del_ne (noa hc)]; exact hc) (fun c xs hc => by rw [del_ne (at_ne ea hc exo_tup)]; exact hc)
  have J : Inv X pins σ (del H2 a) ⟨G, g2, d2, t2, os2⟩ := I1.call' (ch := []) ho U hok3 hb (fun b z => absurd z (by simp))
  refine ⟨a, _, _, ⟨G, g2, d2, t2, os2⟩, _, .ref C, none, rfl, J, fun b o z => ?_, ge, hoe, ⟨rfl, rfl⟩, rfl, rfl, del_same, rfl, hb, T, q⟩
  by_cases hba : b = a
  · rw [hba, ge] at z
    cases z
  · exact (gk b hba).symm.trans z
/-- C(), C's own __init__ keeping sp and making no field -/
def tMkN (C : Addr) (sp : Sp) : L2.St → Hp → XK → Prop := fun _ H Q => ∀ a, H a = none → sp [.ref a] (upd H a (exo a C none)) (fun v H2 => v = .non ∧ H2 a = some (exo a C none) ∧ Q (.ref C) none (del H2 a)) (fun _ _ _ => False)
theorem pmk_oexN {CX : CXT} {x : Str} {C fI : Addr} {k : Nat} {fd : FuncData} {ps : List Str} {sp : Sp} {p pos : Pos} (T : OexC X.K C) (iC : PySem.W.findIn X.K (.ref C) "__init__" = some (some (.ref fI))) (tI : PySem.W.typeIn X.K (.ref fI) = some (.type "function"))
    (F1 : FnOk X.prog X.w X.K X.mg X.base CX k fI fd ps sp) (hr : Room (k + 1) X.A) (hb : Binds X.K fd ps []) (hx : Passes CX X (fun _ _ _ => False)) (hg : Gl X x) (hm : X.mg x = some (.ref C))
    (hdb : (x == ("__debug__" : Str)) = false := by decide) : PMk X (.Call (.Name x p) [] [] pos) (tMkN C sp) := by
  intro pins s σ H1 Q I1 q1
  obtain ⟨nm, q, N, bs, bm, sn, sub, ab, col, dd, k0, k1, k2, k3, k5, hC, hbm⟩ := T.cls
  refine wpAny_Call_Name_kw (ld_glob I1 hg hm ?_ hdb)
  refine PySem.W.callWith_K0 I1.kIn T.kC ?_
  show wpAny _ _ (call (.ref C) []) _ _ _
  obtain ⟨hp, g, dr, tk, os⟩ := s
  have hsz : hp.objs.size ≤ hp.objs.size + 1 := Nat.le_succ _
  have hn : H1 (hp.objs.size + 1) = none := I1.hok.fresh hsz
  have hq := q1 (hp.objs.size + 1) hn
  have kk : ∀ b o, hp.get? b = some o → ((hp.push (PySem.W.kdv_tup [])).push (PySem.HandSPX.excO C hp.objs.size)).get? b = some o := fun b o e => Heap.get?_push_of_some _ (Heap.get?_push_of_some _ e)
  have hget : ((hp.push (PySem.W.kdv_tup [])).push (PySem.HandSPX.excO C hp.objs.size)).get? (hp.objs.size + 1) = some (PySem.HandSPX.excO C hp.objs.size) := by heap_get
  have I2 : Inv X pins σ (upd H1 (hp.objs.size + 1) (exo (hp.objs.size + 1) C none)) ⟨(hp.push (PySem.W.kdv_tup [])).push (PySem.HandSPX.excO C hp.objs.size), g, dr, tk, os⟩ :=
    I1.laid (t' := tk) (a := hp.objs.size + 1) (o := exo (hp.objs.size + 1) C none) (h' := (hp.push (PySem.W.kdv_tup [])).push (PySem.HandSPX.excO C hp.objs.size)) kk hsz (exo_ok hget)
  have r2 : Vals [V.ref (hp.objs.size + 1)] [Value.ref (hp.objs.size + 1)] := .cons rfl .nil
  have hl : ([Value.ref (hp.objs.size + 1)] ++ []).length = ps.length := by
    have e := r2.length
    rw [F1.len _ _ _ _ hq] at e
    exact e.symm
  refine wpAny_call (PySem.HandSPX.call_own PySem.F.excBase_ValueError (fun Y => PySem.HandSPX.refsVE_contains Y bm hbm) (I1.kIn _ _ hC) (PySem.W.looks_findIn I1.kIn iC) (fun self => PySem.W.bind_fn I1.kIn self tI) (Nat.zero_le _)
    (codeAny_mono (F1.run _ X.stack _ _ ⟨[Value.ref (hp.objs.size + 1)], []⟩ [Value.ref (hp.objs.size + 1)] _ _ (fun _ _ _ => False) (hr.make C [] []) (I2.env0.make C [] []) (hb _ [Value.ref (hp.objs.size + 1)] I2.kIn hl) r2 hq) fun r s' hq' => ?_))
  cases r with
  | error er => exact hx pins σ _ _ er s' I2 hq'
  | ok fl =>
    cases fl with
    | ret u =>
      obtain ⟨v, H2, os2, bare2, un2, hok2, rv, ev, ea, q2⟩ := hq'
      subst ev
      obtain ⟨h2, g2, d2, t2, os'⟩ := s'
      exact ⟨rv, mk_endN (raises_own T.exC T.tyC) I1 hsz kk un2 hok2 os2 bare2 ea q2⟩
    | next => exact False.elim hq'
    | brk => exact False.elim hq'
    | cont => exact False.elim hq'
end
/-! ### a call of a local name that holds a def, which may raise -/
section
variable {X : Cx} {CX : CXT} {k i : Nat} {f : Addr} {fd : FuncData} {ps : List Str} {sp : Sp} {E : L2.St → XK} {x : Str} {p pos : Pos} {e : Expr} {es : List Expr} {t : TA}
def tCallLS (i : Nat) (f : Addr) (sp : Sp) (E : L2.St → XK) (t : TA) : TE := fun σ H Q => σ[i]? = some (some (.ref f)) ∧ t σ H fun vs H1 => sp vs H1 Q (E σ)
theorem pe_callLS (F : FnOk X.prog X.w X.K X.mg X.base CX k f fd ps sp) (hr : Room k X.A) (hN : X.N[i]? = some x) (hv : Vis X.env.scope x) (hk : PySem.W.keepIn X.K (.ref f) = true) (hb : Binds X.K fd ps []) (hx : ∀ σ, PassesAt CX X σ (E σ)) (ha : PA X (e :: es) t)
    (hdb : (x == ("__debug__" : Str)) = false := by decide) (hcd : (x == ("__classdict__" : Str)) = false := by decide)
    (he : starEach (e :: es) X.env = (false, eval e X.env) :: starEach es X.env := by rfl) (hpl : (backTo pos (starEach es X.env)).any (·.1) = false := by rfl) : PE X (.Call (.Name x p) (e :: es) [] pos) (tCallLS i f sp E t) := by
  refine ⟨fun pins s σ H Q I h => ?_⟩
  obtain ⟨hs, ht⟩ := h
  refine wpAny_Call_Name_kw (thn ((pe_var (pos := p) hN hv hdb hcd).run pins s σ H (fun v H1 => v = .ref f ∧ H1 = H) I ⟨.ref f, hs, rfl, rfl⟩) fun u s1 ⟨v, H1, I1, r1, q1⟩ => ?_)
  obtain ⟨rfl, rfl⟩ := q1
  cases r1
  refine PySem.W.callWith_K (h₀ := X.base) I.ok.mod.kin hk (thn (ha.run pos pins s1 σ _ _ I1 ht) fun us s2 ⟨vs, H2, I2, r, q⟩ => ⟨I2.kIn, ?_⟩) he hpl
  exact run_fnS F hr hb (hx σ) I2 r q
end
/-! ### isinstance of a caught error of an own class without fields -/
def rIsX (K : PySem.W.Frag) (a : Addr) (cls : Value) (d : Option Addr) : List V → Hp → VK → Prop := fun xs H Q => ∃ (D : Addr) (c : V) (cv : Value) (b : Bool), cls = .ref D ∧ d = none ∧ ExcC K D ∧ xs = [.ref a, c] ∧ (∀ u, L2.RelV c u → u = cv) ∧ PySem.W.kitOne K (.ref D) cv = some b ∧ Q (.bl b) H
theorem call_isX {X : Cx} {a : Addr} {oe : Obj} {cls : Value} {d : Option Addr} {pn : List (Addr × Obj)} (hz : Zc cls d oe) (hf : ∃ vs, oe.data = .fields vs) : CallR (X.suite a ((a, oe) :: pn)) (.builtin "isinstance") (rIsX X.K a cls d) := by
  intro pins s σ H xs us Q I r h
  obtain ⟨D, c, cv, b, rfl, rfl, C, rfl, hc, e, q⟩ := h
  exact call_isE C hz hf pins s σ H [.ref a, c] us Q I r ⟨c, cv, b, rfl, hc, e, q⟩
/-! ### what a law's text says of an own exception -/
/-- ExcT C f c cc: the class at C over SamphireError .. over ValueError, with its own __init__ at f -/
structure ExcT (P : Program) (K : PySem.W.Frag) (mg : Str → Option Value) (name : Str) (C f c cc : Addr) : Prop where
  S : SupC P K mg C f c cc
  g : mg name = some (.ref C)
  iC : PySem.W.findIn K (.ref C) "__init__" = some (some (.ref f))
  tI : PySem.W.typeIn K (.ref f) = some (.type "function")
  is : ExcC K C
  te : PySem.W.exmOne K (.ref C) (.ref C) = some true
theorem ExcT.xf {P : Program} {K : PySem.W.Frag} {mg : Str → Option Value} {name : Str} {C f c cc : Addr} (T : ExcT P K mg name C f c cc) : XfC K C := ⟨T.is.hg, T.is.hk, T.is.hs, T.is.hd⟩
/-- what k_is finds, put together -/
theorem excT_mk {P : Program} {K : PySem.W.Frag} {mg : Str → Option Value} {name : Str} {C f c cc : Addr} {nm q : Str} {N : Addr} {bs bm : List Value} {sn : List Str} {sub : List Value} {ab : Bool} {col : Option Bool} {dd : Option Addr} {m0 m1 m2 m3 m5 : Option Value}
    {occ : Value} {cdd : Option Addr} {cvs : List Value} {csl : Array (Option Value)} {ccl : Value} {ccd : Option Addr} {ccs : Array (Option Value)}
    (xL : K.lookup C = some (excClassObj nm q C N bs bm true sn sub ab col dd m0 m1 m2 m3 m5 "ValueError.__new__")) (rv : PySem.HandSPX.refsVE bm = true)
    (sa : PySem.W.findIn K (.ref C) "__setattr__" = some (some (.builtin "object.__setattr__"))) (sB : PySem.W.subIn K (.ref C) (.type "BaseException") = some true) (tC : PySem.W.typeIn K (.ref C) = some (.type "type")) (kC : PySem.W.keepIn K (.ref C) = true)
    (code : K.lookup c = some ⟨occ, cdd, .fields cvs.toArray, csl⟩) (hfile : (match cvs with | _ :: _ :: .str file _ :: _ => (P.main.file : Str) == file | _ => false) = true)
    (cell : K.lookup cc = some ⟨ccl, ccd, .cell (some (.ref C)), ccs⟩) (mro : PySem.W.mroIn K C (.ref C) = some true) (sV : PySem.W.subIn K (.ref C) (.type "ValueError") = some true) (zs : mg "super" = none)
    (any : PySem.W.nsIn K PySem.cStatics "thirdparty.any" = some none) (sup : PySem.W.ks_superIn K C C "__init__" = some (some (.builtin "ValueError.__init__"))) (top : (P.main.scope.names.lookup ("super" : Str)).isSome = false)
    (g : mg name = some (.ref C)) (iC : PySem.W.findIn K (.ref C) "__init__" = some (some (.ref f))) (tI : PySem.W.typeIn K (.ref f) = some (.type "function")) (is : ExcC K C) (isc : PySem.W.isClsIn K C = true) (sC : PySem.W.subIn K (.ref C) (.ref C) = some true) : ExcT P K mg name C f c cc where
  S := {
    T := ⟨⟨nm, q, N, bs, bm, sn, sub, ab, col, dd, m0, m1, m2, m3, m5, xL, rv⟩, sa, sB, tC, kC⟩
    cd := ⟨_, by unfold PySem.W.clsIn; rw [xL] <;> rfl⟩
    code := by
      match cvs, code, hfile with
      | a :: b :: .str file tf :: r, code, hfile => exact ⟨_, _, _, _, file, tf, code, rfl, hfile⟩
    cell := ⟨_, _, _, cell⟩
    sub := mro
    subV := sV
    zs := zs
    any := any
    sup := sup
    top := top }
  g := g
  iC := iC
  tI := tI
  is := is
  te := PySem.W.exm_ref sB is.hd tC sC
end Sup

/-! ### list(reversed(a list)) -/
namespace RL
open PySem PySem.Spec PyProof.Rows RT L2
section
variable {prog : Program} {w : World} {A : Around} {E : Value → Shared → Prop} {s : Shared}
theorem extend_rev {R : Result → Shared → Prop} {S it l : Addr} {items : Array Value} {res : Value} {c₀ : Nat} (hh : A.handled = none) (hit : s.heap.IsRevIter it l ((items.size : Int) - 1)) (hl : s.heap.IsList l items) (hne : l ≠ it) (hSi : S ≠ it) (hSl : S ≠ l) (hn : items.size ≤ sizeLine)
    (hS : s.heap.get? S = some { cls := .type "list", data := .seq #[] c₀ })
    (hR : ∀ s' acc' c', Moved (S :: [it]) (fun a b => b = a) s s' → s'.heap.get? S = some { cls := .type "list", dict := none, data := .seq acc' c', slots := #[] } → ItemsOf (fun i v => items[items.size - 1 - i]? = some v) acc' items.size → R (.ok (.ret res)) s') :
    wpAny (model prog w) A.in1 (Builtin.List.listExtendWith (.ref S) (.ref it) res)
      (fun fin s' => match fin with | .done f => R (.ok f) s' | .again c' => c'.quiet = true ∧ codeAny (model prog w) A c' R s') (fun e s' => R (.error e) s') s := by
  have W := (Walks.listRev (prog := prog) (w := w) (A := A.in1) hh it l hne items).toS
  have hSf : S ∉ [it, l] := by simp only [List.mem_cons, List.not_mem_nil, or_false, not_or]; exact ⟨hSi, hSl⟩
  have hT : s.TypeIs (.ref it) "list_reverseiterator" := Heap.IsRevIter.typeIs hit
  have h1 : Builtin.List.listSameRef (.ref S) (.ref it) = false := by simp [Builtin.List.listSameRef, hSi]
  unfold Builtin.List.listExtendWith
  refine wpAny_bind (wpAny_typeOf hT ?_)
  rw [if_neg (by rw [h1]; decide)]
  refine wpAny_bind (wpAny_pyIter_revIter hit ?_)
  refine wpAny_bind (wpAny_holding ?_)
  unfold Builtin.List.listLengthHint
  refine wpAny_bind (wpAny_specialOf hT nolen_lri ?_)
  show wpAny _ A.in1 (specialOf (Value.ref it) (Str.ofString "__length_hint__") >>= _) _ _ _
  refine wpAny_bind (wpAny_specialOf hT hint_lri ?_)
  generalize hid : ("list_reverseiterator.__length_hint__" : String) = id0
  wp_delta
  rw [show splitId id0 = some ("list_reverseiterator", "__length_hint__") from by subst hid; decide +kernel]
  subst hid
  refine wpAny_bind (wpAny_isInstance (b := true) hT (by rw [isSubtype_type]; kernel_rfl) ?_)
  refine wpAny_pure ?_
  rw [if_neg (by decide)]
  have e0 : ((items.size : Nat) : Int) - 1 - ((0 : Nat) : Int) = (items.size : Int) - 1 := by omega
  refine wpAny_pure ⟨plainId_quiet F.plain_extend_loop _, codeAny_extend_loopS W hn _ hSf _ items.size 0 _ _ _ rfl (Nat.zero_le _) ⟨Nat.zero_le _, by rw [e0]; exact hit, hl⟩ hS (ItemsOf.nil _) fun s' acc' c' hm hS' hacc => ?_⟩
  exact hR s' acc' c' hm hS' hacc
theorem init_rev {R : Result → Shared → Prop} {S it l : Addr} {items : Array Value} (hh : A.handled = none) (hit : s.heap.IsRevIter it l ((items.size : Int) - 1)) (hl : s.heap.IsList l items) (hne : l ≠ it) (hSi : S ≠ it) (hSl : S ≠ l) (hn : items.size ≤ sizeLine)
    (hS : s.heap.get? S = some { cls := .type "list", data := .seq #[] })
    (hR : ∀ (h' : Heap) (tk : Nat) (acc : Array Value) (c' : Nat), (∀ b o, b ≠ S → b ≠ it → s.heap.get? b = some o → h'.get? b = some o) → h'.get? S = some { cls := .type "list", dict := none, data := .seq acc c', slots := #[] } → ItemsOf (fun i v => items[items.size - 1 - i]? = some v) acc items.size → R (.ok (.ret .none)) { s with heap := h', toks := tk }) :
    wpAny (model prog w) A.in1 (Builtin.«list.__init__» ⟨[.ref S, .ref it], []⟩)
      (fun fin s' => match fin with | .done f => R (.ok f) s' | .again c' => c'.quiet = true ∧ codeAny (model prog w) A c' R s') (fun e s' => R (.error e) s') s := by
  show wpAny _ A.in1 (do let old ← Builtin.List.listItems (.ref S); Builtin.List.listUpdate (.ref S) (fun _ => #[]); letGo old.toList.reverse; Builtin.List.listExtendWith (.ref S) (.ref it) .none) _ _ s
  refine wpAny_bind ?_
  unfold Builtin.List.listItems
  refine wpAny_bind (wpAny_seqItems hS rfl (wpAny_pure ?_))
  show wpAny _ A.in1 (updateSeq S (fun _ => #[]) >>= fun _ => letGo (#[] : Array Value).toList.reverse >>= fun _ => Builtin.List.listExtendWith (.ref S) (.ref it) .none) _ _ s
  refine wpAny_bind (wpAny_updateSeq hS rfl ?_)
  have hS₂ := Heap.get?_update_self (Obj.mapSeq (fun _ => (#[] : Array Value))) hS rfl
  have oth : ∀ b o, b ≠ S → s.heap.get? b = some o → (s.heap.update S (Obj.mapSeq (fun _ => (#[] : Array Value)))).get? b = some o :=
    fun b o hb e => (Heap.get?_update_other _ _ (Ne.symm hb)).trans e
  refine wpAny_bind (wpAny_letGo ?_)
  refine extend_rev (s := { s with heap := s.heap.update S (Obj.mapSeq (fun _ => (#[] : Array Value))) }) hh (hit.at fun o e => oth it o hSi.symm e) (by obtain ⟨o, ho, x⟩ := hl; exact ⟨o, oth l o hSl.symm ho, x⟩) hne hSi hSl hn hS₂ fun s' acc' c' hm hS' hacc => ?_
  rw [Moved.eq_with hm]
  exact hR s'.heap s'.toks acc' c' (fun b o hb hb2 e => hm.heap b o (by simp [hb, hb2]) (oth b o hb e)) hS' hacc
theorem call_list_rev {it l : Addr} {items : Array Value} {Q : Value → Shared → Prop} (hh : A.handled = none) (hit : s.heap.IsRevIter it l ((items.size : Int) - 1)) (hl : s.heap.IsList l items) (hne : l ≠ it) (hn : items.size ≤ sizeLine)
    (hQ : ∀ (h' : Heap) (tk : Nat) (acc : Array Value) (c' : Nat), (∀ b o, b ≠ it → s.heap.get? b = some o → h'.get? b = some o) → h'.get? s.heap.objs.size = some { cls := .type "list", dict := none, data := .seq acc c', slots := #[] } → ItemsOf (fun i v => items[items.size - 1 - i]? = some v) acc items.size → Q (.ref s.heap.objs.size) { s with heap := h', toks := tk }) :
    wpAny (model prog w) A (call (.type "list") [.ref it]) Q E s := by
  refine callType_codes (Q₁ := fun obj s₁ => obj = .ref s.heap.objs.size ∧ s₁ = { s with heap := s.heap.push { cls := .type "list", data := .seq #[] } }) F.called_list (F.typeCall_list_1 _) F.entry_list_init
    (code_list_new _ ⟨rfl, rfl⟩) fun obj s₁ h₁ => ?_
  obtain ⟨rfl, rfl⟩ := h₁
  have hS : (s.heap.push { cls := .type "list", data := .seq #[] }).get? s.heap.objs.size = some { cls := .type "list", data := .seq #[] } := Heap.get?_push_size _ rfl
  obtain ⟨oi, hoi, _⟩ := id hit
  obtain ⟨ol, hol, _⟩ := id hl
  refine ⟨⟨_, hS, rfl⟩, F.args_list_init_2 _ _, init_rev (A := A.in1) (s := { s with heap := s.heap.push { cls := .type "list", data := .seq #[] } }) hh (hit.at fun o e => Heap.get?_push_of_some _ e) (hl.push _) hne (Nat.ne_of_gt (Heap.lt_size hoi)) (Nat.ne_of_gt (Heap.lt_size hol)) hn hS fun h' tk acc c' hk hS' hacc => ?_⟩
  exact ⟨rfl, hQ h' tk acc c' (fun b o hb e => hk b o (Nat.ne_of_lt (Heap.lt_size e)) hb (Heap.get?_push_of_some _ e)) hS' hacc⟩
end
section
variable {X : Cx}
/-- list(reversed(xs)): a new list -/
def tListRev (K : PySem.W.Frag) (te : TE) : TE := fun σ H Q => te σ H fun x H1 => ∃ a xs, x = .ref a ∧ SqL K H1 a xs ∧ ∀ p, H1 p = none → Q (.ref p) (upd H1 p (.lst xs.reverse))
theorem pe_listRev {e : Expr} {te : TE} {p p2 pos pos2 : Pos} (hc : X.calm = true) (hg : Gl X "list") (hm : X.mg "list" = none) (hg2 : Gl X "reversed") (hm2 : X.mg "reversed" = none) (he : PE X e te)
    (hs : starEach [e] X.env = (false, eval e X.env) :: starEach [] X.env := by rfl)
    (hs2 : starEach [.Call (.Name "reversed" p2) [e] [] pos2] X.env = (false, eval (.Call (.Name "reversed" p2) [e] [] pos2) X.env) :: starEach [] X.env := by rfl) :
    PE X (.Call (.Name "list" p) [.Call (.Name "reversed" p2) [e] [] pos2] [] pos) (tListRev X.K te) := by
  refine ⟨fun pins s σ H Q I h => ?_⟩
  refine Call_ (ld_blt I hg hm boot_list (PyProof.Rows.callWith_type1 (args_cons (Call_ (ld_blt I hg2 hm2 PyProof.Rows.boot_reversed (PyProof.Rows.callWith_type1 (args_cons (thn (he.run pins s σ H _ I h) fun u s1 ⟨v, H1, I1, r1, q1⟩ => args_nil ?_) hs) hs rfl))) hs2) hs2 rfl))
  obtain ⟨a, xs, ev, hq, q⟩ := q1
  subst ev
  obtain rfl : u = Value.ref a := r1
  obtain ⟨its, rv, p', hz⟩ := I1.list hq
  refine call_reversed_list p'.isList (args_nil ?_)
  have k0 : ∀ b o, s1.heap.get? b = some o → (s1.heap.push (revObj a ((its.toArray.size : Int) - 1))).get? b = some o := fun b o e => Heap.get?_push_of_some _ e
  have hl := p'.isList
  obtain ⟨ol, hol, _⟩ := id hl
  have hne : a ≠ s1.heap.objs.size := Nat.ne_of_lt (Heap.lt_size hol)
  have hn : its.toArray.size ≤ sizeLine := by rw [List.size_toArray, ← rv.length]; exact hz
  refine call_list_rev (s := { s1 with heap := s1.heap.push (revObj a ((its.toArray.size : Int) - 1)) }) (I1.ok.hd hc) ⟨_, Heap.get?_push_size _ rfl, rfl, rfl⟩ (hl.push _) hne hn fun h' tk acc c' hk hS' hi => ?_
  have hle : s1.heap.objs.size ≤ (s1.heap.push (revObj a ((its.toArray.size : Int) - 1))).objs.size := by simp [Heap.push]
  have ea : acc.toList.toArray = acc := by simp
  exact ⟨.ref (s1.heap.push (revObj a ((its.toArray.size : Int) - 1))).objs.size, upd H1 (s1.heap.push (revObj a ((its.toArray.size : Int) - 1))).objs.size (.lst xs.reverse), I1.laid (t' := tk) (fun c o e => hk c o (Nat.ne_of_lt (Heap.lt_size e)) (k0 c o e)) hle (show ObjOk X.prog X.w _ _ _ (.lst xs.reverse) from ⟨by rw [List.length_reverse]; exact hz, acc.toList, c', vals_rev rv hi, by rw [ea]; exact hS'⟩), rfl, q _ (I1.hok.fresh hle)⟩
end
end RL
/-! ### xs.extend(a tuple) -/
namespace RL
open PySem PySem.Spec PyProof.Rows RT L2
theorem meets_extend_tup (l : Addr) (items : Array Value) (n : Nat) (b : Addr) (items2 : Array Value) (n2 : Nat) (o : Obj) (hc : o.cls = .type "tuple") (hd : o.data = .seq items2 n2) (hs1 : items.size + items2.size ≤ sizeLine) :
    Meets (Builtin.«list.extend» ⟨[.ref l, .ref b], []⟩) (fun _ R s => s.heap.get? l = some { cls := .type "list", dict := none, data := .seq items n, slots := #[] } ∧ s.heap.get? b = some o ∧ R (.ok (.ret Value.none)) { s with heap := s.heap.update l (Obj.mapSeq fun x => x ++ items2), toks := s.toks }) :=
  .of_wp fun prog w A R s h => by
    obtain ⟨hl, hb, h⟩ := h
    show wpAny _ _ (Builtin.List.listExtendWith (.ref l) (.ref b) .none) _ _ _
    unfold Builtin.List.listExtendWith
    refine wpAny_bind (wpAny_typeOf ⟨o, hb, hc⟩ ?_)
    have h1 : (Builtin.List.listSameRef (.ref l) (.ref b) || Value.type "tuple" == Value.type "list" || Value.type "tuple" == Value.type "tuple") = true := by simp
    simp only [h1, if_true]
    refine wpAny_bind ?_
    unfold Builtin.List.listItems
    refine wpAny_bind (wpAny_seqItems hb hd (wpAny_pure ?_))
    refine wpAny_bind ?_
    refine wpAny_bind (wpAny_seqItems hl rfl (wpAny_pure ?_))
    have hlong : ¬ (!items.isEmpty && Builtin.List.listTooLong (items.size + items2.size)) = true := by
      rw [notLongL hs1, Bool.and_false]
      exact Bool.false_ne_true
    rw [if_neg hlong]
    show wpAny _ _ (updateSeq l (· ++ items2) >>= fun _ => ret .none) _ _ s
    refine wpAny_bind (wpAny_updateSeq hl rfl (hz := by omega) (_hz' := by rw [Array.size_append]; omega) ?_)
    exact wpAny_pure ⟨_, rfl, h⟩
section
variable {X : Cx}
def rExtT : V → List V → Hp → VK → Prop := fun x vs H Q => ∃ l b xs zs, x = .ref l ∧ vs = [.ref b] ∧ H l = some (.lst xs) ∧ H b = some (.tup zs) ∧ xs.length + zs.length ≤ sizeLine ∧ Q .non (upd H l (.lst (xs ++ zs)))
theorem mt_extendT : MtM X "list.extend" rExtT := by
  intro pins s σ H x vs v us Q I rx rv h
  obtain ⟨l, b, xs, zs, rfl, rfl, hH, hB, hz, q⟩ := h
  cases rx
  obtain ⟨u, rfl, ru⟩ := rv.one
  cases ru
  obtain ⟨z, its, n, r, hl, e⟩ := I.lstM hH
  obtain ⟨its2, r2, ⟨o, ho, hc, n2, hd⟩, hz2⟩ := I.tuple (SqT.of hB)
  have hl2 := r2.length
  refine call_meets PySem.F.slot_list_extend ⟨_, e, rfl⟩ PySem.F.entry_list_extend (PySem.F.args_list_extend_2 _ _)
    (meets_extend_tup l its.toArray n b its2.toArray n2 o hc hd (by rw [List.size_toArray, List.size_toArray]; omega)) ⟨e, ho, ?_⟩
  refine ⟨.non, _, I.lset (its' := its ++ its2) hH e (by simp) (r.append r2) ?_, rfl, q⟩
  rw [List.length_append]
  omega
end
end RL
/-! ### enumerate(a list, start=k) -/
namespace RL
open PySem PySem.Spec PyProof.Rows L2
section
variable {M : Model} {A : Around} {E : Value → Shared → Prop} {s : Shared} {env : Env}
theorem callWith_type_kwB {pos : Pos} {T : String} {first : List Value} {args : List (Bool × Sem Value)} {keywords : List (Option Str × Sem Value)} {Q : Value → Shared → Prop}
    (hplain : args.any (·.1) = false) (hkw : keywords.any (·.1.isNone) = false)
    (h : wpAny M A (evalArgs (.type T) true args keywords) (fun a s₁ => wpAny M A (call (.type T) (first ++ a.pos) a.kw) Q E s₁) E s) :
    wpAny M A (callWith pos (.type T) first args keywords) Q E s := by
  unfold callWith
  refine wpAny_bind (wpAny_holding (wpAny_mono h (fun a s₁ h₁ => wpAny_bind (wpAny_standAt ?_)) fun _ _ x => x))
  simp only [hplain, hkw, Bool.or_false]
  refine wpAny_bind (wpAny_pure ?_)
  exact wpAny_bind (wpAny_mono h₁ (fun r s₂ hr => wpAny_bind (wpAny_holding (wpAny_point (wpAny_pure hr)))) fun _ _ x => x)
theorem callWith_type_kw {pos : Pos} {T : String} {e : Expr} {rest : List Expr} {kws : List Keyword} {Q : Value → Shared → Prop}
    (h : wpAny M A (spliced (backTo pos (starEach (e :: rest) env))) (fun vs s₁ => wpAny M A (evalAll ((backToKw pos (keywordEach kws env)).map (·.2)))
      (fun kvs s₂ => wpAny M A (call (.type T) vs (((backToKw pos (keywordEach kws env)).filterMap (·.1)).zip kvs)) Q E s₂) E s₁) E s)
    (he : backTo pos (starEach (e :: rest) env) = (false, eval e env) :: backTo pos (starEach rest env))
    (hplain : (backTo pos (starEach (e :: rest) env)).any (·.1) = false)
    (hall : (backToKw pos (keywordEach kws env)).all (·.1.isSome) = true)
    (hkw : (backToKw pos (keywordEach kws env)).any (·.1.isNone) = false) :
    wpAny M A (callWith pos (.type T) [] (backTo pos (starEach (e :: rest) env)) (backToKw pos (keywordEach kws env))) Q E s := by
  refine callWith_type_kwB hplain hkw ?_
  rw [he] at h ⊢
  exact evalArgs_kwB hall h
end
/-- the list at a as it stands at each turn, each item in a new pair, counted from k -/
def IteS (K : PySem.W.Frag) (a : Addr) (k : Int) : It :=
  ⟨fun i H => ∃ (xs : List V) (x : V), SqL K H a xs ∧ xs[i]? = some x, fun i H v H' => ∃ T x, v = .ref T ∧ H T = none ∧ H' = upd H T (.tup [.int (k + (i : Nat)), x]) ∧ ∀ xs, SqL K H a xs → xs[i]? = some x, fun i H => ∃ xs : List V, SqL K H a xs ∧ xs.length = i⟩
theorem turn_enumS {P : Program} {w : World} {K : PySem.W.Frag} {elts : List Expr} {kk : Nat} {tpos : Pos} (a e it : Addr) (k : Int) :
    Turn P w K (.Tuple elts kk tpos) (IteS K a k) [e, it] e (fun i h => (∃ old, IsEnum h e it (k + ((i : Nat) : Int)) old) ∧ h.IsListIter it a i ∧ e ≠ it ∧ e ≠ a ∧ a ≠ it) where
  mem := by simp
  obj := fun i h st b hb => by
    obtain ⟨⟨old, he⟩, ⟨o, ho, hc, hd⟩, _⟩ := st
    have e' : b = e ∨ b = it := by simpa using hb
    rcases e' with z | z
    · rw [z]; exact ⟨_, he, fun v q => nomatch q⟩
    · rw [z]; exact ⟨o, ho, fun v q => by rw [hd] at q; cases q⟩
  keep := fun i h h' st k => let ⟨⟨old, he⟩, hi, hne⟩ := st; ⟨⟨old, k e (by simp) _ he⟩, hi.at fun o q => k it (by simp) o q, hne⟩
  item := by
    intro X hP hw hK hc i pins s σ H E I hf st hg
    subst hP hw hK
    obtain ⟨⟨old, he⟩, hit, hne, hea, hai⟩ := st
    obtain ⟨xs, x, hq, hx⟩ := hg
    obtain ⟨its, rv, p, hz⟩ := I.list hq
    obtain ⟨u, hu, ru⟩ := rv.get hx
    have hel : e < s.heap.objs.size := Heap.lt_size he
    have hil : it < s.heap.objs.size := by obtain ⟨_, q, _⟩ := hit; exact Heap.lt_size q
    have D := Draws.list (prog := X.prog) (w := X.w) (A := X.A.in1) (I.ok.hd hc) it a hai its.toArray
    have hlt : i < its.toArray.size := by
      have := (List.getElem?_eq_some_iff.mp hu).1
      simpa using this
    refine wpAny_pyNext_enum_itemC D he ⟨hit, p.isList⟩ hlt hne (by simp [hne, hea]) fun u' h' tk hu' ho hst' hT hsz hk => ?_
    have euu : u' = u := by
      have z : its.toArray[i]? = some u := by simpa using hu
      rw [z] at hu'
      exact (Option.some.inj hu').symm
    subst euu
    refine ⟨_, rfl, wpAny_letOwnedTupleGo_enum (s := { s with heap := h', toks := tk + 1 }) ho fun h'' he' sb => ?_⟩
    have hT2 : h''.get? s.heap.objs.size = some { cls := .type "tuple", data := .seq #[.int (k + (i : Nat)) tk, u'] } := (sb.2 _ (Nat.ne_of_gt hel)).trans hT
    have new : ObjOk X.prog X.w (upd H s.heap.objs.size (.tup [.int (k + (i : Nat)), x])) h'' s.heap.objs.size (.tup [.int (k + (i : Nat)), x]) :=
      ⟨by show 2 ≤ sizeLine; decide, [.int (k + (i : Nat)) tk, u'], .cons ⟨_, rfl⟩ (.cons ru .nil), ⟨_, hT2, rfl, _, rfl⟩⟩
    have I1 : Inv X pins σ (upd H s.heap.objs.size (.tup [.int (k + (i : Nat)), x])) { s with heap := h'', toks := tk + 1 } :=
      I.turnedNew (ch := [e, it]) (fun b ob hb q => (sb.2 b (fun z => hb (by simp [z]))).trans (hk b ob (fun z => hb (by simp [z])) (fun z => hb (by simp [z])) q)) hf (Nat.le_refl _) new
    refine ⟨.ref s.heap.objs.size, _, I1, rfl, ⟨_, x, rfl, I.hok.fresh (Nat.le_refl _), rfl, fun ys hy => by rw [I.list_inj hy hq]; exact hx⟩, ⟨⟨u', ?_⟩, hst'.1.at fun o q => (sb.2 it (Ne.symm hne)).trans q, hne, hea, hai⟩, fun b hb => ?_⟩
    · have e1 : k + ((i + 1 : Nat) : Int) = k + (i : Int) + 1 := by omega
      rw [e1]; exact he'
    · have hb' : b < s.heap.objs.size := by
        have e' : b = e ∨ b = it := by simpa using hb
        rcases e' with z | z
        · rw [z]; exact hel
        · rw [z]; exact hil
      rw [upd_ne (Nat.ne_of_lt hb')]
      exact (hf b hb).1
  done := by
    intro X hP hw hK hc i pins s σ H E I hf st hg
    subst hP hw hK
    obtain ⟨⟨old, he⟩, hit, hne, hea, hai⟩ := st
    obtain ⟨xs, hq, hx⟩ := hg
    obtain ⟨its, rv, p, hz⟩ := I.list hq
    obtain ⟨f0, f1, f2, f3, f4, f5⟩ := hf it (by simp)
    have hl := rv.length
    have D := Draws.list (prog := X.prog) (w := X.w) (A := X.A.in1) (I.ok.hd hc) it a hai its.toArray
    have en : i = its.toArray.size := by rw [List.size_toArray]; omega
    subst en
    exact wpAny_pyNext_enum_endD D he ⟨hit, p.isList⟩ fun h' eb => ⟨rfl, I.turned (t' := s.toks) (fun b o hb q => eb b o hb q) f0 f1 f3 f4 f5⟩
  self := fun A i s Q E st h => let ⟨⟨_, he⟩, _⟩ := st; wpAny_pyIter_enum he h
def iEnumS (K : PySem.W.Frag) (ta : TA) (tk : TA) : TI := fun σ H R => ta σ H fun vs H1 => tk σ H1 fun zs H2 => ∃ a xs k, vs = [.ref a] ∧ zs = [.int k] ∧ -(2 ^ 63) ≤ k ∧ k < 2 ^ 63 ∧ SqL K H2 a xs ∧ R (IteS K a k) H2
theorem pi_enumS {X : Cx} {e e2 : Expr} {ta tk : TA} {p pos tpos kp : Pos} {elts : List Expr} {kk : Nat} (hg : Gl X "enumerate") (hm : X.mg "enumerate" = none) (ha : PA X [e] ta) (hkw : PK X [⟨some ("start" : Str), e2, kp⟩] tk)
    (he : backTo pos (starEach [e] X.env) = (false, eval e X.env) :: backTo pos (starEach [] X.env) := by rfl) (hpl : (backTo pos (starEach [e] X.env)).any (·.1) = false := by rfl)
    (hall : (backToKw pos (keywordEach [⟨some ("start" : Str), e2, kp⟩] X.env)).all (·.1.isSome) = true := by rfl) (hnone : (backToKw pos (keywordEach [⟨some ("start" : Str), e2, kp⟩] X.env)).any (·.1.isNone) = false := by rfl)
    (hks : (backToKw pos (keywordEach [⟨some ("start" : Str), e2, kp⟩] X.env)).filterMap (·.1) = [("start" : Str)] := by rfl) :
    PI X (.Tuple elts kk tpos) (.Call (.Name "enumerate" p) [e] [⟨some ("start" : Str), e2, kp⟩] pos) (iEnumS X.K ta tk) := by
  refine ⟨fun pins s σ H R I h => ?_⟩
  refine wpAny_Call_Name_kw (ld_blt I hg hm boot_enumerate (callWith_type_kw (thn (ha.run pos pins s σ H _ I h) fun us s0 ⟨vs, H0, I0, r0, q0⟩ => thn (hkw.run pos pins s0 σ H0 _ I0 q0) fun ws s1 ⟨zs, H1, I1, r2, q1⟩ => ?_) he hpl hall hnone))
  rw [hks]
  obtain ⟨a, xs, k, ex, ez, hk0, hk1, hq, q⟩ := q1
  subst ex ez
  cases r0 with
  | cons r rr =>
    cases rr
    cases r
    cases r2 with
    | cons r3 rr3 =>
      cases rr3
      obtain ⟨t, rfl⟩ := r3
      obtain ⟨its, rv, p', hz⟩ := I1.list hq
      have hal : a < s1.heap.objs.size := by obtain ⟨_, z, _⟩ := p'.isList; exact Heap.lt_size z
      refine enum_begins_start (begins_list a its.toArray) p'.isList hk0 hk1 fun h' he' hit hsz hk => wpAny_pyIter_enum he' ?_
      have I2 : Inv X pins σ H1 { s1 with heap := h' } := I1.kept (t' := s1.toks) hk
      refine ⟨s1.heap.objs.size + 1, [s1.heap.objs.size + 1, s1.heap.objs.size], _, _, H1, rfl, I2, turn_enumS a (s1.heap.objs.size + 1) s1.heap.objs.size k, ⟨⟨.none, ?_⟩, ⟨_, hit, rfl, ?_⟩, Nat.succ_ne_self _, Nat.ne_of_gt (Nat.lt_succ_of_lt hal), Nat.ne_of_lt hal⟩, fun b hb => ?_, q⟩
      · rw [show k + ((0 : Nat) : Int) = k by omega]
        exact he'
      · rfl
      · have e' : b = s1.heap.objs.size + 1 ∨ b = s1.heap.objs.size := by simpa using hb
        have hle : s1.heap.objs.size ≤ b := by
          rcases e' with z | z
          · rw [z]; exact Nat.le_add_right _ _
          · rw [z]; exact Nat.le_refl _
        exact I1.fpOk hle (I1.hok.fresh hle)
end RL
/-! ### a text times an int -/
namespace RL
open PySem PySem.Spec PyProof.Rows L2
def repS (z : Str) (k : Nat) : Str := ⟨(List.replicate k z.cps).foldl (· ++ ·) #[]⟩
theorem foldl_size : ∀ (l : List (Array Nat)) (a : Array Nat), (l.foldl (· ++ ·) a).toList = a.toList ++ (l.map Array.toList).flatten
  | [], a => by simp
  | x :: r, a => by
    rw [List.foldl_cons, foldl_size r (a ++ x), Array.toList_append, List.map_cons, List.flatten_cons, List.append_assoc]
theorem repS_tl (z : Str) (k : Nat) : TL.tl (repS z k) = (List.replicate k z.cps.toList).flatten := by
  show ((List.replicate k z.cps).foldl (· ++ ·) #[]).toList = _
  rw [foldl_size, List.map_replicate]
  rfl
theorem repS_len (z : Str) (k : Nat) : (repS z k).length = k * z.length := by
  show (repS z k).cps.size = _
  rw [← Array.length_toList]
  have h := repS_tl z k
  unfold TL.tl at h
  rw [h]
  simp [List.length_flatten]
  rfl
def rMulS : R2 := fun x y H Q => ∃ (z : Str) (k : Nat), x = .str z ∧ y = .int (k : Int) ∧ 2 ≤ k ∧ k ≤ 100000 ∧ 1 ≤ z.length ∧ z.length ≤ 100 ∧ Q (.str (repS z k)) H
theorem op_mulS {X : Cx} : OpR X (binaryOp .Mult) rMulS := by
  intro pins s σ H x y v u Q I rx ry h
  obtain ⟨z, k, rfl, rfl, hk, hk2, hz, hz2, q⟩ := h
  obtain ⟨t, rfl⟩ := rx
  obtain ⟨t', rfl⟩ := ry
  have hle : z.length * k ≤ 10000000 := by
    have h1 : z.length * k ≤ 100 * k := Nat.mul_le_mul_right k hz2
    omega
  have hno : ((((k : Nat) : Int) == 1) || z.length == 0) = false := by
    have h1 : (((k : Nat) : Int) == 1) = false := by
      apply beq_false_of_ne
      omega
    have h2 : (z.length == 0) = false := by
      apply beq_false_of_ne
      omega
    rw [h1, h2]; rfl
  refine PySem.P.mul_str ?_ ?_ ?_ ?_
  · have h1 : ¬ (k : Int) < -(2 ^ 63 : Int) := by omega
    have h2 : ¬ (k : Int) ≥ 2 ^ 63 := by omega
    rw [decide_eq_false h1, decide_eq_false h2]; rfl
  · intro _ _
    have h3 : (1000 : Int) ≤ (2 ^ 63 - 1) / (k : Int) := by
      rw [Int.le_ediv_iff_mul_le (by omega)]
      omega
    omega
  · intro _ _
    rw [Int.toNat_natCast]
    have hs : 10000000 ≤ sizeLine := by decide
    unfold Builtin.Str.tooLong
    exact decide_eq_false (by omega)
  · rw [if_neg (by omega), if_neg (by rw [hno]; decide)]
    rw [Int.toNat_natCast]
    have hl := repS_len z k
    have hs : 10000000 ≤ sizeLine := by decide
    have hc : k * z.length = z.length * k := Nat.mul_comm _ _
    refine ⟨?_, ⟨.str (repS z k), H, I.tok _, ⟨_, rfl⟩, q⟩⟩
    show (repS z k).length ≤ sizeLine
    omega
end RL

/-! ### Z: single steps of readings, for walking by with_reducible refine -/
namespace Z
open PySem L2
/-- all but what stands at M is as it was -/
def Kp (M : List Addr) (H H' : Hp) : Prop := ∀ b o, b ∉ M → H b = some o → H' b = some o
theorem Kp.refl {M : List Addr} (H : Hp) : Kp M H H := fun _ _ _ h => h
theorem Kp.trans {M : List Addr} {H H1 H2 : Hp} (a : Kp M H H1) (b : Kp M H1 H2) : Kp M H H2 := fun c o n h => b c o n (a c o n h)
theorem Kp.new {M : List Addr} {H : Hp} {p : Addr} {o : HO} (h : H p = none) : Kp M H (upd H p o) := fun b u _ e => by
  rw [upd_ne (ne_of_none e h)]
  exact e
theorem Kp.put {M : List Addr} {H : Hp} {p : Addr} {o : HO} (h : p ∈ M) : Kp M H (upd H p o) := fun b u n e => by
  rw [upd_ne (fun q => n (by rw [q]; exact h))]
  exact e
theorem Kp.sub {M M' : List Addr} {H H' : Hp} (a : Kp M H H') (h : ∀ x, x ∈ M → x ∈ M') : Kp M' H H' := fun b o n e => a b o (fun z => n (h b z)) e
theorem Kp.same {H H' : Hp} (a : Kp [] H H') : Same H H' := fun b o e => a b o (by simp) e
theorem Kp.of_same {M : List Addr} {H H' : Hp} (a : Same H H') : Kp M H H' := fun b o _ e => a b o e
theorem Kp.none {M : List Addr} {H H' : Hp} (a : Kp M H H') {p : Addr} (n : p ∉ M) (h : H' p = Option.none) : H p = Option.none := by
  cases q : H p with
  | none => rfl
  | some o =>
    rw [a p o n q] at h
    cases h
/-- what was not there may be forgotten from M -/
theorem Kp.drop {M : List Addr} {H H' : Hp} {p : Addr} (a : Kp (p :: M) H H') (h : H p = Option.none) : Kp M H H' := fun b o n e => a b o (by
  intro z
  rcases List.mem_cons.mp z with z | z
  · rw [z, h] at e
    cases e
  · exact n z) e
theorem Kp.get {M : List Addr} {H H' : Hp} (a : Kp M H H') {b : Addr} {o : HO} (n : b ∉ M) (e : H b = some o) : H' b = some o := a b o n e
theorem Kp.seq {M : List Addr} {K : PySem.W.Frag} {H H' : Hp} (e : Kp M H H') {a : Addr} {xs : List V} (n : a ∉ M) (h : SqL K H a xs) : SqL K H' a xs := by
  rcases h with (h | ⟨o, h⟩) | h
  · exact .inl (.inl (e _ _ n h))
  · exact .inl (.inr ⟨o, e _ _ n h⟩)
  · exact .inr h
theorem Kp.tup {M : List Addr} {K : PySem.W.Frag} {H H' : Hp} (e : Kp M H H') {a : Addr} {xs : List V} (n : a ∉ M) (h : SqT K H a xs) : SqT K H' a xs := by
  rcases h with (h | ⟨o, h⟩) | h
  · exact .inl (.inl (e _ _ n h))
  · exact .inl (.inr ⟨o, e _ _ n h⟩)
  · exact .inr h
/-- what H0 does not know may change -/
theorem Kp.mut {M : List Addr} {H0 H H' : Hp} {l : Addr} {o : HO} (a : Kp M H0 H) (h : H0 l = Option.none) (e : H' = upd H l o) : Kp M H0 H' := fun b u n z => by
  rw [e, upd_ne (ne_of_none z h)]
  exact a b u n z
theorem Kp.then1 {M : List Addr} {H0 H H' : Hp} {l : Addr} (a : Kp M H0 H) (b : Kp [l] H H') (h : H0 l = Option.none) : Kp M H0 H' := fun c o n e => b c o (by
  intro z
  rw [List.mem_singleton.mp z, h] at e
  cases e) (a c o n e)
/-- a new instance and its dict -/
theorem Kp.made {M : List Addr} {H : Hp} {x dx : Addr} {o u : HO} (nx : H x = Option.none) (nd : H dx = Option.none) : Kp M H (upd (upd H dx u) x o) := fun c o n e => by
  rw [upd_ne (ne_of_none e nx), upd_ne (ne_of_none e nd)]
  exact e
theorem none2 {H : Hp} {x dx l : Addr} {o u : HO} (h : upd (upd H dx u) x o l = Option.none) : H l = Option.none := by
  unfold upd at h
  split at h
  · cases h
  · split at h
    · cases h
    · exact h
theorem nin1 {a b : Addr} (h : b ≠ a) : b ∉ [a] := by simpa using h
theorem nin0 {b : Addr} : b ∉ ([] : List Addr) := by simp
theorem lstL {K : PySem.W.Frag} {H : Hp} {a : Addr} {xs : List V} (h : H a = some (.lst xs)) : SqL K H a xs := .inl (.inl h)
theorem tupT {K : PySem.W.Frag} {H : Hp} {a : Addr} {xs : List V} (h : H a = some (.tup xs)) : SqT K H a xs := .inl (.inl h)

theorem cxK {CX : CXT} {P : Program} {w : World} {K : PySem.W.Frag} {mg : Str → Option Value} {base : Heap} {N : List Str} {qual : Str} {scope : Scope} {f : Addr} {cd : Value} {A : Around} {outer : List Env} {s : Shared} {H : Hp} {E : XK} : (cxOf CX P w K mg base N qual scope f cd A outer s H E).K = K := rfl
/-! named readings of rules -/
def rLenN (K : PySem.W.Frag) : List V → Hp → VK → Prop := fun xs H Q => ∃ p ys, xs = [.ref p] ∧ (SqL K H p ys ∨ SqT K H p ys) ∧ Q (.int ys.length) H
theorem c_len {X : Cx} : CallR X (.builtin "len") (rLenN X.K) := call_len_seq
def rListN (K : PySem.W.Frag) : List V → Hp → VK → Prop := fun xs H Q => ∃ p ys, xs = [.ref p] ∧ (SqL K H p ys ∨ SqT K H p ys) ∧ ∀ l, H l = none → Q (.ref l) (upd H l (.lst ys))
theorem c_list {X : Cx} : CallR X (.type "list") (rListN X.K) := call_list_of
def rTupN (K : PySem.W.Frag) : List V → Hp → VK → Prop := fun xs H Q => ∃ p ys, xs = [.ref p] ∧ ((SqL K H p ys ∧ ∀ l, H l = none → Q (.ref l) (upd H l (.tup ys))) ∨ (SqT K H p ys ∧ Q (.ref p) H))
theorem c_tuple {X : Cx} : CallR X (.type "tuple") (rTupN X.K) := call_tuple_of
def rInt1 : List V → Hp → VK → Prop := fun xs H Q => (∃ i, xs = [.int i] ∧ Q (.int i) H) ∨ ∃ k, xs = [.bl k] ∧ Q (.int (if k then 1 else 0)) H
theorem c_int {X : Cx} : CallR X (.type "int") rInt1 := call_int1
def rAbs : List V → Hp → VK → Prop := fun xs H Q => ∃ i, xs = [.int i] ∧ Q (.int (if i < 0 then -i else i)) H
theorem c_abs {X : Cx} : CallR X (.builtin "abs") rAbs := call_abs
def rIsN : R2 := fun x y H Q => y = .non ∧ Q (.bl (decide (x = .non))) H
theorem o_isN {X : Cx} : OpR X (compareOp .Is) rIsN := op_isN
def rNotN : R2 := fun x y H Q => y = .non ∧ Q (.bl (!decide (x = .non))) H
theorem o_notN {X : Cx} : OpR X (compareOp .IsNot) rNotN := op_notN
def rAddS : R2 := fun x y H Q => ∃ i j, x = .str i ∧ y = .str j ∧ i.length + j.length ≤ sizeLine ∧ Q (.str (i ++ j)) H
theorem o_addS {X : Cx} : OpR X (binaryOp .Add) rAddS := op_add_str
def rInSg : R2 := fun x y H Q => ∃ (c : Nat) (z : Str), x = .str ⟨#[c]⟩ ∧ y = .str z ∧ Q (.bl (decide (c ∈ z.cps.toList))) H
theorem o_inSg {X : Cx} : OpR X (compareOp .In) rInSg := op_in_sign
def rNinSg : R2 := fun x y H Q => ∃ (c : Nat) (z : Str), x = .str ⟨#[c]⟩ ∧ y = .str z ∧ Q (.bl (!decide (c ∈ z.cps.toList))) H
theorem o_ninSg {X : Cx} : OpR X (compareOp .NotIn) rNinSg := op_notIn_sign
/-- // by a divisor of any sign -/
def CDivA (_ j : Int) : Prop := j ≠ 0 ∧ j.natAbs.log2 < 9000
theorem op_fdivA {X : Cx} : OpR X (binaryOp .FloorDiv) (rI CDivA fun i j => .int (i.fdiv j)) := opI fun i j _ _ _ _ _ hc q => PyProof.Rows.floordiv_int hc.1 q (.inl (PyProof.noPylong_of_log2 hc.2))
theorem divA {i j : Int} {b : Nat} (h : j ≠ 0) (hb : j.natAbs < 2 ^ b) (h0 : 0 < b) (h9 : b ≤ 9000) : CDivA i j := ⟨h, Nat.lt_of_lt_of_le (PySem.Flt.log2_lt_of h0 hb) h9⟩
def rLenS : List V → Hp → VK → Prop := fun xs H Q => ∃ x : Str, xs = [.str x] ∧ x.cps.size ≤ 10000000 ∧ Q (.int (x.cps.size : Nat)) H
theorem c_lens {X : Cx} : CallR X (.builtin "len") rLenS := fun pins s σ H xs us Q I r h => call_len pins s σ H xs us Q I r (by obtain ⟨x, rfl, hz, q⟩ := h; exact ⟨.str x, _, rfl, ⟨Nat.le_trans hz (by decide), rfl⟩, q⟩)
def rPopQ : V → List V → Hp → VK → Prop := rPop
section
variable {σ : St} {H : Hp} {Q : VK} {v x y : V} {ta tb tc te : TE} {tA : TT} {D : Ends} {t u ts : TS} {r : R2} {K : PySem.W.Frag} {i : Nat} {A B : Prop}
/-! values -/
theorem var (h : σ[i]? = some (some v)) (q : Q v H) : tVar i σ H Q := ⟨v, h, q⟩
theorem cst (q : Q v H) : tC v σ H Q := q
theorem op (h : ta σ H fun x H1 => tb σ H1 fun y H2 => r x y H2 Q) : tOp r ta tb σ H Q := h
theorem un {r : V → Hp → VK → Prop} (h : ta σ H fun x H1 => r x H1 Q) : tUn r ta σ H Q := h
theorem i0 {g : Int → Int → V} {a b : Int} (q : Q (g a b) H) : rI0 g (.int a) (.int b) H Q := ⟨a, b, rfl, rfl, q⟩
theorem iC {C : Int → Int → Prop} {g : Int → Int → V} {a b : Int} (c : C a b) (q : Q (g a b) H) : rI C g (.int a) (.int b) H Q := ⟨a, b, rfl, rfl, c, q⟩
theorem iU {g : Int → V} {a : Int} (q : Q (g a) H) : rU g (.int a) H Q := ⟨a, rfl, q⟩
theorem eqII {a b : Int} (q : Q (.bl (decide (a = b))) H) : rEq (.int a) (.int b) H Q := ⟨rfl, by
  have e : decide (V.int a = V.int b) = decide (a = b) := by simp
  rw [e]; exact q⟩
theorem neII {a b : Int} (q : Q (.bl (!decide (a = b))) H) : rNe (.int a) (.int b) H Q := ⟨rfl, by
  have e : decide (V.int a = V.int b) = decide (a = b) := by simp
  rw [e]; exact q⟩
theorem eqSS {a b : Str} (q : Q (.bl (decide (a = b))) H) : rEq (.str a) (.str b) H Q := ⟨rfl, by
  have e : decide (V.str a = V.str b) = decide (a = b) := by simp
  rw [e]; exact q⟩
theorem neSS {a b : Str} (q : Q (.bl (!decide (a = b))) H) : rNe (.str a) (.str b) H Q := ⟨rfl, by
  have e : decide (V.str a = V.str b) = decide (a = b) := by simp
  rw [e]; exact q⟩
theorem eqBB {a b : Bool} (q : Q (.bl (decide (a = b))) H) : rEq (.bl a) (.bl b) H Q := ⟨rfl, by
  have e : decide (V.bl a = V.bl b) = decide (a = b) := by simp
  rw [e]; exact q⟩
theorem neBB {a b : Bool} (q : Q (.bl (!decide (a = b))) H) : rNe (.bl a) (.bl b) H Q := ⟨rfl, by
  have e : decide (V.bl a = V.bl b) = decide (a = b) := by simp
  rw [e]; exact q⟩
theorem bl {b : Bool} {q : Bool → Hp → Prop} (h : q b H) : ∃ k, V.bl b = .bl k ∧ q k H := ⟨b, rfl, h⟩
theorem bl' {b : Bool} {q : Bool → Prop} (h : q b) : ∃ k, V.bl b = .bl k ∧ q k := ⟨b, rfl, h⟩
theorem test {Q : Bool → Hp → Prop} (h : te σ H fun x H' => ∃ k, x = .bl k ∧ Q k H') : tTest te σ H Q := h
theorem tbb {Q : Bool → Hp → Prop} (h : te σ H fun x H' => ∃ k, x = .bl k ∧ Q k H') : tB te σ H Q := h
theorem tand {a b : TT} {Q : Bool → Hp → Prop} (h : a σ H fun c H1 => if c = true then b σ H1 Q else Q false H1) : tAnd a b σ H Q := h
theorem tor {a b : TT} {Q : Bool → Hp → Prop} (h : a σ H fun c H1 => if c = true then Q true H1 else b σ H1 Q) : tOr a b σ H Q := h
theorem tnot {a : TT} {Q : Bool → Hp → Prop} (h : a σ H fun c H1 => Q (!c) H1) : tNot a σ H Q := h
theorem tyes {Q : Bool → Hp → Prop} (h : Q true H) : tYes σ H Q := h
theorem andV (h : ta σ H fun x H1 => ∃ c, x = .bl c ∧ if c = true then tb σ H1 Q else Q (.bl false) H1) : tAndV ta tb σ H Q := h
theorem orV (h : ta σ H fun x H1 => ∃ c, x = .bl c ∧ if c = true then Q (.bl true) H1 else tb σ H1 Q) : tOrV ta tb σ H Q := h
theorem notV (h : ta σ H fun x H1 => ∃ c, x = .bl c ∧ Q (.bl (!c)) H1) : tNotV ta σ H Q := h
theorem ifE (h : tA σ H fun c H1 => if c = true then ta σ H1 Q else tb σ H1 Q) : L2.tIf tA ta tb σ H Q := h
theorem chain {r r' : R2} (h : ta σ H fun x H1 => tb σ H1 fun y H2 => r x y H2 fun z H3 => ∃ k, z = .bl k ∧ (if k = true then tc σ H3 fun w' H4 => r' y w' H4 Q else Q (.bl false) H3)) : tChain r r' ta tb tc σ H Q := h
/-! branches -/
theorem ite {p : Prop} [Decidable p] (h1 : p → A) (h2 : ¬p → B) : if decide p = true then A else B := by
  by_cases h : p
  · rw [decide_eq_true h, if_pos rfl]; exact h1 h
  · rw [decide_eq_false h, if_neg Bool.false_ne_true]; exact h2 h
theorem iteN {p : Prop} [Decidable p] (h1 : ¬p → A) (h2 : p → B) : if (!decide p) = true then A else B := by
  by_cases h : p
  · rw [decide_eq_true h]; exact h2 h
  · rw [decide_eq_false h]; exact h1 h
theorem iteB {b : Bool} (h1 : b = true → A) (h2 : b = false → B) : if b = true then A else B := by
  cases b with
  | true => exact h1 rfl
  | false => exact h2 rfl
theorem yes {p : Prop} [Decidable p] (h : p) (q : A) : if decide p = true then A else B := by rw [decide_eq_true h, if_pos rfl]; exact q
theorem no {p : Prop} [Decidable p] (h : ¬p) (q : B) : if decide p = true then A else B := by rw [decide_eq_false h, if_neg Bool.false_ne_true]; exact q
theorem yesN {p : Prop} [Decidable p] (h : ¬p) (q : A) : if (!decide p) = true then A else B := by rw [decide_eq_false h]; exact q
theorem noN {p : Prop} [Decidable p] (h : p) (q : B) : if (!decide p) = true then A else B := by rw [decide_eq_true h]; exact q
theorem yesB (q : A) : if true = true then A else B := q
theorem noNB (q : B) : if (!true) = true then A else B := q
theorem yesNB (q : A) : if (!false) = true then A else B := q
theorem noB (q : B) : if false = true then A else B := q
/-! calls -/
theorem nil {Q : List V → Hp → Prop} (q : Q [] H) : tNil σ H Q := q
theorem cons {Q : List V → Hp → Prop} {tr : TA} (h : ta σ H fun x H1 => tr σ H1 fun xs H2 => Q (x :: xs) H2) : tCons ta tr σ H Q := h
theorem cb {r : List V → Hp → VK → Prop} {a : TA} (h : a σ H fun vs H1 => r vs H1 Q) : tCB r a σ H Q := h
theorem call {sp : Sp} {dvs : List V} {E : XK} {a : TA} (h : a σ H fun vs H1 => sp (vs ++ dvs) H1 Q E) : tCall sp dvs E a σ H Q := h
theorem meth {C : Addr} {m : Str} {sp : Sp} {dvs : List V} {E : XK} {a : TA} (h : ta σ H fun x H1 => ∃ p dx fs, x = .ref p ∧ H1 p = some (.ins C dx fs) ∧ fs.lookup m = none ∧ a σ H1 fun vs H2 => sp (x :: (vs ++ dvs)) H2 Q E) : tMeth C m sp dvs E ta a σ H Q := h
theorem fld {f : Str} (h : ta σ H fun x H1 => ∃ a C dx fs v, x = .ref a ∧ H1 a = some (.ins C dx fs) ∧ Cls K C ∧ NoAttr K C f ∧ fs.lookup f = some v ∧ Q v H1) : tFld K ta f σ H Q := h
theorem int1 {a : Int} (q : Q (.int a) H) : rInt1 [.int a] H Q := .inl ⟨a, rfl, q⟩
theorem intb {b : Bool} (q : Q (.int (if b then 1 else 0)) H) : rInt1 [.bl b] H Q := .inr ⟨b, rfl, q⟩
theorem abs1 {a : Int} (q : Q (.int (if a < 0 then -a else a)) H) : rAbs [.int a] H Q := ⟨a, rfl, q⟩
theorem isN (q : Q (.bl (decide (x = .non))) H) : rIsN x .non H Q := ⟨rfl, q⟩
theorem notN (q : Q (.bl (!decide (x = .non))) H) : rNotN x .non H Q := ⟨rfl, q⟩
theorem addS {a b : Str} (h : a.length + b.length ≤ sizeLine) (q : Q (.str (a ++ b)) H) : rAddS (.str a) (.str b) H Q := ⟨a, b, rfl, rfl, h, q⟩
theorem inSg {c : Nat} {z : Str} (q : Q (.bl (decide (c ∈ z.cps.toList))) H) : rInSg (.str ⟨#[c]⟩) (.str z) H Q := ⟨c, z, rfl, rfl, q⟩
theorem ninSg {c : Nat} {z : Str} (q : Q (.bl (!decide (c ∈ z.cps.toList))) H) : rNinSg (.str ⟨#[c]⟩) (.str z) H Q := ⟨c, z, rfl, rfl, q⟩
/-- a new object -/
theorem new {o : HO} (h : ∀ p, H p = none → Q (.ref p) (upd H p o)) : ∀ p, H p = none → Q (.ref p) (upd H p o) := h
def TupN (Q : VK) (xs : List V) (H1 : Hp) : Prop := xs.length ≤ sizeLine ∧ ∀ p, H1 p = none → Q (.ref p) (upd H1 p (.tup xs))
def LstN (Q : VK) (xs : List V) (H1 : Hp) : Prop := xs.length ≤ sizeLine ∧ ∀ p, H1 p = none → Q (.ref p) (upd H1 p (.lst xs))
theorem tup {a : TA} (h : a σ H (TupN Q)) : tTup a σ H Q := h
theorem lst {a : TA} (h : a σ H (LstN Q)) : tLst a σ H Q := h
/-- a new object, the heap behind it a letter -/
theorem mk {o : HO} {H0 : Hp} {R : Addr → Hp → Prop} (h : ∀ p H1, H0 p = none → Kp [] H0 H1 → H1 p = some o → R p H1) : ∀ p, H0 p = none → R p (upd H0 p o) := fun p n => h p _ n (Kp.new n) upd_same
theorem tupK {xs : List V} (q : ∀ p H1, H p = none → Kp [] H H1 → H1 p = some (.tup xs) → Q (.ref p) H1) (h : xs.length ≤ 100000 := by simp) : TupN Q xs H := ⟨Nat.le_trans h (by decide), mk q⟩
theorem lstK {xs : List V} (q : ∀ p H1, H p = none → Kp [] H H1 → H1 p = some (.lst xs) → Q (.ref p) H1) (h : xs.length ≤ 100000 := by simp) : LstN Q xs H := ⟨Nat.le_trans h (by decide), mk q⟩
theorem sz {n m : Nat} (h : n ≤ m) (hm : m ≤ 10000000 := by decide) : n ≤ sizeLine := Nat.le_trans h (Nat.le_trans hm (by decide))
theorem szl {n m : Nat} (h : n ≤ m) (hm : m ≤ 10000000 := by decide) : n < sizeLine := Nat.lt_of_le_of_lt (Nat.le_trans h hm) (by decide)
/-! subscripts -/
theorem ixL {p : Addr} {xs : List V} {j : Int} (h : SqL K H p xs) (e : atI xs j = some v) (q : Q v H) : rIxL K (.ref p) (.int j) H Q := ⟨p, xs, j, v, rfl, rfl, h, e, q⟩
theorem ixT {p : Addr} {xs : List V} {j : Int} (h : SqT K H p xs) (e : atI xs j = some v) (q : Q v H) : rIxT K (.ref p) (.int j) H Q := ⟨p, xs, j, v, rfl, rfl, h, e, q⟩
theorem setL {p : Addr} {xs : List V} {k : Int} {j : Nat} {v : V} {q : Hp → Prop} (h : H p = some (.lst xs)) (e : ixN xs.length k = some j) (hq : q (upd H p (.lst (xs.set j v)))) : rSetL (.ref p) (.int k) v H q := ⟨p, xs, k, j, rfl, rfl, h, e, hq⟩
theorem gsub {to ti : TE} {t : TSet} {Q : St → Hp → Prop} (h : to σ H fun o H1 => ti σ H1 fun i H2 => t o i v H2 fun H3 => Q σ H3) : gSub to ti t v σ H Q := h
/-! statements -/
/-- a statement whose ways join ahead of the rest -/
def tSeqJ (t u : TS) : TS := tSeq t u
theorem pss_consJ {X : Cx} {st : Stmt} {rest : List Stmt} {t u : TS} (h1 : PS X st t) (h2 : PSs X rest u) : PSs X (st :: rest) (tSeqJ t u) := pss_cons h1 h2
theorem seqJ (J : St → Hp → Prop) (h2 : ∀ σ H, J σ H → u D σ H) (h1 : ∀ N : St → Hp → Prop, (∀ σ H, J σ H → N σ H) → t { D with nx := N } σ H) : tSeqJ t u D σ H := h1 (u D) h2
theorem seqJ' (h : tSeq t u D σ H) : tSeqJ t u D σ H := h
theorem seq (h : t { D with nx := u D } σ H) : tSeq t u D σ H := h
theorem asg {g : TG} (h : te σ H fun x H1 => g x σ H1 D.nx) : tAsg te g D σ H := h
theorem gname {Q : St → Hp → Prop} {σ' : St} (e : σ.set i (some v) = σ') (h : Q σ' H) : gName i v σ H Q := by
  subst e; exact h
def ParK (i j : Nat) (D : Ends) (σ : St) (vs : List V) (H1 : Hp) : Prop := ∃ v w, vs = [v, w] ∧ D.nx ((σ.set i (some v)).set j (some w)) H1
theorem par {i j : Nat} {a : TA} (h : a σ H (ParK i j D σ)) : tPar i j a D σ H := h
theorem par2 {i j : Nat} {v w : V} {σ' : St} (e : (σ.set i (some v)).set j (some w) = σ') (h : D.nx σ' H) : ParK i j D σ [v, w] H := ⟨v, w, rfl, by rw [e]; exact h⟩
theorem aug {ti : TIp} {x : V} (e : σ[i]? = some (some x)) (h : te σ H fun y H1 => ti x y H1 fun z H2 => D.nx (σ.set i (some z)) H2) : tAug i te ti D σ H := ⟨x, e, h⟩
theorem ipI' {f : Int → Int → Int} {a b : Int} (q : Q (.int (f a b)) H) : ipI f (.int a) (.int b) H Q := ⟨a, b, rfl, rfl, q⟩
theorem ifs {c : TT} (h : c σ H fun b H1 => if b = true then t D σ H1 else u D σ H1) : tIfS c t u D σ H := h
theorem ret (h : te σ H D.rt) : tRet te D σ H := h
theorem retN (h : D.rt .non H) : tRetN D σ H := h
theorem next (h : D.nx σ H) : tNext D σ H := h
theorem brk (h : D.bk σ H) : tBreak D σ H := h
theorem drop (h : te σ H fun _ H1 => D.nx σ H1) : tDrop te D σ H := h
theorem bm {T : String} {r : V → List V → Hp → VK → Prop} {to : TE} {a : TA} (h : to σ H fun x H1 => tyV K T x H1 ∧ a σ H1 fun xs H2 => r x xs H2 Q) : tBM K T r to a σ H Q := h
theorem bm0 {T : String} {r : V → List V → Hp → VK → Prop} {to : TE} (h : to σ H fun x H1 => tyV K T x H1 ∧ r x [] H1 Q) : tBM0 K T r to σ H Q := h
theorem app {l : Addr} {xs : List V} {y : V} (h : H l = some (.lst xs)) (z : xs.length < sizeLine) (q : Q .non (upd H l (.lst (xs ++ [y])))) : rAppend (.ref l) [y] H Q := ⟨l, xs, y, rfl, rfl, h, z, q⟩
theorem tyL {p : Addr} {xs : List V} (h : H p = some (.lst xs)) : tyV K "list" (.ref p) H := .inl ⟨rfl, _, SqL.of h⟩
theorem sfld {tv : TE} {f : Str} (h : tv σ H fun y H1 => ta σ H1 fun x H2 => ∃ a C dx fs, x = .ref a ∧ H2 a = some (.ins C dx fs) ∧ Cls K C ∧ NoAttr K C f ∧ fs.length < 1000 ∧ D.nx σ (upd H2 a (.ins C dx (putF f y fs)))) : sFld K ta tv f D σ H := h
theorem sfldaug {tv : TE} {rd : V → V → Hp → VK → Prop} {f : Str} (h : ta σ H fun x H1 => ∃ a C dx fs v, x = .ref a ∧ H1 a = some (.ins C dx fs) ∧ Cls K C ∧ NoAttr K C f ∧ fs.lookup f = some v ∧ tv σ H1 fun y H2 => rd v y H2 fun z H3 => ∃ dx' fs', H3 a = some (.ins C dx' fs') ∧ fs'.length < 1000 ∧ D.nx σ (upd H3 a (.ins C dx' (putF f z fs')))) : sFldAug K ta tv rd f D σ H := h
theorem radd {a b : Int} (q : Q (.int (a + b)) H) : rAdd (.int a) (.int b) H Q := ⟨a, b, rfl, rfl, q⟩
theorem make {C : Addr} {sp : Sp} {dvs : List V} {E : XK} {a : TA} (h : a σ H fun vs H1 => ∀ x dx, H1 x = none → H1 dx = none → dx ≠ x → sp (.ref x :: (vs ++ dvs)) (upd (upd H1 dx (.own x)) x (.ins C dx [])) (fun v H2 => v = .non ∧ Q (.ref x) H2) E) : tMake C sp dvs E a σ H Q := h
/-- while -/
def WhB (W : Nat → St → Hp → Prop) (m : Nat) (tb : TS) (D : Ends) (σ : St) (H1 : Hp) : Prop := ∃ N : St → Hp → Prop, (∀ σ' H', N σ' H' → ∃ m', m' < m ∧ W m' σ' H') ∧ tb { D with nx := N, ct := N, bk := D.nx } σ H1
theorem whb {W : Nat → St → Hp → Prop} {m : Nat} {tb : TS} (h : tb { D with nx := fun σ' H' => ∃ m', m' < m ∧ W m' σ' H', ct := fun σ' H' => ∃ m', m' < m ∧ W m' σ' H', bk := D.nx } σ H) : WhB W m tb D σ H := ⟨_, fun _ _ z => z, h⟩
theorem wh {c : TT} {tb : TS} (W : Nat → St → Hp → Prop) (m : Nat) (h0 : W m σ H) (hs : ∀ m σ H, W m σ H → c σ H fun b H1 => if b = true then WhB W m tb D σ H1 else D.nx σ H1) : tWhile c tb D σ H := ⟨W, ⟨m, h0⟩, hs⟩
/-- calls by values -/
theorem sumL {a : Addr} {ns : List Int} (h : SqL K H a (ns.map V.int)) (q : Q (.int ns.sum) H) : rSum K [.ref a] H Q := ⟨a, ns, rfl, h, q⟩
theorem gcd {a b : Int} (q : Q (.int ((Nat.gcd a.natAbs b.natAbs : Nat) : Int)) H) : rGcd [.int a, .int b] H Q := ⟨a, b, rfl, q⟩
theorem mkN {C : Addr} {sp : Sp} {Q : XK} (h : ∀ a, H a = none → sp [.ref a] (upd H a (exo a C none)) (fun v H2 => v = .non ∧ H2 a = some (exo a C none) ∧ Q (.ref C) none (del H2 a)) (fun _ _ _ => False)) : Sup.tMkN C sp σ H Q := h
theorem gtup {n : Nat} {t : TGs} {a : Addr} {xs : List V} {Q : St → Hp → Prop} (h : SqT K H a xs) (e : xs.length = n) (q : t xs σ H Q) : gTup K n t (.ref a) σ H Q := ⟨a, xs, rfl, h, e, q⟩
theorem gcons {t : TG} {u : TGs} {v : V} {r : List V} {Q : St → Hp → Prop} (q : t v σ H fun σ' H' => u r σ' H' Q) : gCons t u (v :: r) σ H Q := ⟨v, r, rfl, q⟩
theorem gnil {Q : St → Hp → Prop} (q : Q σ H) : gNil [] σ H Q := ⟨rfl, q⟩
theorem lenL {a : Addr} {xs : List V} (h : SqL K H a xs) (q : Q (.int xs.length) H) : rLenN K [.ref a] H Q := ⟨a, xs, rfl, .inl h, q⟩
theorem lenT {a : Addr} {xs : List V} (h : SqT K H a xs) (q : Q (.int xs.length) H) : rLenN K [.ref a] H Q := ⟨a, xs, rfl, .inr h, q⟩
theorem listL {a : Addr} {xs : List V} (h : SqL K H a xs) (q : ∀ p H1, H p = none → Kp [] H H1 → H1 p = some (.lst xs) → Q (.ref p) H1) : rListN K [.ref a] H Q := ⟨a, xs, rfl, .inl h, mk q⟩
theorem isi {A B : String} {x : V} {b : Bool} (ht : TyX K H x (.type A)) (hk : kitB A B = some b) (q : Q (.bl b) H) : rIsi K [x, .ty B] H Q := ⟨x, _, _, _, b, rfl, .ty _, ht, kit_ty hk, q⟩
theorem isiI {B : String} {a : Int} {b : Bool} (hk : kitB "int" B = some b) (q : Q (.bl b) H) : rIsi K [.int a, .ty B] H Q := isi (.base (.int _)) hk q
theorem atM {ns : List Int} {j : Nat} {x : Int} (h : ns[j]? = some x) : atI (ns.map V.int) (j : Int) = some (.int x) := atI_nat (by rw [List.getElem?_map, h]; rfl)
theorem ixN_nat {n j : Nat} (hj : j < n) : ixN n (j : Int) = some j := by
  unfold ixN
  rw [if_pos (by omega), if_pos (by omega)]
  simp
/-- a comprehension, a loop over range(n), over a list -/
def ForK (g : TG) (tb : TS) (D : Ends) (σ : St) (J : It) (H1 : Hp) : Prop := ∃ W : Nat → Nat → St → Hp → Prop, (∃ m, W 0 m σ H1) ∧ ∀ i m σ H, W i m σ H →
  (J.stop i H ∧ D.nx σ H) ∨ (J.go i H ∧ ∃ N : St → Hp → Prop, (∀ σ' H', N σ' H' → ∃ m', m' < m ∧ W (i + 1) m' σ' H') ∧ ∀ x H', J.yld i H x H' → g x σ H' fun σ2 H2 => tb { D with nx := N, ct := N, bk := D.nx } σ2 H2)
def LcK (g : TG) (tt : TT) (te : TE) (vs : List Nat) (σ : St) (Q : VK) (J : It) (H1 : Hp) : Prop := ∀ D, H1 D = none → ∃ W : Nat → Nat → Hp → Prop, (∃ m, W 0 m (upd H1 D (.lst []))) ∧ ∀ i m H, W i m H →
      (J.stop i H ∧ Q (.ref D) H) ∨ (J.go i H ∧ ∃ Nx : Hp → Prop, (∀ H', Nx H' → ∃ m', m' < m ∧ W (i + 1) m' H') ∧ ∀ x H', J.yld i H x H' → g x (wipe σ vs) H' fun σ2 H2 => wipe σ2 vs = wipe σ vs ∧ tt σ2 H2 fun b H3 => if b = true then te σ2 H3 fun y H4 => ∃ acc, H4 D = some (.lst acc) ∧ acc.length < sizeLine ∧ Nx (upd H4 D (.lst (acc ++ [y]))) else Nx H3)
def Rng1K (R : It → Hp → Prop) (vs : List V) (H1 : Hp) : Prop := ∃ j : Int, vs = [.int j] ∧ -(2 ^ 62) ≤ j ∧ j < 2 ^ 62 ∧ R (Itr 0 j.toNat) H1
def ListK (K : PySem.W.Frag) (R : It → Hp → Prop) (x : V) (H1 : Hp) : Prop := ∃ a, x = .ref a ∧ (∃ xs, SqL K H1 a xs) ∧ R (Itl K a) H1
theorem lc {wi : TI} {g : TG} {tt : TT} {vs : List Nat} (h : wi σ H (LcK g tt te vs σ Q)) : tLc wi g tt te vs σ H Q := h
theorem rng1 {a : TA} {R : It → Hp → Prop} (h : a σ H (Rng1K R)) : iRng1 a σ H R := h
theorem ilist {R : It → Hp → Prop} (h : ta σ H (ListK K R)) : iList K ta σ H R := h
theorem for_ {wi : TI} {g : TG} {tb : TS} (h : wi σ H (ForK g tb D σ)) : tFor wi g tb D σ H := h
/-- what one turn of a comprehension asks -/
def LcT (g : TG) (tt : TT) (te : TE) (vs : List Nat) (σ : St) (D : Addr) (P : Hp → Prop) (x : V) (H1 : Hp) : Prop := g x (wipe σ vs) H1 fun σ2 H2 => wipe σ2 vs = wipe σ vs ∧ tt σ2 H2 fun b H3 => if b = true then te σ2 H3 fun y H4 => ∃ acc, H4 D = some (.lst acc) ∧ acc.length < sizeLine ∧ P (upd H4 D (.lst (acc ++ [y]))) else P H3
theorem lcr {g : TG} {tt : TT} {vs : List Nat} {e : Int} (n : Nat) (he : e = (n : Int)) (hb : n < 4611686018427387904) (Pv : Addr → Nat → Hp → Prop) (h0 : ∀ D H1, H D = none → Kp [] H H1 → H1 D = some (.lst []) → Pv D 0 H1)
    (hs : ∀ D i H1, H D = none → i < n → Pv D i H1 → g (.int (i : Int)) (wipe σ vs) H1 fun σ2 H2 => wipe σ2 vs = wipe σ vs ∧ tt σ2 H2 fun b H3 => if b = true then te σ2 H3 fun y H4 => ∃ acc, H4 D = some (.lst acc) ∧ acc.length < sizeLine ∧ Pv D (i + 1) (upd H4 D (.lst (acc ++ [y]))) else Pv D (i + 1) H3)
    (hd : ∀ D H1, H D = none → Pv D n H1 → Q (.ref D) H1) : Rng1K (LcK g tt te vs σ Q) [.int e] H := by
  subst he
  refine ⟨(n : Int), rfl, by omega, by omega, fun D hD => ?_⟩
  rw [show ((n : Int)).toNat = n by simp]
  refine lc_range (lo := 0) (n := n) (Pv D) (h0 D _ hD (Kp.new hD) upd_same) (fun i H1 hi p => ?_) fun H1 p => hd D H1 hD p
  rw [show (0 : Int) + (i : Int) = (i : Int) by omega]
  exact hs D i H1 hD hi p
theorem lcl {g : TG} {tt : TT} {vs : List Nat} {a : Addr} (xs : List V) (hS : SqL K H a xs) (Pv : Addr → Nat → Hp → Prop) (h0 : ∀ D H1, H D = none → Kp [] H H1 → H1 D = some (.lst []) → Pv D 0 H1)
    (hl : ∀ D i H1, H D = none → i ≤ xs.length → Pv D i H1 → SqL K H1 a xs)
    (hs : ∀ D i x H1, H D = none → xs[i]? = some x → Pv D i H1 → g x (wipe σ vs) H1 fun σ2 H2 => wipe σ2 vs = wipe σ vs ∧ tt σ2 H2 fun b H3 => if b = true then te σ2 H3 fun y H4 => ∃ acc, H4 D = some (.lst acc) ∧ acc.length < sizeLine ∧ Pv D (i + 1) (upd H4 D (.lst (acc ++ [y]))) else Pv D (i + 1) H3)
    (hd : ∀ D H1, H D = none → Pv D xs.length H1 → Q (.ref D) H1) : ListK K (LcK g tt te vs σ Q) (.ref a) H :=
  ⟨a, rfl, ⟨xs, hS⟩, fun D hD => lc_list (K := K) (a := a) (xs := xs) (Pv D) (h0 D _ hD (Kp.new hD) upd_same) (fun i H1 hi p => hl D i H1 hD hi p) (fun i x H1 hx p => hs D i x H1 hD hx p) fun H1 p => hd D H1 hD p⟩
/-- over a tuple -/
def TupK (K : PySem.W.Frag) (R : It → Hp → Prop) (x : V) (H1 : Hp) : Prop := ∃ a, x = .ref a ∧ (∃ xs, SqT K H1 a xs) ∧ R (Itt K a) H1
theorem itup {R : It → Hp → Prop} (h : ta σ H (TupK K R)) : iTup K ta σ H R := h
theorem lct {g : TG} {tt : TT} {vs : List Nat} {a : Addr} (xs : List V) (hS : SqT K H a xs) (Pv : Addr → Nat → Hp → Prop) (h0 : ∀ D H1, H D = none → Kp [] H H1 → H1 D = some (.lst []) → Pv D 0 H1)
    (hl : ∀ D i H1, H D = none → i ≤ xs.length → Pv D i H1 → SqT K H1 a xs)
    (hs : ∀ D i x H1, H D = none → xs[i]? = some x → Pv D i H1 → g x (wipe σ vs) H1 fun σ2 H2 => wipe σ2 vs = wipe σ vs ∧ tt σ2 H2 fun b H3 => if b = true then te σ2 H3 fun y H4 => ∃ acc, H4 D = some (.lst acc) ∧ acc.length < sizeLine ∧ Pv D (i + 1) (upd H4 D (.lst (acc ++ [y]))) else Pv D (i + 1) H3)
    (hd : ∀ D H1, H D = none → Pv D xs.length H1 → Q (.ref D) H1) : TupK K (LcK g tt te vs σ Q) (.ref a) H :=
  ⟨a, rfl, ⟨xs, hS⟩, fun D hD => lc_tup (K := K) (a := a) (xs := xs) (Pv D) (h0 D _ hD (Kp.new hD) upd_same) (fun i H1 hi p => hl D i H1 hD hi p) (fun i x H1 hx p => hs D i x H1 hD hx p) fun H1 p => hd D H1 hD p⟩
theorem allL {a : Addr} {bs : List Bool} (h : SqL K H a (bs.map V.bl)) (q : Q (.bl (bs.all id)) H) : rAll K [.ref a] H Q := ⟨a, bs, rfl, h, q⟩
theorem anyL {a : Addr} {bs : List Bool} (h : SqL K H a (bs.map V.bl)) (q : Q (.bl (bs.any id)) H) : rAny K [.ref a] H Q := ⟨a, bs, rfl, h, q⟩
theorem forr {g : TG} {tb : TS} {e : Int} (n : Nat) (he : e = (n : Int)) (hb : n < 4611686018427387904) (Pv : Nat → St → Hp → Prop) (h0 : Pv 0 σ H)
    (hs : ∀ i σ H, i < n → Pv i σ H → g (.int (i : Int)) σ H fun σ2 H2 => tb { D with nx := Pv (i + 1), ct := Pv (i + 1), bk := D.nx } σ2 H2) (hd : ∀ σ H, Pv n σ H → D.nx σ H) : Rng1K (ForK g tb D σ) [.int e] H := by
  subst he
  refine ⟨(n : Int), rfl, by omega, by omega, ?_⟩
  rw [show ((n : Int)).toNat = n by simp]
  refine for_range (lo := 0) (n := n) Pv h0 (fun i σ H1 hi p => ?_) hd
  rw [show (0 : Int) + (i : Int) = (i : Int) by omega]
  exact hs i σ H1 hi p
theorem forl {g : TG} {tb : TS} {a : Addr} (xs : List V) (hS : SqL K H a xs) (Pv : Nat → St → Hp → Prop) (h0 : Pv 0 σ H) (hl : ∀ i σ H, i ≤ xs.length → Pv i σ H → SqL K H a xs)
    (hs : ∀ i x σ H, xs[i]? = some x → Pv i σ H → g x σ H fun σ2 H2 => tb { D with nx := Pv (i + 1), ct := Pv (i + 1), bk := D.nx } σ2 H2) (hd : ∀ σ H, Pv xs.length σ H → D.nx σ H) : ListK K (ForK g tb D σ) (.ref a) H :=
  ⟨a, rfl, ⟨xs, hS⟩, for_list (K := K) (a := a) (xs := xs) Pv h0 hl hs hd⟩
/-! texts -/
def StrK (R : It → Hp → Prop) (v : V) (H1 : Hp) : Prop := ∃ x, v = .str x ∧ R (Its x) H1
theorem istr {R : It → Hp → Prop} (h : ta σ H (StrK R)) : iStr ta σ H R := h
theorem fors {g : TG} {tb : TS} {x : Str} (Pv : Nat → St → Hp → Prop) (h0 : Pv 0 σ H)
    (hs : ∀ i c σ H, x.cps[i]? = some c → Pv i σ H → g (.str ⟨#[c]⟩) σ H fun σ2 H2 => tb { D with nx := Pv (i + 1), ct := Pv (i + 1), bk := D.nx } σ2 H2) (hd : ∀ σ H, Pv x.cps.size σ H → D.nx σ H) : StrK (ForK g tb D σ) (.str x) H :=
  ⟨x, rfl, for_it walk_str Pv h0 (fun _ _ _ _ _ => trivial) (fun i v σ H H' hi p y => by obtain ⟨rfl, c, hc, rfl⟩ := y; exact hs i c σ _ hc p) hd⟩
theorem lcs {g : TG} {tt : TT} {vs : List Nat} {x : Str} (Pv : Addr → Nat → Hp → Prop) (h0 : ∀ D H1, H D = none → Kp [] H H1 → H1 D = some (.lst []) → Pv D 0 H1)
    (hs : ∀ D i c H1, H D = none → x.cps[i]? = some c → Pv D i H1 → g (.str ⟨#[c]⟩) (wipe σ vs) H1 fun σ2 H2 => wipe σ2 vs = wipe σ vs ∧ tt σ2 H2 fun b H3 => if b = true then te σ2 H3 fun y H4 => ∃ acc, H4 D = some (.lst acc) ∧ acc.length < sizeLine ∧ Pv D (i + 1) (upd H4 D (.lst (acc ++ [y]))) else Pv D (i + 1) H3)
    (hd : ∀ D H1, H D = none → Pv D x.cps.size H1 → Q (.ref D) H1) : StrK (LcK g tt te vs σ Q) (.str x) H :=
  ⟨x, rfl, fun D hD => lc_it walk_str (Pv D) (h0 D _ hD (Kp.new hD) upd_same) (fun _ _ _ _ => trivial) (fun i v H H' hi p y => by obtain ⟨rfl, c, hc, rfl⟩ := y; exact hs D i c _ hD hc p) fun H1 p => hd D H1 hD p⟩
theorem lenS {x : Str} (hz : x.cps.size ≤ 10000000) (q : Q (.int (x.cps.size : Nat)) H) : rLenS [.str x] H Q := ⟨x, rfl, hz, q⟩
/-! enumerate -/
def EnumK (K : PySem.W.Frag) (R : It → Hp → Prop) (vs : List V) (H1 : Hp) : Prop := ∃ a xs, vs = [.ref a] ∧ SqL K H1 a xs ∧ R (Ite K a) H1
theorem ienum {a : TA} {R : It → Hp → Prop} (h : a σ H (EnumK K R)) : iEnum K a σ H R := h
theorem fore {g : TG} {tb : TS} {a : Addr} (xs : List V) (hS : SqL K H a xs) (Pv : Nat → St → Hp → Prop) (h0 : Pv 0 σ H) (hl : ∀ i σ H, i ≤ xs.length → Pv i σ H → SqL K H a xs)
    (hs : ∀ i x σ H H' T, xs[i]? = some x → Pv i σ H → H T = none → Kp [] H H' → H' T = some (.tup [.int (i : Nat), x]) → g (.ref T) σ H' fun σ2 H2 => tb { D with nx := Pv (i + 1), ct := Pv (i + 1), bk := D.nx } σ2 H2) (hd : ∀ σ H, Pv xs.length σ H → D.nx σ H) : EnumK K (ForK g tb D σ) [.ref a] H :=
  ⟨a, xs, rfl, hS, for_it (walk_enum (K := K) (a := a) (xs := xs)) Pv h0 hl (fun i v σ H H' hi p y => by
    obtain ⟨T, x, z, rfl, h1, rfl, h2, h3⟩ := y
    cases h2
    exact hs i z σ H _ T h3 p h1 (Kp.new h1) upd_same) hd⟩
/-! dicts -/
theorem dnew (h : ∀ p H1, H p = none → Kp [] H H1 → H1 p = some (.dK []) → Q (.ref p) H1) : tDNewK σ H Q := mk h
theorem din {ty td : TE} (h : ty σ H fun y H1 => td σ H1 fun x H2 => ∃ a o, x = .ref a ∧ DGet H2 a y o ∧ Q (.bl o.isSome) H2) : tDIn ty td σ H Q := h
theorem dput {td ty tv : TE} (h : tv σ H fun v H1 => td σ H1 fun x H2 => ty σ H2 fun y H3 => ∃ a H4, x = .ref a ∧ DPut H3 a y v H4 ∧ D.nx σ H4) : sDPut td ty tv D σ H := h
theorem dget2 {td ty tx : TE} (h : td σ H fun x H1 => ∃ a, x = .ref a ∧ IsD H1 a ∧ ty σ H1 fun y H2 => tx σ H2 fun z H3 => ∃ o, DGet H3 a y o ∧ Q (o.getD z) H3) : tDGet2 td ty tx σ H Q := h
theorem dget {td ty : TE} (h : td σ H fun x H1 => ty σ H1 fun y H2 => ∃ a v, x = .ref a ∧ DGet H2 a y (some v) ∧ Q v H2) : tDGet td ty σ H Q := h
/-! lists and tuples -/
theorem ixA {p : Addr} {xs : List V} {j : Int} (h : SqL K H p xs ∨ SqT K H p xs) (e : atI xs j = some v) (q : Q v H) : rIx K (.ref p) (.int j) H Q := h.elim (fun h => .inl (ixL h e q)) (fun h => .inr (.inl (ixT h e q)))
theorem lenA {a : Addr} {xs : List V} (h : SqL K H a xs ∨ SqT K H a xs) (q : Q (.int xs.length) H) : rLenN K [.ref a] H Q := ⟨a, xs, rfl, h, q⟩
theorem sl {r : V → Option Int → Option Int → Hp → VK → Prop} {tl th : TO} (h : ta σ H fun x H1 => tl σ H1 fun l H2 => th σ H2 fun u H3 => r x l u H3 Q) : tSl r ta tl th σ H Q := h
theorem slno {Q : Option Int → Hp → Prop} (h : Q none H) : tNoPart σ H Q := h
theorem slpart {Q : Option Int → Hp → Prop} (h : ta σ H fun x H1 => ∃ i, x = .int i ∧ Q (some i) H1) : tPart ta σ H Q := h
theorem bint {i : Int} {q : Int → Prop} (h : q i) : ∃ k, V.int i = .int k ∧ q k := ⟨i, rfl, h⟩
theorem slL {p : Addr} {xs : List V} {lo hi : Option Int} (h : SqL K H p xs) (q : ∀ d H1, H d = none → Kp [] H H1 → H1 d = some (.lst (cutV xs lo hi)) → Q (.ref d) H1) : rSlL K (.ref p) lo hi H Q := ⟨p, xs, rfl, h, mk q⟩
theorem cut_take {xs : List V} {k : Nat} (h : k ≤ xs.length) : cutV xs none (some (k : Int)) = xs.take k := by
  unfold cutV
  rw [HT.sIx_none, HT.sIx_nat, List.drop_zero, Nat.sub_zero, Nat.min_eq_left h]
theorem cut_drop {xs : List V} {k : Nat} (h : k ≤ xs.length) : cutV xs (some (k : Int)) none = xs.drop k := by
  unfold cutV
  rw [HT.sIx_none, HT.sIx_nat, Nat.min_eq_left h]
  exact List.take_of_length_le (by rw [List.length_drop] <;> omega)
theorem inq {neg : Bool} {p : Addr} {xs : List V} (h : SqL K H p xs ∨ SqT K H p xs) (fx : flatV x = true) (fs : xs.all flatV = true) (q : Q (.bl (if neg then !inV x xs else inV x xs)) H) : rIn K neg x (.ref p) H Q := ⟨p, xs, rfl, h, fx, fs, q⟩
theorem inV_strs {a : Str} {l : List Str} : inV (.str a) (l.map V.str) = decide (a ∈ l) := by
  unfold inV
  induction l with
  | nil => simp
  | cons b r ih =>
    rw [List.map_cons, List.any_cons, ih]
    show ((b == a) || _) = _
    by_cases e : b = a
    · subst e; simp
    · have e' : ¬ a = b := fun z => e z.symm
      simp [e, e']
theorem strs_flat {l : List Str} : (l.map V.str).all flatV = true := by simp [flatV]
theorem pop {l : Addr} {xs : List V} {y : V} (h : H l = some (.lst xs)) (e : xs[xs.length - 1]? = some y) (q : Q y (upd H l (.lst xs.dropLast))) : rPop (.ref l) [] H Q := ⟨l, xs, y, rfl, rfl, h, e, q⟩
def LRK (K : PySem.W.Frag) (Q : VK) (x : V) (H1 : Hp) : Prop := ∃ a xs, x = .ref a ∧ SqL K H1 a xs ∧ ∀ p, H1 p = none → Q (.ref p) (upd H1 p (.lst xs.reverse))
theorem listrev (h : ta σ H (LRK K Q)) : RL.tListRev K ta σ H Q := h
theorem lrk {a : Addr} {xs : List V} (hS : SqL K H a xs) (q : ∀ p H1, H p = none → Kp [] H H1 → H1 p = some (.lst xs.reverse) → Q (.ref p) H1) : LRK K Q (.ref a) H := ⟨a, xs, rfl, hS, mk q⟩
theorem popS {l : Addr} {xs : List V} {y : V} (h : H l = some (.lst (xs ++ [y]))) (q : Q y (upd H l (.lst xs))) : rPop (.ref l) [] H Q := ⟨l, _, y, rfl, rfl, h, by simp, by rw [List.dropLast_concat]; exact q⟩
theorem extT {l b : Addr} {xs zs : List V} (h : H l = some (.lst xs)) (h2 : H b = some (.tup zs)) (hz : xs.length + zs.length ≤ 10000000) (q : Q .non (upd H l (.lst (xs ++ zs)))) : RL.rExtT (.ref l) [.ref b] H Q := ⟨l, b, xs, zs, rfl, rfl, h, h2, Nat.le_trans hz (by decide), q⟩
theorem slT {p : Addr} {xs : List V} {k : Nat} (h : SqT K H p xs) (h0 : 0 < k) (h1 : k ≤ xs.length) (q : ∀ d H1, H d = none → Kp [] H H1 → H1 d = some (.tup (xs.drop k)) → Q (.ref d) H1) : rSlT K (.ref p) (some (k : Int)) none H Q := ⟨p, xs, rfl, h, fun z => by
  rw [HT.sIx_nat, Nat.min_eq_left h1] at z
  omega, mk (by rw [cut_drop h1]; exact q)⟩
theorem revl (h : ta σ H (LRK K Q)) : tRevL K ta σ H Q := h
theorem idx {a : Addr} {ys : List V} {y : V} (j : Nat) {z : V} (hS : SqL K H a ys) (fy : flatV y = true) (fs : ys.all flatV = true) (hz : ys[j]? = some z) (hy : eqV z y = true) (hn : ∀ (m : Nat) (z' : V), m < j → ys[m]? = some z' → eqV z' y = false) (q : Q (.int (j : Nat)) H) : rIndex K (.ref a) [y] H Q := ⟨a, ys, y, j, z, rfl, rfl, hS, fy, fs, hz, hy, hn, q⟩
theorem truL {p : Addr} {xs : List V} {q : Bool → Prop} (h : H p = some (.lst xs)) (hq : q (!xs.isEmpty)) : ∃ k, TruV K (.ref p) H k ∧ q k := ⟨_, .inl ⟨xs, lstL h, rfl⟩, hq⟩
theorem glst {n : Nat} {t : TGs} {a : Addr} {xs : List V} {Q : St → Hp → Prop} (h : SqL K H a xs) (e : xs.length = n) (q : t xs σ H Q) : gLst K n t (.ref a) σ H Q := ⟨a, xs, rfl, h, e, q⟩
def rSplitQ : V → List V → Hp → VK → Prop := fun x xs H Q => ∃ a b, x = .str a ∧ xs = [.str b] ∧ (b.length == 0) = false ∧ a.length + 2 ≤ sizeLine ∧ rNewStrs (Txt.split a b) H Q
theorem m_split {X : Cx} : MtR X "str.split" rSplitQ := mt_split
theorem split {a b : Str} (hb : (b.length == 0) = false) (hz : a.length ≤ 10000000) (q : ∀ p H1, H p = none → Kp [] H H1 → H1 p = some (.lst ((Txt.split a b).map V.str)) → Q (.ref p) H1) : rSplitQ (.str a) [.str b] H Q := ⟨a, b, rfl, rfl, hb, Nat.le_trans (Nat.add_le_add_right hz 2) (by decide), mk q⟩
def EnSK (K : PySem.W.Frag) (R : It → Hp → Prop) (vs zs : List V) (H2 : Hp) : Prop := ∃ a xs k, vs = [.ref a] ∧ zs = [.int k] ∧ -(2 ^ 63) ≤ k ∧ k < 2 ^ 63 ∧ SqL K H2 a xs ∧ R (RL.IteS K a k) H2
theorem ienumS {a b : TA} {R : It → Hp → Prop} (h : a σ H fun vs H1 => b σ H1 fun zs H2 => EnSK K R vs zs H2) : RL.iEnumS K a b σ H R := h
theorem walk_enumS {a : Addr} {xs : List V} {k : Int} : Walk (RL.IteS K a k) xs.length (fun H => SqL K H a xs) (YPair (fun i => some (.int (k + (i : Nat)))) (fun i => xs[i]?)) := by
  refine ⟨fun i _ hi q => ⟨xs, xs[i], q, by simp [hi]⟩, fun _ q => ⟨xs, q, rfl⟩, fun i H v H' _ q y => ?_⟩
  obtain ⟨T, x, h1, h2, h3, h4⟩ := y
  exact ⟨T, .int (k + (i : Nat)), x, h1, h2, h3, rfl, h4 xs q⟩
theorem fores {g : TG} {tb : TS} {a : Addr} {k : Int} (xs : List V) (hk0 : -(2 ^ 63) ≤ k) (hk1 : k < 2 ^ 63) (hS : SqL K H a xs) (Pv : Nat → St → Hp → Prop) (h0 : Pv 0 σ H) (hl : ∀ i σ H, i ≤ xs.length → Pv i σ H → SqL K H a xs)
    (hs : ∀ i x σ H H' T, xs[i]? = some x → Pv i σ H → H T = none → Kp [] H H' → H' T = some (.tup [.int (k + (i : Nat)), x]) → g (.ref T) σ H' fun σ2 H2 => tb { D with nx := Pv (i + 1), ct := Pv (i + 1), bk := D.nx } σ2 H2) (hd : ∀ σ H, Pv xs.length σ H → D.nx σ H) : EnSK K (ForK g tb D σ) [.ref a] [.int k] H :=
  ⟨a, xs, k, rfl, rfl, hk0, hk1, hS, for_it (walk_enumS (K := K) (a := a) (xs := xs) (k := k)) Pv h0 hl (fun i v σ H H' hi p y => by
    obtain ⟨T, x, z, rfl, h1, rfl, h2, h3⟩ := y
    cases h2
    exact hs i z σ H _ T h3 p h1 (Kp.new h1) upd_same) hd⟩
/-- an f-string of two parts or more -/
def tJoin (ts : List TE) : TE := fun σ H Q => tJs ts Str.empty σ H fun out H1 => Q (.str out) H1
theorem pe_joinedN {X : Cx} {v1 v2 : Expr} {rest : List Expr} {ts : List TE} {pos : Pos} (h : PJ X (v1 :: v2 :: rest) ts) : PE X (.JoinedStr (v1 :: v2 :: rest) pos) (tJoin ts) := pe_joined h
def rJoinQ (K : PySem.W.Frag) : V → List V → Hp → VK → Prop := fun x xs H Q => ∃ a p, ∃ ys : List Str, x = .str a ∧ xs = [.ref p] ∧ (SqL K H p (ys.map V.str) ∨ SqT K H p (ys.map V.str)) ∧ (ys.map (·.length)).sum + ys.length * a.length ≤ 16777216 ∧ Q (.str (Txt.join a ys)) H
theorem m_join {X : Cx} : MtR X "str.join" (rJoinQ X.K) := mt_join
theorem join {a : Str} {p : Addr} {ys : List Str} (h : SqL K H p (ys.map V.str)) (hz : (ys.map (·.length)).sum + ys.length * a.length ≤ 16777216) (q : Q (.str (Txt.join a ys)) H) : rJoinQ K (.str a) [.ref p] H Q := ⟨a, p, ys, rfl, rfl, .inl h, hz, q⟩
theorem lens_le {n : Nat} : ∀ {ys : List Str}, (∀ y ∈ ys, y.length ≤ n) → (ys.map (·.length)).sum ≤ n * ys.length
  | [], _ => by simp
  | y :: r, h => by
    have h1 := h y (by simp)
    have h2 := lens_le (n := n) (ys := r) fun z hz => h z (by simp [hz])
    rw [List.map_cons, List.sum_cons, List.length_cons, Nat.mul_add]
    omega
theorem mulS {x : Str} {k : Nat} (h1 : 2 ≤ k) (h2 : k ≤ 100000) (h3 : 1 ≤ x.length) (h4 : x.length ≤ 100) (q : Q (.str (RL.repS x k)) H) : RL.rMulS (.str x) (.int (k : Int)) H Q := ⟨x, k, rfl, rfl, h1, h2, h3, h4, q⟩
theorem cat {l b : Addr} {xs zs : List V} (h : H l = some (.lst xs)) (h2 : H b = some (.lst zs)) (hz : xs.length + zs.length ≤ 100000) (q : ∀ p H1, H p = none → Kp [] H H1 → H1 p = some (.lst (xs ++ zs)) → Q (.ref p) H1) : rCat (.ref l) (.ref b) H Q := ⟨l, b, xs, zs, rfl, rfl, h, h2, Nat.le_trans hz (by decide), mk q⟩
end
end Z

/-! ### zip of two lists of one length -/
namespace Z
open PySem L2
section
variable {σ : St} {H : Hp} {Q : VK} {te : TE} {D : Ends} {K : PySem.W.Frag}
def ZipK (K : PySem.W.Frag) (R : It → Hp → Prop) (vs : List V) (H1 : Hp) : Prop := ∃ a b xs ys, vs = [.ref a, .ref b] ∧ SqL K H1 a xs ∧ SqL K H1 b ys ∧ R (Itz K a b) H1
theorem izip {a : TA} {R : It → Hp → Prop} (h : a σ H (ZipK K R)) : iZip K a σ H R := h
theorem forz {g : TG} {tb : TS} {a b : Addr} (xs ys : List V) (hn : xs.length = ys.length) (hS : SqL K H a xs) (hS2 : SqL K H b ys) (Pv : Nat → St → Hp → Prop) (h0 : Pv 0 σ H) (hl : ∀ i σ H, i ≤ xs.length → Pv i σ H → SqL K H a xs ∧ SqL K H b ys)
    (hs : ∀ i x y σ H H' T, xs[i]? = some x → ys[i]? = some y → Pv i σ H → H T = none → Kp [] H H' → H' T = some (.tup [x, y]) → g (.ref T) σ H' fun σ2 H2 => tb { D with nx := Pv (i + 1), ct := Pv (i + 1), bk := D.nx } σ2 H2) (hd : ∀ σ H, Pv xs.length σ H → D.nx σ H) : ZipK K (ForK g tb D σ) [.ref a, .ref b] H :=
  ⟨a, b, xs, ys, rfl, hS, hS2, for_it (walk_zip (K := K) (a := a) (b := b) (xs := xs) (ys := ys) (n := xs.length) (by omega)) Pv h0 hl (fun i v σ H H' hi p y => by
    obtain ⟨T, x, z, rfl, h1, rfl, h2, h3⟩ := y
    exact hs i x z σ H _ T h2 h3 p h1 (Kp.new h1) upd_same) hd⟩
theorem lcz {g : TG} {tt : TT} {vs : List Nat} {a b : Addr} (xs ys : List V) (hn : xs.length = ys.length) (hS : SqL K H a xs) (hS2 : SqL K H b ys) (Pv : Addr → Nat → Hp → Prop) (h0 : ∀ D H1, H D = none → Kp [] H H1 → H1 D = some (.lst []) → Pv D 0 H1)
    (hl : ∀ D i H1, H D = none → Pv D i H1 → SqL K H1 a xs ∧ SqL K H1 b ys)
    (hs : ∀ D i x y H1 H1' T, H D = none → xs[i]? = some x → ys[i]? = some y → Pv D i H1 → H1 T = none → Kp [] H1 H1' → H1' T = some (.tup [x, y]) → g (.ref T) (wipe σ vs) H1' fun σ2 H2 => wipe σ2 vs = wipe σ vs ∧ tt σ2 H2 fun b H3 => if b = true then te σ2 H3 fun y H4 => ∃ acc, H4 D = some (.lst acc) ∧ acc.length < sizeLine ∧ Pv D (i + 1) (upd H4 D (.lst (acc ++ [y]))) else Pv D (i + 1) H3)
    (hd : ∀ D H1, H D = none → Pv D xs.length H1 → Q (.ref D) H1) : ZipK K (LcK g tt te vs σ Q) [.ref a, .ref b] H :=
  ⟨a, b, xs, ys, rfl, hS, hS2, fun D hD => lc_it (walk_zip (K := K) (a := a) (b := b) (xs := xs) (ys := ys) (n := xs.length) (by omega)) (Pv D) (h0 D _ hD (Kp.new hD) upd_same) (fun _ _ _ p => hl D _ _ hD p) (fun i v H H' hi p y => by
    obtain ⟨T, x, z, rfl, h1, rfl, h2, h3⟩ := y
    exact hs D i x z H _ T hD h2 h3 p h1 (Kp.new h1) upd_same) fun H1 p => hd D H1 hD p⟩
end
end Z

/-! ### math.lcm -/
namespace RL
open PySem PySem.Spec PyProof.Rows L2
def rLcm : List V → Hp → VK → Prop := fun vs H Q => ∃ a b : Int, vs = [.int a, .int b] ∧ a.natAbs < 2 ^ 6000 ∧ b.natAbs < 2 ^ 6000 ∧ Q (.int ((Nat.lcm a.natAbs b.natAbs : Nat) : Int)) H
theorem lcm_le (a b : Nat) : Nat.lcm a b ≤ a * b := by
  by_cases h : a * b = 0
  · rcases Nat.mul_eq_zero.mp h with h | h <;> subst h <;> simp
  · exact Nat.le_of_dvd (Nat.pos_of_ne_zero h) (Nat.lcm_dvd_mul a b)
theorem cr_lcm {X : Cx} : CallR X (.builtin "math.lcm") rLcm := by
  intro pins s σ H vs us Q I r h
  obtain ⟨a, b, rfl, ha, hb, q⟩ := h
  obtain ⟨t, u, rfl⟩ := Vals.int2 r
  have e1 : Nat.lcm 1 a.natAbs = a.natAbs := by simp
  have hp : (1 : Nat) < 2 ^ 6000 := Nat.one_lt_two_pow (by decide)
  have l1 : (max 1 a.natAbs).log2 ≤ 5999 := PySem.W.mg_log (k := 5999) (Nat.max_lt.mpr ⟨hp, ha⟩)
  have l2 : (max a.natAbs b.natAbs).log2 ≤ 5999 := PySem.W.mg_log (k := 5999) (Nat.max_lt.mpr ⟨ha, hb⟩)
  have hm : a.natAbs * b.natAbs < 2 ^ (6000 + 6000) := by
    rw [Nat.pow_add]
    exact Nat.mul_lt_mul'' ha hb
  have l3 : ((((Nat.lcm 1 a.natAbs).lcm b.natAbs : Nat) : Int)).natAbs.log2 < bitsLine := by
    rw [e1, Int.natAbs_natCast]
    have := PySem.W.mg_log (k := 11999) (Nat.lt_of_le_of_lt (lcm_le a.natAbs b.natAbs) hm)
    exact Nat.lt_of_le_of_lt this (by decide)
  have g := PySem.W.mg_run_lcm a t b u (by omega) (by omega) l3
  rw [e1] at g
  exact call_function_meets PySem.W.MGF.kind_lcm PySem.W.MGF.plain_lcm PySem.W.MGF.entry_lcm (PySem.W.MGF.args_lcm _ _) g.meets ⟨.int _, H, I.tok _, ⟨_, rfl⟩, q⟩
end RL

namespace K53
open PySem L2 Z
def topS (i : Nat) : Stmt := PySem.Challenge.pw_samphire_k53_whole_no_lesser_spread.main.body.getD i (.Pass ⟨0, 0, 0, 0⟩)
abbrev s_lowest : Stmt := topS 7
abbrev N_lowest : List Str := ["p", "q", "common"]
theorem sc_lowest : FnScope N_lowest ["p", "q"] (defScope s_lowest) := ⟨rfl, rfl, rfl, by decide +kernel, rfl, by decide +kernel, by decide +kernel⟩
abbrev s_plus : Stmt := topS 8
abbrev N_plus : List Str := ["a", "b"]
theorem sc_plus : FnScope N_plus ["a", "b"] (defScope s_plus) := ⟨rfl, rfl, rfl, by decide +kernel, rfl, by decide +kernel, by decide +kernel⟩
abbrev s_minus : Stmt := topS 9
abbrev N_minus : List Str := ["a", "b"]
theorem sc_minus : FnScope N_minus ["a", "b"] (defScope s_minus) := ⟨rfl, rfl, rfl, by decide +kernel, rfl, by decide +kernel, by decide +kernel⟩
abbrev s_times : Stmt := topS 10
abbrev N_times : List Str := ["a", "b"]
theorem sc_times : FnScope N_times ["a", "b"] (defScope s_times) := ⟨rfl, rfl, rfl, by decide +kernel, rfl, by decide +kernel, by decide +kernel⟩
abbrev s_over : Stmt := topS 11
abbrev N_over : List Str := ["a", "b"]
theorem sc_over : FnScope N_over ["a", "b"] (defScope s_over) := ⟨rfl, rfl, rfl, by decide +kernel, rfl, by decide +kernel, by decide +kernel⟩
abbrev s_less : Stmt := topS 12
abbrev N_less : List Str := ["a", "b"]
theorem sc_less : FnScope N_less ["a", "b"] (defScope s_less) := ⟨rfl, rfl, rfl, by decide +kernel, rfl, by decide +kernel, by decide +kernel⟩
abbrev s_sum_of : Stmt := topS 13
abbrev N_sum_of : List Str := ["fractions", "total", "fraction"]
theorem sc_sum_of : FnScope N_sum_of ["fractions"] (defScope s_sum_of) := ⟨rfl, rfl, rfl, by decide +kernel, rfl, by decide +kernel, by decide +kernel⟩
abbrev s_common_denominator : Stmt := topS 14
abbrev N_common_denominator : List Str := ["fractions", "common", "fraction"]
theorem sc_common_denominator : FnScope N_common_denominator ["fractions"] (defScope s_common_denominator) := ⟨rfl, rfl, rfl, by decide +kernel, rfl, by decide +kernel, by decide +kernel⟩
abbrev s_scaled : Stmt := topS 15
abbrev N_scaled : List Str := ["fractions", "factor", "p", "q"]
theorem sc_scaled : FnScope N_scaled ["fractions", "factor"] (defScope s_scaled) := ⟨rfl, rfl, rfl, by decide +kernel, rfl, by decide +kernel, by decide +kernel⟩
abbrev s_threshold : Stmt := topS 17
abbrev N_threshold : List Str := ["weights", "size", "common", "smaller", "total", "places"]
theorem sc_threshold : FnScope N_threshold ["weights", "size"] (defScope s_threshold) := ⟨rfl, rfl, rfl, by decide +kernel, rfl, by decide +kernel, by decide +kernel⟩
abbrev s_chance_at : Stmt := topS 18
abbrev N_chance_at : List Str := ["weight", "bar"]
theorem sc_chance_at : FnScope N_chance_at ["weight", "bar"] (defScope s_chance_at) := ⟨rfl, rfl, rfl, by decide +kernel, rfl, by decide +kernel, by decide +kernel⟩
abbrev s_as_fractions : Stmt := topS 20
abbrev N_as_fractions : List Str := ["weights", "weight"]
theorem sc_as_fractions : FnScope N_as_fractions ["weights"] (defScope s_as_fractions) := ⟨rfl, rfl, rfl, by decide +kernel, rfl, by decide +kernel, by decide +kernel⟩
abbrev s_spread : Stmt := topS 21
abbrev N_spread : List Str := ["weights", "chances", "found", "weight", "chance"]
theorem sc_spread : FnScope N_spread ["weights", "chances"] (defScope s_spread) := ⟨rfl, rfl, rfl, by decide +kernel, rfl, by decide +kernel, by decide +kernel⟩
abbrev s_price_bound : Stmt := topS 22
abbrev N_price_bound : List Str := ["weights", "size", "price", "square", "found", "weight"]
theorem sc_price_bound : FnScope N_price_bound ["weights", "size", "price"] (defScope s_price_bound) := ⟨rfl, rfl, rfl, by decide +kernel, rfl, by decide +kernel, by decide +kernel⟩
abbrev s_best_price : Stmt := topS 23
abbrev N_best_price : List Str := ["weights", "size"]
theorem sc_best_price : FnScope N_best_price ["weights", "size"] (defScope s_best_price) := ⟨rfl, rfl, rfl, by decide +kernel, rfl, by decide +kernel, by decide +kernel⟩
abbrev s_best_chances : Stmt := topS 24
abbrev N_best_chances : List Str := ["weights", "size", "price", "weight"]
theorem sc_best_chances : FnScope N_best_chances ["weights", "size"] (defScope s_best_chances) := ⟨rfl, rfl, rfl, by decide +kernel, rfl, by decide +kernel, by decide +kernel⟩
abbrev s__law_mix : Stmt := topS 26
abbrev N__law_mix : List Str := ["number", "k"]
theorem sc__law_mix : FnScope N__law_mix ["number", "k"] (defScope s__law_mix) := ⟨rfl, rfl, rfl, by decide +kernel, rfl, by decide +kernel, by decide +kernel⟩
abbrev s__law_numbers : Stmt := topS 27
abbrev N__law_numbers : List Str := ["script", "count", "row", "base", "cell", "rest", "k"]
theorem sc__law_numbers : FnScope N__law_numbers ["script", "count"] (defScope s__law_numbers) := ⟨rfl, rfl, rfl, by decide +kernel, rfl, by decide +kernel, by decide +kernel⟩
abbrev s__law_take : Stmt := topS 28
abbrev N__law_take : List Str := ["row", "bound"]
theorem sc__law_take : FnScope N__law_take ["row", "bound"] (defScope s__law_take) := ⟨rfl, rfl, rfl, by decide +kernel, rfl, by decide +kernel, by decide +kernel⟩
abbrev s__law_low : Stmt := topS 29
abbrev N__law_low : List Str := ["p", "q", "first", "second"]
theorem sc__law_low : FnScope N__law_low ["p", "q"] (defScope s__law_low) := ⟨rfl, rfl, rfl, by decide +kernel, rfl, by decide +kernel, by decide +kernel⟩
abbrev s__law_plus : Stmt := topS 30
abbrev N__law_plus : List Str := ["one", "other"]
theorem sc__law_plus : FnScope N__law_plus ["one", "other"] (defScope s__law_plus) := ⟨rfl, rfl, rfl, by decide +kernel, rfl, by decide +kernel, by decide +kernel⟩
abbrev s__law_times : Stmt := topS 31
abbrev N__law_times : List Str := ["one", "other"]
theorem sc__law_times : FnScope N__law_times ["one", "other"] (defScope s__law_times) := ⟨rfl, rfl, rfl, by decide +kernel, rfl, by decide +kernel, by decide +kernel⟩
abbrev s__law_less : Stmt := topS 32
abbrev N__law_less : List Str := ["one", "other"]
theorem sc__law_less : FnScope N__law_less ["one", "other"] (defScope s__law_less) := ⟨rfl, rfl, rfl, by decide +kernel, rfl, by decide +kernel, by decide +kernel⟩
abbrev s__law_minus : Stmt := topS 33
abbrev N__law_minus : List Str := ["one", "other"]
theorem sc__law_minus : FnScope N__law_minus ["one", "other"] (defScope s__law_minus) := ⟨rfl, rfl, rfl, by decide +kernel, rfl, by decide +kernel, by decide +kernel⟩
abbrev s__law_bound : Stmt := topS 34
abbrev N__law_bound : List Str := ["weights", "size", "price", "bound", "weight"]
theorem sc__law_bound : FnScope N__law_bound ["weights", "size", "price"] (defScope s__law_bound) := ⟨rfl, rfl, rfl, by decide +kernel, rfl, by decide +kernel, by decide +kernel⟩
abbrev s__law_spread : Stmt := topS 35
abbrev N__law_spread : List Str := ["weights", "chances", "found", "k", "p", "q"]
theorem sc__law_spread : FnScope N__law_spread ["weights", "chances"] (defScope s__law_spread) := ⟨rfl, rfl, rfl, by decide +kernel, rfl, by decide +kernel, by decide +kernel⟩
abbrev s__law_chances : Stmt := topS 36
abbrev N__law_chances : List Str := ["row", "many", "size", "parts", "whole", "found", "part", "chance", "k"]
theorem sc__law_chances : FnScope N__law_chances ["row", "many", "size"] (defScope s__law_chances) := ⟨rfl, rfl, rfl, by decide +kernel, rfl, by decide +kernel, by decide +kernel⟩
abbrev s__law_kept : Stmt := topS 37
abbrev N__law_kept : List Str := ["weights", "price", "found", "weight", "chance"]
theorem sc__law_kept : FnScope N__law_kept ["weights", "price"] (defScope s__law_kept) := ⟨rfl, rfl, rfl, by decide +kernel, rfl, by decide +kernel, by decide +kernel⟩
abbrev s_law : Stmt := topS 38
abbrev N_law : List Str := ["script", "row", "weights", "size", "given", "best", "chances", "whole", "chance", "bound", "others", "turn", "price", "found", "told", "k"]
theorem sc_law : FnScope N_law ["script"] (defScope s_law) := ⟨rfl, rfl, rfl, by decide +kernel, rfl, by decide +kernel, by decide +kernel⟩
abbrev s_ZeroDenominator_init : Stmt := inClass (topS 3) 0
abbrev N_ZeroDenominator_init : List Str := ["self", "__class__"]
theorem sc_ZeroDenominator_init : NdefX.NScope N_ZeroDenominator_init ["self"] ["__class__"] (defScope s_ZeroDenominator_init) := NdefX.nscope_by (by decide +kernel)
abbrev NF_ZeroDenominator (cc c : Addr) : NdefX.NF := ⟨"__init__", "ZeroDenominator.__init__", defArgs s_ZeroDenominator_init, defBody s_ZeroDenominator_init, defScope s_ZeroDenominator_init, [(("__class__" : Str), cc)], c⟩
structure T (P : Program) (K : PySem.W.Frag) (mg : Str → Option Value) where
  a_lowest : Addr
  fd_lowest : FuncData
  F_lowest : Fun K "lowest" "lowest" s_lowest a_lowest fd_lowest
  b_lowest : Binds K fd_lowest ["p", "q"] []
  g_lowest : mg "lowest" = some (.ref a_lowest)
  a_plus : Addr
  fd_plus : FuncData
  F_plus : Fun K "plus" "plus" s_plus a_plus fd_plus
  b_plus : Binds K fd_plus ["a", "b"] []
  g_plus : mg "plus" = some (.ref a_plus)
  a_minus : Addr
  fd_minus : FuncData
  F_minus : Fun K "minus" "minus" s_minus a_minus fd_minus
  b_minus : Binds K fd_minus ["a", "b"] []
  g_minus : mg "minus" = some (.ref a_minus)
  a_times : Addr
  fd_times : FuncData
  F_times : Fun K "times" "times" s_times a_times fd_times
  b_times : Binds K fd_times ["a", "b"] []
  g_times : mg "times" = some (.ref a_times)
  a_over : Addr
  fd_over : FuncData
  F_over : Fun K "over" "over" s_over a_over fd_over
  b_over : Binds K fd_over ["a", "b"] []
  g_over : mg "over" = some (.ref a_over)
  a_less : Addr
  fd_less : FuncData
  F_less : Fun K "less" "less" s_less a_less fd_less
  b_less : Binds K fd_less ["a", "b"] []
  g_less : mg "less" = some (.ref a_less)
  a_sum_of : Addr
  fd_sum_of : FuncData
  F_sum_of : Fun K "sum_of" "sum_of" s_sum_of a_sum_of fd_sum_of
  b_sum_of : Binds K fd_sum_of ["fractions"] []
  g_sum_of : mg "sum_of" = some (.ref a_sum_of)
  a_common_denominator : Addr
  fd_common_denominator : FuncData
  F_common_denominator : Fun K "common_denominator" "common_denominator" s_common_denominator a_common_denominator fd_common_denominator
  b_common_denominator : Binds K fd_common_denominator ["fractions"] []
  g_common_denominator : mg "common_denominator" = some (.ref a_common_denominator)
  a_scaled : Addr
  fd_scaled : FuncData
  F_scaled : Fun K "scaled" "scaled" s_scaled a_scaled fd_scaled
  b_scaled : Binds K fd_scaled ["fractions", "factor"] []
  g_scaled : mg "scaled" = some (.ref a_scaled)
  a_threshold : Addr
  fd_threshold : FuncData
  F_threshold : Fun K "threshold" "threshold" s_threshold a_threshold fd_threshold
  b_threshold : Binds K fd_threshold ["weights", "size"] []
  g_threshold : mg "threshold" = some (.ref a_threshold)
  a_chance_at : Addr
  fd_chance_at : FuncData
  F_chance_at : Fun K "chance_at" "chance_at" s_chance_at a_chance_at fd_chance_at
  b_chance_at : Binds K fd_chance_at ["weight", "bar"] []
  g_chance_at : mg "chance_at" = some (.ref a_chance_at)
  a_as_fractions : Addr
  fd_as_fractions : FuncData
  F_as_fractions : Fun K "as_fractions" "as_fractions" s_as_fractions a_as_fractions fd_as_fractions
  b_as_fractions : Binds K fd_as_fractions ["weights"] []
  g_as_fractions : mg "as_fractions" = some (.ref a_as_fractions)
  a_spread : Addr
  fd_spread : FuncData
  F_spread : Fun K "spread" "spread" s_spread a_spread fd_spread
  b_spread : Binds K fd_spread ["weights", "chances"] []
  g_spread : mg "spread" = some (.ref a_spread)
  a_price_bound : Addr
  fd_price_bound : FuncData
  F_price_bound : Fun K "price_bound" "price_bound" s_price_bound a_price_bound fd_price_bound
  b_price_bound : Binds K fd_price_bound ["weights", "size", "price"] []
  g_price_bound : mg "price_bound" = some (.ref a_price_bound)
  a_best_price : Addr
  fd_best_price : FuncData
  F_best_price : Fun K "best_price" "best_price" s_best_price a_best_price fd_best_price
  b_best_price : Binds K fd_best_price ["weights", "size"] []
  g_best_price : mg "best_price" = some (.ref a_best_price)
  a_best_chances : Addr
  fd_best_chances : FuncData
  F_best_chances : Fun K "best_chances" "best_chances" s_best_chances a_best_chances fd_best_chances
  b_best_chances : Binds K fd_best_chances ["weights", "size"] []
  g_best_chances : mg "best_chances" = some (.ref a_best_chances)
  a__law_mix : Addr
  fd__law_mix : FuncData
  F__law_mix : Fun K "_law_mix" "_law_mix" s__law_mix a__law_mix fd__law_mix
  b__law_mix : Binds K fd__law_mix ["number", "k"] []
  g__law_mix : mg "_law_mix" = some (.ref a__law_mix)
  a__law_numbers : Addr
  fd__law_numbers : FuncData
  F__law_numbers : Fun K "_law_numbers" "_law_numbers" s__law_numbers a__law_numbers fd__law_numbers
  b__law_numbers : Binds K fd__law_numbers ["script", "count"] []
  g__law_numbers : mg "_law_numbers" = some (.ref a__law_numbers)
  a__law_take : Addr
  fd__law_take : FuncData
  F__law_take : Fun K "_law_take" "_law_take" s__law_take a__law_take fd__law_take
  b__law_take : Binds K fd__law_take ["row", "bound"] []
  g__law_take : mg "_law_take" = some (.ref a__law_take)
  a__law_low : Addr
  fd__law_low : FuncData
  F__law_low : Fun K "_law_low" "_law_low" s__law_low a__law_low fd__law_low
  b__law_low : Binds K fd__law_low ["p", "q"] []
  g__law_low : mg "_law_low" = some (.ref a__law_low)
  a__law_plus : Addr
  fd__law_plus : FuncData
  F__law_plus : Fun K "_law_plus" "_law_plus" s__law_plus a__law_plus fd__law_plus
  b__law_plus : Binds K fd__law_plus ["one", "other"] []
  g__law_plus : mg "_law_plus" = some (.ref a__law_plus)
  a__law_times : Addr
  fd__law_times : FuncData
  F__law_times : Fun K "_law_times" "_law_times" s__law_times a__law_times fd__law_times
  b__law_times : Binds K fd__law_times ["one", "other"] []
  g__law_times : mg "_law_times" = some (.ref a__law_times)
  a__law_less : Addr
  fd__law_less : FuncData
  F__law_less : Fun K "_law_less" "_law_less" s__law_less a__law_less fd__law_less
  b__law_less : Binds K fd__law_less ["one", "other"] []
  g__law_less : mg "_law_less" = some (.ref a__law_less)
  a__law_minus : Addr
  fd__law_minus : FuncData
  F__law_minus : Fun K "_law_minus" "_law_minus" s__law_minus a__law_minus fd__law_minus
  b__law_minus : Binds K fd__law_minus ["one", "other"] []
  g__law_minus : mg "_law_minus" = some (.ref a__law_minus)
  a__law_bound : Addr
  fd__law_bound : FuncData
  F__law_bound : Fun K "_law_bound" "_law_bound" s__law_bound a__law_bound fd__law_bound
  b__law_bound : Binds K fd__law_bound ["weights", "size", "price"] []
  g__law_bound : mg "_law_bound" = some (.ref a__law_bound)
  a__law_spread : Addr
  fd__law_spread : FuncData
  F__law_spread : Fun K "_law_spread" "_law_spread" s__law_spread a__law_spread fd__law_spread
  b__law_spread : Binds K fd__law_spread ["weights", "chances"] []
  g__law_spread : mg "_law_spread" = some (.ref a__law_spread)
  a__law_chances : Addr
  fd__law_chances : FuncData
  F__law_chances : Fun K "_law_chances" "_law_chances" s__law_chances a__law_chances fd__law_chances
  b__law_chances : Binds K fd__law_chances ["row", "many", "size"] []
  g__law_chances : mg "_law_chances" = some (.ref a__law_chances)
  a__law_kept : Addr
  fd__law_kept : FuncData
  F__law_kept : Fun K "_law_kept" "_law_kept" s__law_kept a__law_kept fd__law_kept
  b__law_kept : Binds K fd__law_kept ["weights", "price"] []
  g__law_kept : mg "_law_kept" = some (.ref a__law_kept)
  a_law : Addr
  fd_law : FuncData
  F_law : Fun K "law" "law" s_law a_law fd_law
  b_law : Binds K fd_law ["script"] []
  g_law : mg "law" = some (.ref a_law)
  C_SamphireError : Addr
  mg_SamphireError : mg "SamphireError" = some (.ref C_SamphireError)
  C_ZeroDenominator : Addr
  a_ZeroDenominator_init : Addr
  c_ZeroDenominator : Addr
  cc_ZeroDenominator : Addr
  x_ZeroDenominator : Sup.ExcT P K mg "ZeroDenominator" C_ZeroDenominator a_ZeroDenominator_init c_ZeroDenominator cc_ZeroDenominator
  doc_ZeroDenominator : Value
  pm_ZeroDenominator : Value
  ctv_ZeroDenominator : Value
  oc_ZeroDenominator : Value
  od_ZeroDenominator : Option Addr
  osl_ZeroDenominator : Array (Option Value)
  lk_ZeroDenominator : K.lookup a_ZeroDenominator_init = some ⟨oc_ZeroDenominator, od_ZeroDenominator, .func ((NF_ZeroDenominator cc_ZeroDenominator c_ZeroDenominator).fd doc_ZeroDenominator pm_ZeroDenominator ctv_ZeroDenominator), osl_ZeroDenominator⟩
  hc_ZeroDenominator : PySem.W.codeIn K (.ref c_ZeroDenominator) "ZeroDenominator.__init__" = true
  bx_ZeroDenominator : Binds K ((NF_ZeroDenominator cc_ZeroDenominator c_ZeroDenominator).fd doc_ZeroDenominator pm_ZeroDenominator ctv_ZeroDenominator) ["self"] []
  z_abs : mg "abs" = none
  z_int : mg "int" = none
  z_len : mg "len" = none
  z_list : mg "list" = none
  z_max : mg "max" = none
  z_min : mg "min" = none
  z_range : mg "range" = none
  z_sorted : mg "sorted" = none
  z_sum : mg "sum" = none
  z_super : mg "super" = none
  z_zip : mg "zip" = none
  k_ZERO : Addr
  g_ZERO : mg "ZERO" = some (.ref k_ZERO)
  q_ZERO : ∀ H, SqT K H k_ZERO [.int (0), .int (1)]
  k_ONE : Addr
  g_ONE : mg "ONE" = some (.ref k_ONE)
  q_ONE : ∀ H, SqT K H k_ONE [.int (1), .int (1)]
  g_gcd : mg "gcd" = some (.builtin "math.gcd")
  g_lcm : mg "lcm" = some (.builtin "math.lcm")
/-! ### the walk by single steps -/
local macro_rules | `(tactic| walk_at "z1") => `(tactic| first
  | with_reducible refine Z.seq ?_
  | with_reducible refine Z.asg ?_
  | ((with_reducible refine' Z.gname ?zv ?_); (case zv => first | (dsimp only [List.set]; done) | (dsimp only [List.set]; exact rfl)))
  | ((with_reducible refine' Z.var ?zv ?_); (case zv => exact rfl))
  | with_reducible refine Z.cst ?_
  | with_reducible refine Z.op ?_
  | with_reducible refine Z.un ?_
  | with_reducible refine Z.i0 ?_
  | with_reducible refine Z.iU ?_
  | with_reducible refine Z.eqII ?_
  | with_reducible refine Z.neII ?_
  | with_reducible refine Z.eqSS ?_
  | with_reducible refine Z.neSS ?_
  | with_reducible refine Z.eqBB ?_
  | with_reducible refine Z.neBB ?_
  | with_reducible refine Z.bl' ?_
  | with_reducible refine Z.test ?_
  | with_reducible refine Z.tbb ?_
  | with_reducible refine Z.tand ?_
  | with_reducible refine Z.tor ?_
  | with_reducible refine Z.tnot ?_
  | with_reducible refine Z.tyes ?_
  | with_reducible refine Z.andV ?_
  | with_reducible refine Z.orV ?_
  | with_reducible refine Z.notV ?_
  | with_reducible refine Z.ifE ?_
  | with_reducible refine Z.chain ?_
  | with_reducible refine Z.yesB ?_
  | with_reducible refine Z.noB ?_
  | with_reducible refine Z.noNB ?_
  | with_reducible refine Z.yesNB ?_
  | with_reducible refine Z.nil ?_
  | with_reducible refine Z.cons ?_
  | with_reducible refine Z.cb ?_
  | with_reducible refine Z.call ?_
  | with_reducible refine Z.meth ?_
  | with_reducible refine Z.fld ?_
  | with_reducible refine Z.int1 ?_
  | with_reducible refine Z.intb ?_
  | with_reducible refine Z.abs1 ?_
  | with_reducible refine Z.gcons ?_
  | with_reducible refine Z.gnil ?_
  | with_reducible refine Z.gcd ?_
  | ((with_reducible refine' Z.par2 ?zv ?_); (case zv => first | (dsimp only [List.set]; done) | (dsimp only [List.set]; exact rfl)))
  | with_reducible refine Z.isN ?_
  | with_reducible refine Z.notN ?_
  | with_reducible refine Z.inSg ?_
  | with_reducible refine Z.ninSg ?_
  | with_reducible refine Z.tup ?_
  | with_reducible refine Z.lst ?_
  | with_reducible refine Z.gsub ?_
  | with_reducible refine Z.par ?_
  | ((with_reducible refine' Z.aug ?zv ?_); (case zv => exact rfl))
  | with_reducible refine Z.ipI' ?_
  | with_reducible refine Z.ifs ?_
  | with_reducible refine Z.ret ?_
  | with_reducible refine Z.retN ?_
  | with_reducible refine Z.next ?_
  | with_reducible refine Z.brk ?_
  | with_reducible refine Z.drop ?_
  | with_reducible refine Z.bm ?_
  | with_reducible refine Z.bm0 ?_
  | with_reducible refine Z.sfld ?_
  | with_reducible refine Z.sfldaug ?_
  | with_reducible refine Z.radd ?_
  | with_reducible refine Z.make ?_
  | with_reducible refine Z.lc ?_
  | with_reducible refine Z.rng1 ?_
  | with_reducible refine Z.ilist ?_
  | with_reducible refine Z.itup ?_
  | with_reducible refine Z.for_ ?_
  | with_reducible refine Z.istr ?_
  | with_reducible refine Z.ienum ?_
  | with_reducible refine Z.izip ?_
  | with_reducible refine Z.ienumS ?_
  | with_reducible refine Z.din ?_
  | with_reducible refine Z.dput ?_
  | with_reducible refine Z.dget ?_
  | with_reducible refine Z.dget2 ?_
  | with_reducible refine Z.sl ?_
  | with_reducible refine Z.slno ?_
  | with_reducible refine Z.slpart ?_
  | with_reducible refine Z.bint ?_
  | with_reducible refine Z.listrev ?_
  | with_reducible refine Z.revl ?_
  | dsimp only)
local macro_rules | `(tactic| walk_at "z0") => `(tactic| ((try simp only [Z.cxK]); (try dsimp only [L2.start, List.map, List.length, Nat.reduceAdd, Nat.reduceSub, List.replicate, List.cons_append, List.nil_append])))
local macro_rules | `(tactic| walk_at "z") => `(tactic| (repeat (walk_at "z1")))

/-! ### the numbers of a law: _law_mix, _law_numbers, _law_take -/
def DrawsAt (H : Hp) (a : Addr) : Prop := ∃ ns : List Int, H a = some (.lst (ns.map V.int))
theorem DrawsAt.ne {H : Hp} {a l : Addr} (d : DrawsAt H a) (h : H l = none) : a ≠ l := ne_of_none d.choose_spec h
theorem DrawsAt.kp {M : List Addr} {H H' : Hp} {a : Addr} (d : DrawsAt H a) (k : Kp M H H') (n : a ∉ M) : DrawsAt H' a := let ⟨ns, h⟩ := d; ⟨ns, k _ _ n h⟩
theorem DrawsAt.kp0 {H H' : Hp} {a : Addr} (d : DrawsAt H a) (k : Kp [] H H') : DrawsAt H' a := d.kp k nin0
theorem DrawsAt.put {H : Hp} {a b : Addr} {o : HO} (d : DrawsAt H a) (n : a ≠ b) : DrawsAt (upd H b o) a := let ⟨ns, h⟩ := d; ⟨ns, (upd_ne n).trans h⟩
def spMix : Sp := fun vs H Q _ => ∃ n k : Int, vs = [.int n, .int k] ∧ ∀ v, 0 ≤ v → v < 998244353 → Q (.int v) H
theorem ok__law_mix {P : Program} {w : World} {K : PySem.W.Frag} {mg : Str → Option Value} {base : Heap} (T : T P K mg) : FnOk P w K mg base CX0 1 T.a__law_mix T.fd__law_mix ["number", "k"] spMix := by
  refine T.F__law_mix.ok sc__law_mix (fun vs H Q E h => ?_) (fun cdv A outer s H vs Q E hr h => ?_)
  · obtain ⟨n, k, rfl, _⟩ := h
    rfl
  · obtain ⟨n, k, rfl, q⟩ := h
    refine ⟨_, (pss_one (ps_ret (pe_op op_mod (pe_op op_mul (pe_op op_mod (pe_callTy c_int (by rfl) T.z_int (by decide +kernel) (pa_cons (pe_op op_mul (pe_op op_add (pe_op op_add (pe_op op_mod (pe_callTy c_int (by rfl) T.z_int (by decide +kernel) (pa_cons (pv 0) pa_nil)) pe_int) (pe_op op_mul pe_int (pv 1))) pe_int) pe_int) pa_nil)) pe_int) pe_int) pe_int))), ?_⟩
    walk_at "z0"
    walk_at "z"
    refine Z.iC (by decide) ?_
    walk_at "z"
    refine Z.iC (.inl (by decide)) ?_
    walk_at "z"
    refine Z.iC (.inr (by decide)) ?_
    walk_at "z"
    refine Z.iC (by decide) ?_
    walk_at "z"
    refine Z.iC (.inr (by decide)) ?_
    walk_at "z"
    refine Z.iC (by decide) ?_
    walk_at "z"
    exact q _ (Int.emod_nonneg _ (by omega)) (Int.emod_lt_of_pos _ (by omega))
def spTake (K : PySem.W.Frag) : Sp := fun vs H Q _ => ∃ (a : Addr) (m : Int), vs = [.ref a, .int m] ∧ DrawsAt H a ∧ 1 ≤ m ∧ m < 18446744073709551616 ∧ ∀ H' v, 0 ≤ v → v < m → Kp [a] H H' → DrawsAt H' a → Q (.int v) H'
theorem ok__law_take {P : Program} {w : World} {K : PySem.W.Frag} {mg : Str → Option Value} {base : Heap} (T : T P K mg) : FnOk P w K mg base CX0 1 T.a__law_take T.fd__law_take ["row", "bound"] (spTake K) := by
  refine T.F__law_take.ok sc__law_take (fun vs H Q E h => ?_) (fun cdv A outer s H vs Q E hr h => ?_)
  · obtain ⟨a, m, rfl, _⟩ := h
    rfl
  · obtain ⟨a, m, rfl, ⟨ns, ha⟩, h0, h1, q⟩ := h
    refine ⟨_, (pss_cons (ps_if (pt_not (pt_truth (pv 0) (by intro _; rfl))) (pss_one (ps_ret pe_int)) pss_nil)
      (pss_one (ps_ret (pe_op op_mod (pe_callTy c_int (by rfl) T.z_int (by decide +kernel) (pa_cons (pe_bm0 PySem.F.plainAttrs_list PySem.F.slot_list_pop PySem.F.type_list_pop mt_pop (pv 0)) pa_nil)) (pv 1))))), ?_⟩
    walk_at "z0"
    walk_at "z"
    refine Z.truL ha ?_
    cases hns : ns with
    | nil =>
      walk_at "z"
      exact q _ _ (by omega) (by omega) (Kp.refl _) ⟨ns, ha⟩
    | cons n r =>
      rw [show (!!(List.map V.int (n :: r)).isEmpty) = false from rfl]
      walk_at "z"
      refine ⟨Z.tyL ha, ?_⟩
      have hl : 0 < ns.length := by rw [hns]; simp
      have hi : ns.length - 1 < ns.length := by omega
      refine Z.pop ha (y := .int ns[ns.length - 1]) (by rw [List.length_map, List.getElem?_map, List.getElem?_eq_getElem hi]; rfl) ?_
      walk_at "z"
      refine Z.iC (by omega) ?_
      exact q _ _ (Int.emod_nonneg _ (by omega)) (Int.emod_lt_of_pos _ (by omega)) (Kp.put (by simp)) ⟨ns.dropLast, by rw [upd_same, List.map_dropLast]⟩
def spNumbers (K : PySem.W.Frag) : Sp := fun vs H Q _ => ∃ (c : Addr) (ns : List Int) (n : Nat), vs = [.ref c, .int (n : Int)] ∧ SqL K H c (ns.map V.int) ∧ n ≤ 1000 ∧ (∀ z ∈ ns, Builtin.Int.intBits z ≤ 1048576) ∧ ∀ a H', H a = none → Kp [] H H' → DrawsAt H' a → Q (.ref a) H'
theorem ok__law_numbers {P : Program} {w : World} {K : PySem.W.Frag} {mg : Str → Option Value} {base : Heap} (T : T P K mg) : FnOk P w K mg base CX0 2 T.a__law_numbers T.fd__law_numbers ["script", "count"] (spNumbers K) := by
  refine T.F__law_numbers.ok sc__law_numbers (fun vs H Q E h => ?_) (fun cdv A outer s H vs Q E hr h => ?_)
  · obtain ⟨c, ns, n, rfl, _⟩ := h
    rfl
  · obtain ⟨c, ns, n, rfl, hS, hn, hb, q⟩ := h
    refine ⟨_, (pss_cons (ps_set (i := 2) sc__law_numbers.nd rfl (by first | exact Or.inl rfl | exact Or.inr rfl) (pe_lst pa_nil))
      (pss_cons (ps_set (i := 3) sc__law_numbers.nd rfl (by first | exact Or.inl rfl | exact Or.inr rfl) pe_int)
      (Z.pss_consJ (ps_for PassesOwn.never rfl (pi_list (pe_slice sl_list (pv 0) po_none (po_some pe_int))) (pg_name (i := 4) sc__law_numbers.nd rfl (by first | exact Or.inl rfl | exact Or.inr rfl)) (pss_cons (ps_set (i := 3) sc__law_numbers.nd rfl (by first | exact Or.inl rfl | exact Or.inr rfl) (pe_op op_add (pv 3) (pv 4)))
      (pss_one (ps_if (pt_cmpR op_ge (pv 4) pe_int (nomark _)) (pss_cons (ps_set (i := 5) sc__law_numbers.nd rfl (by first | exact Or.inl rfl | exact Or.inr rfl) (pv 4))
      (pss_one (ps_for PassesOwn.never rfl (pi_range1 (by rfl) T.z_range (pa_cons pe_int pa_nil)) (pg_name (i := 6) sc__law_numbers.nd rfl (by first | exact Or.inl rfl | exact Or.inr rfl)) (pss_cons (ps_expr (pe_bm PySem.F.plainAttrs_list PySem.F.slot_list_append PySem.F.type_list_append mt_append (pv 2) (pa_cons (pe_op op_mod (pe_callTy c_int (by rfl) T.z_int (by decide +kernel) (pa_cons (pv 5) pa_nil)) pe_int) pa_nil)))
      (pss_cons (ps_set (i := 5) sc__law_numbers.nd rfl (by first | exact Or.inl rfl | exact Or.inr rfl) (pe_op op_fdivW (pv 5) pe_int))
      (pss_one (ps_if (pt_cmpR op_eq (pv 5) pe_int (nomark _)) (pss_one ps_break) pss_nil))))))) (pss_one (ps_expr (pe_bm PySem.F.plainAttrs_list PySem.F.slot_list_append PySem.F.type_list_append mt_append (pv 2) (pa_cons (pe_call (ok__law_mix T) (hr.mono (by decide)) (by rfl) T.g__law_mix T.F__law_mix.kp T.b__law_mix .nil pass0 (pa_cons (pe_call (ok__law_mix T) (hr.mono (by decide)) (by rfl) T.g__law_mix T.F__law_mix.kp T.b__law_mix .nil pass0 (pa_cons (pv 4) (pa_cons pe_int pa_nil))) (pa_cons pe_int pa_nil))) pa_nil))))))))
      (pss_cons (ps_for PassesOwn.never rfl (pi_range1 (by rfl) T.z_range (pa_cons (pv 1) pa_nil)) (pg_name (i := 6) sc__law_numbers.nd rfl (by first | exact Or.inl rfl | exact Or.inr rfl)) (pss_one (ps_expr (pe_bm PySem.F.plainAttrs_list PySem.F.slot_list_append PySem.F.type_list_append mt_append (pv 2) (pa_cons (pe_call (ok__law_mix T) (hr.mono (by decide)) (by rfl) T.g__law_mix T.F__law_mix.kp T.b__law_mix .nil pass0 (pa_cons (pe_call (ok__law_mix T) (hr.mono (by decide)) (by rfl) T.g__law_mix T.F__law_mix.kp T.b__law_mix .nil pass0 (pa_cons (pe_op op_add (pv 3) (pe_op op_mul pe_int (pv 6))) (pa_cons (pe_op op_add pe_int (pv 6)) pa_nil))) (pa_cons pe_int pa_nil))) pa_nil)))))
      (pss_cons (ps_expr (pe_bm0 PySem.F.plainAttrs_list PySem.F.slot_list_reverse PySem.F.type_list_reverse mt_reverse (pv 2)))
      (pss_one (ps_ret (pv 2)))))))), ?_⟩
    walk_at "z0"
    walk_at "z"
    refine Z.lstK (fun D H1 nD k1 e1 => ?_)
    walk_at "z"
    refine Z.seqJ' ?_
    walk_at "z"
    refine Z.slL (k1.seq nin0 hS) (fun S H2 nS k2 e2 => ?_)
    have e2D := k2.get nin0 e1
    have nDS : D ≠ S := ne_of_none e1 nS
    have hcut : ∃ ms : List Int, cutV (ns.map V.int) none (some 63) = ms.map V.int ∧ ms.length ≤ 63 := by
      unfold cutV
      rw [HT.sIx_none, show (63 : Int) = ((63 : Nat) : Int) from rfl, HT.sIx_nat, List.drop_zero, Nat.sub_zero, ← List.map_take]
      exact ⟨_, rfl, by rw [List.length_take]; omega⟩
    obtain ⟨ms, hms, hm63⟩ := hcut
    rw [hms] at e2
    walk_at "z"
    refine Z.forl (ms.map V.int) (lstL e2) (fun i σ' H' => ∃ y4 y5 y6, ∃ (z : Int) (ds : List Int), σ' = [some (.ref c), some (.int (n : Int)), some (.ref D), some (.int z), y4, y5, y6] ∧ Kp [D] H2 H' ∧ H' D = some (.lst (ds.map V.int)) ∧ ds.length ≤ i * 61) ⟨_, _, _, _, [], rfl, Kp.refl _, e2D, by simp⟩ ?_ ?_ ?_
    · rintro i σ' H' hi ⟨y4, y5, y6, z, ds, rfl, k3, e3, hl⟩
      exact lstL (k3.get (nin1 nDS.symm) e2)
    · rintro i x σ' H' hx ⟨y4, y5, y6, z, ds, rfl, k3, e3, hl⟩
      obtain ⟨u, hu, rfl⟩ : ∃ u, ms[i]? = some u ∧ x = .int u := by
        rw [List.getElem?_map] at hx
        cases hw : ms[i]? with
        | none => rw [hw] at hx; cases hx
        | some r => rw [hw] at hx; exact ⟨r, rfl, (Option.some.inj hx).symm⟩
      have hi : i < ms.length := (List.getElem?_eq_some_iff.mp hu).1
      walk_at "z"
      refine Z.ite (fun h2 => ?_) (fun h2 => ?_)
      · walk_at "z"
        refine Z.forr 60 (by rfl) (by decide) (fun j σ' H' => ∃ y6, ∃ (v : Int) (ds : List Int), σ' = [some (.ref c), some (.int (n : Int)), some (.ref D), some (.int (z + u)), some (.int u), some (.int v), y6] ∧ Kp [D] H2 H' ∧ H' D = some (.lst (ds.map V.int)) ∧ ds.length ≤ i * 61 + j) ⟨_, _, ds, rfl, k3, e3, by omega⟩ ?_ ?_
        · rintro j σ' H' hj ⟨y6, v, ds, rfl, k4, e4, hl4⟩
          walk_at "z"
          refine ⟨Z.tyL e4, ?_⟩
          walk_at "z"
          refine Z.iC (by decide) ?_
          walk_at "z"
          refine Z.app e4 (Z.szl (m := 100000) (by rw [List.length_map]; omega)) ?_
          walk_at "z"
          refine Z.iC ⟨by decide, by decide⟩ ?_
          walk_at "z"
          have e5 : upd H' D (.lst (ds.map V.int ++ [.int (v % 840)])) D = some (.lst ((ds ++ [v % 840]).map V.int)) := by rw [upd_same, List.map_append]; rfl
          have k5 : Kp [D] H2 (upd H' D (.lst (ds.map V.int ++ [.int (v % 840)]))) := k4.trans (Kp.put (by simp))
          refine Z.ite (fun h3 => ?_) (fun h3 => ?_)
          · walk_at "z"
            exact ⟨_, _, _, _, ds ++ [v % 840], rfl, k5, e5, by simp; omega⟩
          · walk_at "z"
            exact ⟨_, _, ds ++ [v % 840], rfl, k5, e5, by simp; omega⟩
        · rintro σ' H' ⟨y6, v, ds, rfl, k4, e4, hl4⟩
          exact ⟨_, _, _, _, ds, rfl, k4, e4, by omega⟩
      · walk_at "z"
        refine ⟨Z.tyL e3, ?_⟩
        walk_at "z"
        refine ⟨_, _, rfl, fun v0 _ _ => ?_⟩
        walk_at "z"
        refine ⟨_, _, rfl, fun v1 _ _ => ?_⟩
        walk_at "z"
        refine Z.app e3 (Z.szl (m := 100000) (by rw [List.length_map]; omega)) ?_
        walk_at "z"
        exact ⟨_, _, _, _, ds ++ [v1], rfl, k3.trans (Kp.put (by simp)), by rw [upd_same, List.map_append]; rfl, by simp; omega⟩
    · rintro σ' H' ⟨y4, y5, y6, z, ds, rfl, k3, e3, hl⟩
      rw [List.length_map] at hl
      walk_at "z"
      refine Z.forr n (by rfl) (by omega) (fun j σ' H' => ∃ y6, ∃ (ds : List Int), σ' = [some (.ref c), some (.int (n : Int)), some (.ref D), some (.int z), y4, y5, y6] ∧ Kp [D] H2 H' ∧ H' D = some (.lst (ds.map V.int)) ∧ ds.length ≤ ms.length * 61 + j) ⟨_, ds, rfl, k3, e3, by omega⟩ ?_ ?_
      · rintro j σ' H' hj ⟨y6, ds, rfl, k4, e4, hl4⟩
        walk_at "z"
        refine ⟨Z.tyL e4, ?_⟩
        walk_at "z"
        refine Z.iC (.inl (by decide)) ?_
        walk_at "z"
        refine ⟨_, _, rfl, fun v0 _ _ => ?_⟩
        walk_at "z"
        refine ⟨_, _, rfl, fun v1 _ _ => ?_⟩
        walk_at "z"
        refine Z.app e4 (Z.szl (m := 100000) (by rw [List.length_map]; omega)) ?_
        walk_at "z"
        exact ⟨_, ds ++ [v1], rfl, k4.trans (Kp.put (by simp)), by rw [upd_same, List.map_append]; rfl, by simp; omega⟩
      · rintro σ' H' ⟨y6, ds, rfl, k4, e4, hl4⟩
        walk_at "z"
        refine ⟨Z.tyL e4, ?_⟩
        refine ⟨D, _, rfl, rfl, e4, ?_⟩
        walk_at "z"
        have nSD : H1 D = none → False := fun z => by rw [e1] at z; cases z
        refine q D _ nD ?_ ⟨ds.reverse, by rw [upd_same, List.map_reverse]⟩
        exact ((k1.trans k2).then1 k4 nD).mut nD rfl

/-! ### sums of lists of ints -/
theorem sum_nonneg : ∀ {l : List Int}, (∀ n ∈ l, 0 ≤ n) → 0 ≤ l.sum
  | [], _ => by simp
  | a :: r, h => by
    have h1 := h a (by simp)
    have h2 := sum_nonneg (l := r) fun n hn => h n (by simp [hn])
    rw [List.sum_cons]
    omega
theorem sum_le {c : Int} : ∀ {l : List Int}, (∀ n ∈ l, n ≤ c) → l.sum ≤ c * l.length
  | [], _ => by simp
  | a :: r, h => by
    have h1 := h a (by simp)
    have h2 := sum_le (c := c) (l := r) fun n hn => h n (by simp [hn])
    rw [List.sum_cons, List.length_cons, show c * ((r.length + 1 : Nat) : Int) = c * r.length + c by rw [Int.natCast_add, Int.mul_add]; simp]
    omega
theorem sum_ge_mem : ∀ {l : List Int}, (∀ n ∈ l, 0 ≤ n) → ∀ x ∈ l, x ≤ l.sum
  | [], _, x, hx => by simp at hx
  | a :: r, h, x, hx => by
    have h1 := h a (by simp)
    have h3 := sum_nonneg (l := r) fun n hn => h n (by simp [hn])
    rw [List.sum_cons]
    rcases List.mem_cons.mp hx with e | e
    · omega
    · have h2 := sum_ge_mem (l := r) (fun n hn => h n (by simp [hn])) x e
      omega
theorem take_nonneg {l : List Int} (h : ∀ n ∈ l, 0 ≤ n) (i : Nat) : 0 ≤ (l.take i).sum := sum_nonneg fun n hn => h n (List.mem_of_mem_take hn)
/-! ### lists of ints as data -/
theorem layInts : ∀ ws : List Int, PyData.canLayAll0 (ws.map PyData.int) = true
  | [] => by simp [PyData.canLayAll0]
  | w :: r => by simp [PyData.canLayAll0, PyData.canLay0, layInts r]
theorem depthInts : ∀ ws : List Int, PyData.depthAll (ws.map PyData.int) = 0
  | [] => by simp [PyData.depthAll]
  | w :: r => by simp [PyData.depthAll, PyData.depth, depthInts r]
theorem shInts (ws : List Int) : SeqAt.shaped (.list (ws.map PyData.int)) = true := by
  simp [SeqAt.shaped, PyData.canLay0, PyData.depth, layInts, depthInts]
theorem dpInts {K : PySem.W.Frag} {H : Hp} : ∀ ws : List Int, DpAll K H (ws.map V.int) (ws.map PyData.int)
  | [] => .nil
  | w :: r => .cons (.int w) (dpInts r)
theorem dpI {K : PySem.W.Frag} {H : Hp} {a : Addr} {ws : List Int} (h : SqL K H a (ws.map V.int)) : Dp K H (.ref a) (.list (ws.map PyData.int)) := .lst h (dpInts ws)
theorem eqvI (ws : List Int) : PyData.eqv (.list (ws.map PyData.int)) (.list (ws.map PyData.int)) = true := SeqAt.eqv_refl _ (by simp [PyData.canLay0, layInts])
theorem neLL {K : PySem.W.Frag} {H : Hp} {Q : VK} {a b : Addr} {ws : List Int} (h1 : SqL K H a (ws.map V.int)) (h2 : SqL K H b (ws.map V.int)) (q : Q (.bl false) H) : rNeD K (.ref a) (.ref b) H Q :=
  ⟨_, _, dpI h1, dpI h2, shInts _, shInts _, by rw [eqvI]; exact q⟩
theorem eqLL {K : PySem.W.Frag} {H : Hp} {Q : VK} {a b : Addr} {ws : List Int} (h1 : SqL K H a (ws.map V.int)) (h2 : SqL K H b (ws.map V.int)) (q : Q (.bl true) H) : rEqD K (.ref a) (.ref b) H Q :=
  ⟨_, _, dpI h1, dpI h2, shInts _, shInts _, by rw [eqvI]; exact q⟩

/-! ### Euclid and lowest terms -/
def eStep (p : Nat × Nat) : Nat × Nat := if p.2 = 0 then p else (p.2, p.1 % p.2)
def euc : Nat → Nat × Nat → Nat × Nat
  | 0, p => p
  | i + 1, p => euc i (eStep p)
theorem euc_succ : ∀ (i : Nat) (p : Nat × Nat), euc (i + 1) p = eStep (euc i p)
  | 0, p => rfl
  | i + 1, p => euc_succ i (eStep p)
theorem eStep_gcd (p : Nat × Nat) : Nat.gcd (eStep p).1 (eStep p).2 = Nat.gcd p.1 p.2 := by
  unfold eStep
  split
  · rfl
  · show Nat.gcd p.2 (p.1 % p.2) = Nat.gcd p.1 p.2
    rw [Nat.gcd_comm p.1 p.2, Nat.gcd_rec p.2 p.1, Nat.gcd_comm]
theorem euc_gcd : ∀ (i : Nat) (p : Nat × Nat), Nat.gcd (euc i p).1 (euc i p).2 = Nat.gcd p.1 p.2
  | 0, p => rfl
  | i + 1, p => (euc_gcd i (eStep p)).trans (eStep_gcd p)
theorem eStep_zero {p : Nat × Nat} (h : p.2 = 0) : eStep p = p := if_pos h
theorem euc_zero : ∀ (i : Nat) {p : Nat × Nat}, p.2 = 0 → euc i p = p
  | 0, _, _ => rfl
  | i + 1, p, h => by
    show euc i (eStep p) = p
    rw [eStep_zero h]
    exact euc_zero i h
theorem eStep2 (p : Nat × Nat) : 2 * (eStep (eStep p)).2 ≤ p.2 := by
  obtain ⟨a, b⟩ := p
  by_cases hb : b = 0
  · rw [eStep_zero (p := (a, b)) hb, eStep_zero (p := (a, b)) hb]
    show 2 * b ≤ b
    omega
  · have e1 : eStep (a, b) = (b, a % b) := if_neg hb
    rw [e1]
    have hc : a % b < b := Nat.mod_lt _ (by omega)
    by_cases h0 : a % b = 0
    · rw [eStep_zero (p := (b, a % b)) h0]
      show 2 * (a % b) ≤ b
      omega
    · have e2 : eStep (b, a % b) = (a % b, b % (a % b)) := if_neg h0
      rw [e2]
      show 2 * (b % (a % b)) ≤ b
      have h1 : b % (a % b) < a % b := Nat.mod_lt _ (by omega)
      have h2 := Nat.div_add_mod b (a % b)
      have h3 : 1 ≤ b / (a % b) := Nat.div_pos (by omega) (by omega)
      have h4 : (a % b) * 1 ≤ (a % b) * (b / (a % b)) := Nat.mul_le_mul_left _ h3
      omega
theorem euc_end : ∀ (n : Nat) (p : Nat × Nat), p.2 < 2 ^ n → (euc (2 * n) p).2 = 0
  | 0, p, h => by
    have h' : p.2 < 1 := h
    show p.2 = 0
    omega
  | n + 1, p, h => by
    show (euc (2 * n) (eStep (eStep p))).2 = 0
    refine euc_end n _ ?_
    have := eStep2 p
    rw [Nat.pow_succ] at h
    omega
theorem euc_add : ∀ (i j : Nat) (p : Nat × Nat), euc (i + j) p = euc j (euc i p)
  | 0, j, p => by rw [Nat.zero_add]; rfl
  | i + 1, j, p => by
    rw [show i + 1 + j = (i + j) + 1 by omega]
    exact euc_add i j (eStep p)
theorem euc_5000 {p : Nat × Nat} (h : p.2 < 2 ^ 2400) : (euc 5000 p).2 = 0 := by
  rw [show (5000 : Nat) = 2 * 2400 + 200 from rfl, euc_add, euc_zero 200 (euc_end 2400 p h)]
  exact euc_end 2400 p h
def gN (p q : Int) : Nat := Nat.gcd p.natAbs q.natAbs
def gI (p q : Int) : Int := if q < 0 then -(gN p q : Int) else (gN p q : Int)
def lo (p q : Int) : Int × Int := (p.fdiv (gI p q), q.fdiv (gI p q))
theorem gN_pos {p q : Int} (h : q ≠ 0) : 0 < gN p q := Nat.gcd_pos_of_pos_right _ (by omega)
theorem gI_ne {p q : Int} (h : q ≠ 0) : gI p q ≠ 0 := by
  have := gN_pos (p := p) h
  unfold gI
  split <;> omega
theorem gN_le {p q : Int} (h : q ≠ 0) : gN p q ≤ q.natAbs := Nat.le_of_dvd (by omega) (Nat.gcd_dvd_right _ _)
theorem gI_abs (p q : Int) : (gI p q).natAbs = gN p q := by
  unfold gI
  split <;> omega
theorem dvdI {g : Nat} {p : Int} (h : g ∣ p.natAbs) : ∃ a : Int, p = (g : Int) * a ∧ p.natAbs = g * a.natAbs := by
  obtain ⟨c, hc⟩ := Int.ofNat_dvd_left.mpr h
  refine ⟨c, hc, ?_⟩
  rw [hc, Int.natAbs_mul]
  simp
/-- lowest terms: exactly divided, a denominator of at least 1, no common part -/
theorem lo_spec {p q : Int} (h : q ≠ 0) : ∃ a b : Int, lo p q = (a, b) ∧ 1 ≤ b ∧ Nat.gcd a.natAbs b.natAbs = 1 ∧ p = gI p q * a ∧ q = gI p q * b := by
  obtain ⟨a, ha, ha2⟩ := dvdI (Nat.gcd_dvd_left p.natAbs q.natAbs)
  obtain ⟨b, hb, hb2⟩ := dvdI (Nat.gcd_dvd_right p.natAbs q.natAbs)
  have hg := gN_pos (p := p) h
  have hcop : Nat.gcd a.natAbs b.natAbs = 1 := by
    have e := Nat.gcd_mul_left (gN p q) a.natAbs b.natAbs
    have e2 : gN p q * a.natAbs = p.natAbs := ha2.symm
    have e3 : gN p q * b.natAbs = q.natAbs := hb2.symm
    rw [e2, e3] at e
    have e4 : gN p q * 1 = gN p q * Nat.gcd a.natAbs b.natAbs := by rw [Nat.mul_one]; exact e
    exact (Nat.eq_of_mul_eq_mul_left hg e4).symm
  have ha' : p = (gN p q : Int) * a := ha
  have hb' : q = (gN p q : Int) * b := hb
  have gpos : (0 : Int) < (gN p q : Int) := by omega
  have hb0 : b ≠ 0 := fun z => by
    rw [z, Int.mul_zero] at hb'
    exact h hb'
  by_cases hq : q < 0
  · have eg : gI p q = -(gN p q : Int) := if_pos hq
    have hbn : b < 0 := by
      rcases Int.lt_or_le b 0 with z | z
      · exact z
      · have := Int.mul_nonneg (Int.le_of_lt gpos) z
        omega
    have ep : p = gI p q * -a := by rw [eg, Int.neg_mul_neg]; exact ha'
    have eq : q = gI p q * -b := by rw [eg, Int.neg_mul_neg]; exact hb'
    refine ⟨-a, -b, ?_, by omega, by rw [Int.natAbs_neg, Int.natAbs_neg]; exact hcop, ep, eq⟩
    have g0 := gI_ne (p := p) h
    unfold lo
    have f1 : p.fdiv (gI p q) = -a := by
      have := Int.mul_fdiv_cancel_left (-a) g0
      rw [← ep] at this
      exact this
    have f2 : q.fdiv (gI p q) = -b := by
      have := Int.mul_fdiv_cancel_left (-b) g0
      rw [← eq] at this
      exact this
    rw [f1, f2]
  · have eg : gI p q = (gN p q : Int) := if_neg hq
    have hbp : 0 < b := by
      rcases Int.lt_or_le 0 b with z | z
      · exact z
      · have := Int.mul_nonpos_of_nonneg_of_nonpos (Int.le_of_lt gpos) z
        omega
    have ep : p = gI p q * a := by rw [eg]; exact ha'
    have eq : q = gI p q * b := by rw [eg]; exact hb'
    refine ⟨a, b, ?_, by omega, hcop, ep, eq⟩
    have g0 := gI_ne (p := p) h
    unfold lo
    have f1 : p.fdiv (gI p q) = a := by
      have := Int.mul_fdiv_cancel_left a g0
      rw [← ep] at this
      exact this
    have f2 : q.fdiv (gI p q) = b := by
      have := Int.mul_fdiv_cancel_left b g0
      rw [← eq] at this
      exact this
    rw [f1, f2]
theorem lo_pos {p q : Int} (h : q ≠ 0) : 1 ≤ (lo p q).2 := by
  obtain ⟨a, b, e, h1, _⟩ := lo_spec (p := p) h
  rw [e]; exact h1
theorem lo_cop {p q : Int} (h : q ≠ 0) : Nat.gcd (lo p q).1.natAbs (lo p q).2.natAbs = 1 := by
  obtain ⟨a, b, e, _, h1, _⟩ := lo_spec (p := p) h
  rw [e]; exact h1
theorem abs_le_mul {g a : Int} (h : g ≠ 0) : a.natAbs ≤ (g * a).natAbs := by
  rw [Int.natAbs_mul]
  exact Nat.le_mul_of_pos_left _ (by omega)
theorem lo_abs1 {p q : Int} (h : q ≠ 0) : (lo p q).1.natAbs ≤ p.natAbs := by
  obtain ⟨a, b, e, _, _, h1, _⟩ := lo_spec (p := p) h
  rw [e]
  have := abs_le_mul (a := a) (gI_ne (p := p) h)
  rw [← h1] at this
  exact this
theorem lo_abs2 {p q : Int} (h : q ≠ 0) : (lo p q).2.natAbs ≤ q.natAbs := by
  obtain ⟨a, b, e, _, _, _, h1⟩ := lo_spec (p := p) h
  rw [e]
  have := abs_le_mul (a := b) (gI_ne (p := p) h)
  rw [← h1] at this
  exact this

/-! ### fractions: tuples of two ints -/
section frac
variable {K : PySem.W.Frag}
abbrev Fr := Int × Int
def frV (f : Fr) : List V := [.int f.1, .int f.2]
/-- at x there is no tuple -/
def NoTup (H : Hp) (x : Addr) : Prop := ∀ xs, ¬ Rd H x (.tup xs)
theorem NoTup.of {H : Hp} {x : Addr} {o : HO} (h : H x = some o) (n : ∀ xs, o ≠ .tup xs ∧ ∀ u, o ≠ .frz u (.tup xs)) : NoTup H x := fun xs r => by
  rcases r with r | ⟨u, r⟩
  · rw [h] at r; exact (n xs).1 (Option.some.inj r)
  · rw [h] at r; exact (n xs).2 u (Option.some.inj r)
theorem NoTup.lst {H : Hp} {x : Addr} {xs : List V} (h : H x = some (.lst xs)) : NoTup H x := NoTup.of h fun ys => ⟨by simp, by simp⟩
theorem NoTup.new {H : Hp} {x : Addr} (h : H x = none) : NoTup H x := fun xs r => by
  rcases r with r | ⟨u, r⟩ <;> rw [h] at r <;> cases r
theorem kpTup {K : PySem.W.Frag} {M : List Addr} {H H' : Hp} {a : Addr} {xs : List V} (h : SqT K H a xs) (k : Kp M H H') (n : ∀ x ∈ M, NoTup H x) : SqT K H' a xs := by
  rcases h with h | h
  · have na : a ∉ M := fun z => n a z xs h
    exact k.tup na (.inl h)
  · exact .inr h
/-- a fraction at a, a new one or one of the top -/
def FrAt (K : PySem.W.Frag) (H : Hp) (a : Addr) (f : Fr) : Prop := SqT K H a (frV f)
theorem FrAt.kp {M : List Addr} {H H' : Hp} {a : Addr} {f : Fr} (h : FrAt K H a f) (k : Kp M H H') (n : ∀ x ∈ M, NoTup H x) : FrAt K H' a f := kpTup h k n
theorem FrAt.kp0 {H H' : Hp} {a : Addr} {f : Fr} (h : FrAt K H a f) (k : Kp [] H H') : FrAt K H' a f := k.tup nin0 h
theorem FrAt.kpl {H H' : Hp} {a l : Addr} {f : Fr} {xs : List V} (h : FrAt K H a f) (k : Kp [l] H H') (e : H l = some (.lst xs)) : FrAt K H' a f := kpTup h k fun x hx => by
  rw [List.mem_singleton.mp hx]
  exact NoTup.lst e
theorem fr0 (f : Fr) : atI (frV f) 0 = some (.int f.1) := rfl
theorem fr1 (f : Fr) : atI (frV f) 1 = some (.int f.2) := rfl
/-- small enough for the machine's ints -/
def FrB (n : Nat) (f : Fr) : Prop := f.1.natAbs < 2 ^ n ∧ f.2.natAbs < 2 ^ n
theorem FrB.mono {n m : Nat} {f : Fr} (h : FrB n f) (l : n ≤ m) : FrB m f := ⟨Nat.lt_of_lt_of_le h.1 (Nat.pow_le_pow_right (by decide) l), Nat.lt_of_lt_of_le h.2 (Nat.pow_le_pow_right (by decide) l)⟩
theorem lo_B {n : Nat} {p q : Int} (h : q ≠ 0) (h1 : p.natAbs < 2 ^ n) (h2 : q.natAbs < 2 ^ n) : FrB n (lo p q) := ⟨Nat.lt_of_le_of_lt (lo_abs1 h) h1, Nat.lt_of_le_of_lt (lo_abs2 h) h2⟩
theorem add_B {n : Nat} {a b : Int} (h1 : a.natAbs < 2 ^ n) (h2 : b.natAbs < 2 ^ n) : (a + b).natAbs < 2 ^ (n + 1) := by
  rw [Nat.pow_succ]
  omega
theorem sub_B {n : Nat} {a b : Int} (h1 : a.natAbs < 2 ^ n) (h2 : b.natAbs < 2 ^ n) : (a - b).natAbs < 2 ^ (n + 1) := by
  rw [Nat.pow_succ]
  omega
theorem mul_B {n m : Nat} {a b : Int} (h1 : a.natAbs < 2 ^ n) (h2 : b.natAbs < 2 ^ m) : (a * b).natAbs < 2 ^ (n + m) := wide_lt h1 h2
theorem up_B {n m : Nat} {a : Int} (h : a.natAbs < 2 ^ n) (l : n ≤ m) : a.natAbs < 2 ^ m := Nat.lt_of_lt_of_le h (Nat.pow_le_pow_right (by decide) l)
theorem mul_ok {n : Nat} {a b : Int} (h1 : a.natAbs < 2 ^ n) (h2 : b.natAbs < 2 ^ n) (h0 : 0 < n := by omega) (h : n ≤ 400000 := by omega) : CMulW a b := wide_mul h1 h2 h0 h0 (by omega)
def fplus (f g : Fr) : Fr := lo (f.1 * g.2 + g.1 * f.2) (f.2 * g.2)
def fminus (f g : Fr) : Fr := lo (f.1 * g.2 - g.1 * f.2) (f.2 * g.2)
def ftimes (f g : Fr) : Fr := lo (f.1 * g.1) (f.2 * g.2)
def fover (f g : Fr) : Fr := lo (f.1 * g.2) (f.2 * g.1)
def fless (f g : Fr) : Bool := decide (f.1 * g.2 < g.1 * f.2)
theorem fplus_B {n m : Nat} {f g : Fr} (hf : FrB n f) (hg : FrB m g) (h1 : f.2 ≠ 0) (h2 : g.2 ≠ 0) : FrB (n + m + 1) (fplus f g) :=
  lo_B (Int.mul_ne_zero h1 h2) (add_B (mul_B hf.1 hg.2) (by rw [Nat.add_comm n m]; exact mul_B hg.1 hf.2)) (up_B (mul_B hf.2 hg.2) (by omega))
theorem fminus_B {n m : Nat} {f g : Fr} (hf : FrB n f) (hg : FrB m g) (h1 : f.2 ≠ 0) (h2 : g.2 ≠ 0) : FrB (n + m + 1) (fminus f g) :=
  lo_B (Int.mul_ne_zero h1 h2) (sub_B (mul_B hf.1 hg.2) (by rw [Nat.add_comm n m]; exact mul_B hg.1 hf.2)) (up_B (mul_B hf.2 hg.2) (by omega))
theorem ftimes_B {n m : Nat} {f g : Fr} (hf : FrB n f) (hg : FrB m g) (h1 : f.2 ≠ 0) (h2 : g.2 ≠ 0) : FrB (n + m) (ftimes f g) := lo_B (Int.mul_ne_zero h1 h2) (mul_B hf.1 hg.1) (mul_B hf.2 hg.2)
theorem fplus_pos {f g : Fr} (h1 : f.2 ≠ 0) (h2 : g.2 ≠ 0) : 1 ≤ (fplus f g).2 := lo_pos (Int.mul_ne_zero h1 h2)
/-! ### samphire.errors, samphire.ratios -/
def spZD (C : Addr) : Sp := fun vs H Q _ => ∃ a : Addr, vs = [.ref a] ∧ H a = some (exo a C none) ∧ Q .non H
theorem ok_ZeroDenominator_init {P : Program} {w : World} {K : PySem.W.Frag} {mg : Str → Option Value} {base : Heap} (T : T P K mg) : FnOk P w K mg base CX0 1 T.a_ZeroDenominator_init ((NF_ZeroDenominator T.cc_ZeroDenominator T.c_ZeroDenominator).fd T.doc_ZeroDenominator T.pm_ZeroDenominator T.ctv_ZeroDenominator) ["self"] (spZD T.C_ZeroDenominator) := by
  refine Sup.fn_super (F := NF_ZeroDenominator T.cc_ZeroDenominator T.c_ZeroDenominator) (p := "self") (ps' := []) T.x_ZeroDenominator.S T.lk_ZeroDenominator rfl T.hc_ZeroDenominator sc_ZeroDenominator_init rfl ⟨_, rfl, rfl⟩ rfl rfl (fun _ => rfl) (fun _ => ⟨_, rfl⟩) (fun _ => rfl) (fun vs H Q E h => ?_) (fun A outer s H vs Q E hr h => ?_)
  · obtain ⟨a, rfl, _⟩ := h
    rfl
  · obtain ⟨a, rfl, ha, q⟩ := h
    exact ⟨a, [], _, _, rfl, ha, pa_cons pe_str pa_nil, pss_nil, by decide, ha, q⟩
def spLowest (K : PySem.W.Frag) (C : Addr) : Sp := fun vs H Q E => ∃ p q : Int, vs = [.int p, .int q] ∧ q.natAbs < 2 ^ 8000 ∧ (q = 0 → E (.ref C) none H) ∧ (q ≠ 0 → ∀ H' b, H b = none → Kp [] H H' → FrAt K H' b (lo p q) → Q (.ref b) H')
theorem del_upd {H : Hp} {a : Addr} {o : HO} (h : H a = none) : del (upd H a o) a = H := by
  funext b
  by_cases hb : b = a
  · rw [hb, del_same, h]
  · rw [del_ne hb, upd_ne hb]
theorem ok_lowest {P : Program} {w : World} {K : PySem.W.Frag} {mg : Str → Option Value} {base : Heap} (T : T P K mg) : FnOk P w K mg base (L2.CX P w) 3 T.a_lowest T.fd_lowest ["p", "q"] (spLowest K T.C_ZeroDenominator) := by
  refine T.F_lowest.okX sc_lowest (fun vs H Q E h => ?_) (fun cdv A outer s H vs Q E hr h => ?_)
  · obtain ⟨p, q, rfl, _⟩ := h
    rfl
  · obtain ⟨p, q, rfl, hb, h0, h1⟩ := h
    refine ⟨_, (pss_cons (ps_if (pt_cmpR op_eq (pv 1) pe_int (nomark _)) (pss_one (ps_raise rfl (takes_of rfl rfl rfl rfl) (Sup.pmk_oexN T.x_ZeroDenominator.S.T T.x_ZeroDenominator.iC T.x_ZeroDenominator.tI (ok_ZeroDenominator_init T) (hr.mono (by decide)) (T.bx_ZeroDenominator) pass0 (by rfl) T.x_ZeroDenominator.g))) pss_nil)
      (pss_cons (ps_set (i := 2) sc_lowest.nd rfl (by first | exact Or.inl rfl | exact Or.inr rfl) (pe_callBfun cr_gcd (by rfl) T.g_gcd (pa_cons (pv 0) (pa_cons (pv 1) pa_nil))))
      (Z.pss_consJ (ps_if (pt_cmpR op_lt (pv 1) pe_int (nomark _)) (pss_one (ps_set (i := 2) sc_lowest.nd rfl (by first | exact Or.inl rfl | exact Or.inr rfl) (pe_un un_neg (pv 2)))) pss_nil)
      (pss_one (ps_ret (pe_tup (pa_cons (pe_op Z.op_fdivA (pv 0) (pv 2)) (pa_cons (pe_op Z.op_fdivA (pv 1) (pv 2)) pa_nil)))))))), ?_⟩
    walk_at "z0"
    walk_at "z"
    refine Z.ite (fun hq => ?_) (fun hq => ?_)
    · refine Z.mkN fun a na => ⟨a, rfl, upd_same, rfl, upd_same, ?_⟩
      rw [del_upd na]
      exact h0 hq
    · walk_at "z"
      have hg := gI_ne (p := p) hq
      have hdv : Z.CDivA p (gI p q) := Z.divA (b := 8000) hg (by rw [gI_abs]; exact Nat.lt_of_le_of_lt (gN_le hq) hb) (by decide) (by decide)
      have hdv2 : Z.CDivA q (gI p q) := hdv
      refine Z.seqJ (fun σ' H' => σ' = [some (.int p), some (.int q), some (.int (gI p q))] ∧ H' = H) ?_ ?_
      · rintro σ' H' ⟨rfl, rfl⟩
        walk_at "z"
        refine Z.iC hdv ?_
        walk_at "z"
        refine Z.iC hdv2 ?_
        refine Z.tupK (fun b H1 nb k1 e1 => ?_)
        exact h1 hq _ _ nb k1 (tupT e1)
      · intro N jn
        walk_at "z"
        refine Z.ite (fun h2 => ?_) (fun h2 => ?_)
        · walk_at "z"
          refine jn _ _ ⟨?_, rfl⟩
          unfold gI
          rw [if_pos h2]; rfl
        · walk_at "z"
          refine jn _ _ ⟨?_, rfl⟩
          unfold gI
          rw [if_neg h2]; rfl
/-- two fractions in, a fraction out -/
def spF2 (K : PySem.W.Frag) (o : Fr → Fr → Fr) : Sp := fun vs H Q _ => ∃ (a b : Addr) (f g : Fr), vs = [.ref a, .ref b] ∧ FrAt K H a f ∧ FrAt K H b g ∧ f.2 ≠ 0 ∧ g.2 ≠ 0 ∧ FrB 3900 f ∧ FrB 3900 g ∧ ∀ H' c, H c = none → Kp [] H H' → FrAt K H' c (o f g) → Q (.ref c) H'
theorem ok_plus {P : Program} {w : World} {K : PySem.W.Frag} {mg : Str → Option Value} {base : Heap} (T : T P K mg) : FnOk P w K mg base CX0 4 T.a_plus T.fd_plus ["a", "b"] (spF2 K fplus) := by
  refine T.F_plus.ok sc_plus (fun vs H Q E h => ?_) (fun cdv A outer s H vs Q E hr h => ?_)
  · obtain ⟨a, b, f, g, rfl, _⟩ := h
    rfl
  · obtain ⟨a, b, f, g, rfl, ha, hb, hf, hg, Bf, Bg, q⟩ := h
    refine ⟨_, (pss_one (ps_ret (pe_call (ok_lowest T) (hr.mono (by decide)) (by rfl) T.g_lowest T.F_lowest.kp T.b_lowest .nil passL (pa_cons (pe_op op_add (pe_op op_mulW (pe_ix ix_tup (pv 0) pe_int (fun _ _ => rfl)) (pe_ix ix_tup (pv 1) pe_int (fun _ _ => rfl))) (pe_op op_mulW (pe_ix ix_tup (pv 1) pe_int (fun _ _ => rfl)) (pe_ix ix_tup (pv 0) pe_int (fun _ _ => rfl)))) (pa_cons (pe_op op_mulW (pe_ix ix_tup (pv 0) pe_int (fun _ _ => rfl)) (pe_ix ix_tup (pv 1) pe_int (fun _ _ => rfl))) pa_nil))))), ?_⟩
    walk_at "z0"
    walk_at "z"
    refine Z.ixT ha (fr0 f) ?_
    walk_at "z"
    refine Z.ixT hb (fr1 g) ?_
    walk_at "z"
    refine Z.iC (mul_ok Bf.1 Bg.2) ?_
    walk_at "z"
    refine Z.ixT hb (fr0 g) ?_
    walk_at "z"
    refine Z.ixT ha (fr1 f) ?_
    walk_at "z"
    refine Z.iC (mul_ok Bg.1 Bf.2) ?_
    walk_at "z"
    refine Z.ixT ha (fr1 f) ?_
    walk_at "z"
    refine Z.ixT hb (fr1 g) ?_
    walk_at "z"
    refine Z.iC (mul_ok Bf.2 Bg.2) ?_
    walk_at "z"
    exact ⟨_, _, rfl, up_B (mul_B Bf.2 Bg.2) (by decide), fun z => absurd z (Int.mul_ne_zero hf hg), fun _ H' c nc k e => q _ _ nc k e⟩
theorem ok_minus {P : Program} {w : World} {K : PySem.W.Frag} {mg : Str → Option Value} {base : Heap} (T : T P K mg) : FnOk P w K mg base CX0 4 T.a_minus T.fd_minus ["a", "b"] (spF2 K fminus) := by
  refine T.F_minus.ok sc_minus (fun vs H Q E h => ?_) (fun cdv A outer s H vs Q E hr h => ?_)
  · obtain ⟨a, b, f, g, rfl, _⟩ := h
    rfl
  · obtain ⟨a, b, f, g, rfl, ha, hb, hf, hg, Bf, Bg, q⟩ := h
    refine ⟨_, (pss_one (ps_ret (pe_call (ok_lowest T) (hr.mono (by decide)) (by rfl) T.g_lowest T.F_lowest.kp T.b_lowest .nil passL (pa_cons (pe_op op_sub (pe_op op_mulW (pe_ix ix_tup (pv 0) pe_int (fun _ _ => rfl)) (pe_ix ix_tup (pv 1) pe_int (fun _ _ => rfl))) (pe_op op_mulW (pe_ix ix_tup (pv 1) pe_int (fun _ _ => rfl)) (pe_ix ix_tup (pv 0) pe_int (fun _ _ => rfl)))) (pa_cons (pe_op op_mulW (pe_ix ix_tup (pv 0) pe_int (fun _ _ => rfl)) (pe_ix ix_tup (pv 1) pe_int (fun _ _ => rfl))) pa_nil))))), ?_⟩
    walk_at "z0"
    walk_at "z"
    refine Z.ixT ha (fr0 f) ?_
    walk_at "z"
    refine Z.ixT hb (fr1 g) ?_
    walk_at "z"
    refine Z.iC (mul_ok Bf.1 Bg.2) ?_
    walk_at "z"
    refine Z.ixT hb (fr0 g) ?_
    walk_at "z"
    refine Z.ixT ha (fr1 f) ?_
    walk_at "z"
    refine Z.iC (mul_ok Bg.1 Bf.2) ?_
    walk_at "z"
    refine Z.ixT ha (fr1 f) ?_
    walk_at "z"
    refine Z.ixT hb (fr1 g) ?_
    walk_at "z"
    refine Z.iC (mul_ok Bf.2 Bg.2) ?_
    walk_at "z"
    exact ⟨_, _, rfl, up_B (mul_B Bf.2 Bg.2) (by decide), fun z => absurd z (Int.mul_ne_zero hf hg), fun _ H' c nc k e => q _ _ nc k e⟩
theorem ok_times {P : Program} {w : World} {K : PySem.W.Frag} {mg : Str → Option Value} {base : Heap} (T : T P K mg) : FnOk P w K mg base CX0 4 T.a_times T.fd_times ["a", "b"] (spF2 K ftimes) := by
  refine T.F_times.ok sc_times (fun vs H Q E h => ?_) (fun cdv A outer s H vs Q E hr h => ?_)
  · obtain ⟨a, b, f, g, rfl, _⟩ := h
    rfl
  · obtain ⟨a, b, f, g, rfl, ha, hb, hf, hg, Bf, Bg, q⟩ := h
    refine ⟨_, (pss_one (ps_ret (pe_call (ok_lowest T) (hr.mono (by decide)) (by rfl) T.g_lowest T.F_lowest.kp T.b_lowest .nil passL (pa_cons (pe_op op_mulW (pe_ix ix_tup (pv 0) pe_int (fun _ _ => rfl)) (pe_ix ix_tup (pv 1) pe_int (fun _ _ => rfl))) (pa_cons (pe_op op_mulW (pe_ix ix_tup (pv 0) pe_int (fun _ _ => rfl)) (pe_ix ix_tup (pv 1) pe_int (fun _ _ => rfl))) pa_nil))))), ?_⟩
    walk_at "z0"
    walk_at "z"
    refine Z.ixT ha (fr0 f) ?_
    walk_at "z"
    refine Z.ixT hb (fr0 g) ?_
    walk_at "z"
    refine Z.iC (mul_ok Bf.1 Bg.1) ?_
    walk_at "z"
    refine Z.ixT ha (fr1 f) ?_
    walk_at "z"
    refine Z.ixT hb (fr1 g) ?_
    walk_at "z"
    refine Z.iC (mul_ok Bf.2 Bg.2) ?_
    walk_at "z"
    exact ⟨_, _, rfl, up_B (mul_B Bf.2 Bg.2) (by decide), fun z => absurd z (Int.mul_ne_zero hf hg), fun _ H' c nc k e => q _ _ nc k e⟩
def spOver (K : PySem.W.Frag) (C : Addr) : Sp := fun vs H Q E => ∃ (a b : Addr) (f g : Fr), vs = [.ref a, .ref b] ∧ FrAt K H a f ∧ FrAt K H b g ∧ f.2 ≠ 0 ∧ FrB 3900 f ∧ FrB 3900 g ∧ (g.1 = 0 → E (.ref C) none H) ∧ (g.1 ≠ 0 → ∀ H' c, H c = none → Kp [] H H' → FrAt K H' c (fover f g) → Q (.ref c) H')
theorem ok_over {P : Program} {w : World} {K : PySem.W.Frag} {mg : Str → Option Value} {base : Heap} (T : T P K mg) : FnOk P w K mg base (L2.CX P w) 4 T.a_over T.fd_over ["a", "b"] (spOver K T.C_ZeroDenominator) := by
  refine T.F_over.okX sc_over (fun vs H Q E h => ?_) (fun cdv A outer s H vs Q E hr h => ?_)
  · obtain ⟨a, b, f, g, rfl, _⟩ := h
    rfl
  · obtain ⟨a, b, f, g, rfl, ha, hb, hf, Bf, Bg, q0, q1⟩ := h
    refine ⟨_, (pss_one (ps_ret (pe_call (ok_lowest T) (hr.mono (by decide)) (by rfl) T.g_lowest T.F_lowest.kp T.b_lowest .nil (passes_call (takes_of rfl rfl rfl rfl) (fun _ _ _ _ h => h)) (pa_cons (pe_op op_mulW (pe_ix ix_tup (pv 0) pe_int (fun _ _ => rfl)) (pe_ix ix_tup (pv 1) pe_int (fun _ _ => rfl))) (pa_cons (pe_op op_mulW (pe_ix ix_tup (pv 0) pe_int (fun _ _ => rfl)) (pe_ix ix_tup (pv 1) pe_int (fun _ _ => rfl))) pa_nil))))), ?_⟩
    walk_at "z0"
    walk_at "z"
    refine Z.ixT ha (fr0 f) ?_
    walk_at "z"
    refine Z.ixT hb (fr1 g) ?_
    walk_at "z"
    refine Z.iC (mul_ok Bf.1 Bg.2) ?_
    walk_at "z"
    refine Z.ixT ha (fr1 f) ?_
    walk_at "z"
    refine Z.ixT hb (fr0 g) ?_
    walk_at "z"
    refine Z.iC (mul_ok Bf.2 Bg.1) ?_
    walk_at "z"
    refine ⟨_, _, rfl, up_B (mul_B Bf.2 Bg.1) (by decide), fun z => ?_, fun z H' c nc k e => ?_⟩
    · rcases Int.mul_eq_zero.mp z with z | z
      · exact absurd z hf
      · exact q0 z
    · exact q1 (fun y => z (by rw [y, Int.mul_zero])) _ _ nc k e
def spLess (K : PySem.W.Frag) : Sp := fun vs H Q _ => ∃ (a b : Addr) (f g : Fr), vs = [.ref a, .ref b] ∧ FrAt K H a f ∧ FrAt K H b g ∧ FrB 3900 f ∧ FrB 3900 g ∧ Q (.bl (fless f g)) H
theorem ok_less {P : Program} {w : World} {K : PySem.W.Frag} {mg : Str → Option Value} {base : Heap} (T : T P K mg) : FnOk P w K mg base CX0 1 T.a_less T.fd_less ["a", "b"] (spLess K) := by
  refine T.F_less.ok sc_less (fun vs H Q E h => ?_) (fun cdv A outer s H vs Q E hr h => ?_)
  · obtain ⟨a, b, f, g, rfl, _⟩ := h
    rfl
  · obtain ⟨a, b, f, g, rfl, ha, hb, Bf, Bg, q⟩ := h
    refine ⟨_, (pss_one (ps_ret (pe_cmpR op_lt (pe_op op_mulW (pe_ix ix_tup (pv 0) pe_int (fun _ _ => rfl)) (pe_ix ix_tup (pv 1) pe_int (fun _ _ => rfl))) (pe_op op_mulW (pe_ix ix_tup (pv 1) pe_int (fun _ _ => rfl)) (pe_ix ix_tup (pv 0) pe_int (fun _ _ => rfl))) (nomark _)))), ?_⟩
    walk_at "z0"
    walk_at "z"
    refine Z.ixT ha (fr0 f) ?_
    walk_at "z"
    refine Z.ixT hb (fr1 g) ?_
    walk_at "z"
    refine Z.iC (mul_ok Bf.1 Bg.2) ?_
    walk_at "z"
    refine Z.ixT hb (fr0 g) ?_
    walk_at "z"
    refine Z.ixT ha (fr1 f) ?_
    walk_at "z"
    refine Z.iC (mul_ok Bg.1 Bf.2) ?_
    walk_at "z"
    exact q
/-- lists of fractions -/
def FrsAt (K : PySem.W.Frag) (H : Hp) (as : List Addr) (fs : List Fr) : Prop := Paired (fun a f => FrAt K H a f) as fs
theorem FrsAt.kp {M : List Addr} {H H' : Hp} {as : List Addr} {fs : List Fr} (h : FrsAt K H as fs) (k : Kp M H H') (n : ∀ x ∈ M, NoTup H x) : FrsAt K H' as fs := by
  induction h with
  | nil => exact .nil
  | cons r t ih => exact .cons (FrAt.kp r k n) ih
theorem FrsAt.kp0 {H H' : Hp} {as : List Addr} {fs : List Fr} (h : FrsAt K H as fs) (k : Kp [] H H') : FrsAt K H' as fs := h.kp k fun _ h => by cases h
theorem FrsAt.kpl {H H' : Hp} {as : List Addr} {fs : List Fr} {l : Addr} {xs : List V} (h : FrsAt K H as fs) (k : Kp [l] H H') (e : H l = some (.lst xs)) : FrsAt K H' as fs := h.kp k fun x hx => by
  rw [List.mem_singleton.mp hx]
  exact NoTup.lst e
theorem FrsAt.get {H : Hp} : ∀ {as : List Addr} {fs : List Fr} {i : Nat} {v : V}, FrsAt K H as fs → (as.map V.ref)[i]? = some v → ∃ a f, v = .ref a ∧ fs[i]? = some f ∧ FrAt K H a f
  | _, _, i, v, .nil, h => by simp at h
  | _, _, 0, v, .cons r t, h => by
    simp at h
    exact ⟨_, _, h.symm, rfl, r⟩
  | _, _, i + 1, v, .cons r t, h => by
    obtain ⟨a, f, e1, e2, e3⟩ := FrsAt.get (i := i) t (by simpa using h)
    exact ⟨a, f, e1, by simpa using e2, e3⟩
theorem FrsAt.len {H : Hp} {as : List Addr} {fs : List Fr} (h : FrsAt K H as fs) : as.length = fs.length := Paired.length h
theorem FrsAt.snoc {H : Hp} {as : List Addr} {fs : List Fr} {a : Addr} {f : Fr} (h : FrsAt K H as fs) (r : FrAt K H a f) : FrsAt K H (as ++ [a]) (fs ++ [f]) := by
  induction h with
  | nil => exact .cons r .nil
  | cons r t ih => exact .cons r ih
theorem FrsAt.app {H : Hp} {as bs : List Addr} {fs gs : List Fr} (h : FrsAt K H as fs) (r : FrsAt K H bs gs) : FrsAt K H (as ++ bs) (fs ++ gs) := by
  induction h with
  | nil => exact r
  | cons r t ih => exact .cons r ih
theorem FrsAt.take {H : Hp} : ∀ {as : List Addr} {fs : List Fr} (i : Nat), FrsAt K H as fs → FrsAt K H (as.take i) (fs.take i)
  | _, _, 0, _ => by rw [List.take_zero, List.take_zero]; exact .nil
  | _, _, i + 1, .nil => by rw [List.take_nil, List.take_nil]; exact .nil
  | _, _, i + 1, .cons r t => .cons r (FrsAt.take i t)
theorem FrsAt.drop {H : Hp} : ∀ {as : List Addr} {fs : List Fr} (i : Nat), FrsAt K H as fs → FrsAt K H (as.drop i) (fs.drop i)
  | _, _, 0, h => h
  | _, _, i + 1, .nil => by rw [List.drop_nil, List.drop_nil]; exact .nil
  | _, _, i + 1, .cons r t => FrsAt.drop i t
/-- data -/
def frD (f : Fr) : PyData := .tuple [.int f.1, .int f.2]
theorem dpF {H : Hp} {a : Addr} {f : Fr} (h : FrAt K H a f) : Dp K H (.ref a) (frD f) := .tup h (.cons (.int _) (.cons (.int _) .nil))
theorem frD_sh (f : Fr) : SeqAt.shaped (frD f) = true := by
  simp [frD, SeqAt.shaped, PyData.canLay0, PyData.canLayAll0, PyData.depth, PyData.depthAll]
theorem frD_eq (f : Fr) : PyData.eqv (frD f) (frD f) = true := SeqAt.eqv_refl _ (by simp [frD, PyData.canLay0, PyData.canLayAll0])
theorem neFF {K : PySem.W.Frag} {H : Hp} {Q : VK} {a b : Addr} {f : Fr} (h1 : FrAt K H a f) (h2 : FrAt K H b f) (q : Q (.bl false) H) : rNeD K (.ref a) (.ref b) H Q :=
  ⟨_, _, dpF h1, dpF h2, frD_sh _, frD_sh _, by rw [frD_eq]; exact q⟩
theorem dpFs {K : PySem.W.Frag} {H : Hp} : ∀ {as : List Addr} {fs : List Fr}, FrsAt K H as fs → DpAll K H (as.map V.ref) (fs.map frD)
  | _, _, .nil => .nil
  | _, _, .cons r t => .cons (dpF r) (dpFs t)
theorem layFs : ∀ fs : List Fr, PyData.canLayAll0 (fs.map frD) = true
  | [] => by simp [PyData.canLayAll0]
  | f :: r => by simp [PyData.canLayAll0, frD, PyData.canLay0, layFs r]
theorem depthFs : ∀ fs : List Fr, PyData.depthAll (fs.map frD) ≤ 1
  | [] => by simp [PyData.depthAll]
  | f :: r => by
    have := depthFs r
    simp [PyData.depthAll, frD, PyData.depth]
    exact Nat.max_le.mpr ⟨by omega, this⟩
theorem shFs (fs : List Fr) : SeqAt.shaped (.list (fs.map frD)) = true := by
  have := depthFs fs
  simp only [SeqAt.shaped, PyData.canLay0, PyData.depth, layFs, Bool.true_and]
  exact decide_eq_true (by omega)
theorem neFL {K : PySem.W.Frag} {H : Hp} {Q : VK} {a b : Addr} {as : List Addr} {fs : List Fr} (h1 : H a = some (.lst (as.map V.ref))) (h2 : H b = some (.lst (as.map V.ref))) (h : FrsAt K H as fs) (q : Q (.bl false) H) : rNeD K (.ref a) (.ref b) H Q :=
  ⟨_, _, .lst (lstL h1) (dpFs h), .lst (lstL h2) (dpFs h), shFs _, shFs _, by rw [SeqAt.eqv_refl (.list (fs.map frD)) (by simp [PyData.canLay0, layFs])]; exact q⟩
end frac
/-- sums, from the left -/
def fsum (t : Fr) (fs : List Fr) : Fr := fs.foldl fplus t
theorem fsum_B : ∀ {fs : List Fr} {t : Fr} {n m : Nat}, FrB n t → t.2 ≠ 0 → (∀ f ∈ fs, FrB m f ∧ f.2 ≠ 0) → FrB (n + fs.length * (m + 1)) (fsum t fs) ∧ (fsum t fs).2 ≠ 0
  | [], t, n, m, h, h0, _ => by
    refine ⟨?_, h0⟩
    show FrB (n + 0 * (m + 1)) t
    rw [Nat.zero_mul]
    exact h
  | f :: r, t, n, m, h, h0, hf => by
    have h1 := hf f (by simp)
    have hp := fplus_pos h0 h1.2
    have ih := fsum_B (fs := r) (t := fplus t f) (n := n + m + 1) (m := m) (fplus_B h h1.1 h0 h1.2) (by omega) fun g hg => hf g (by simp [hg])
    refine ⟨?_, ih.2⟩
    have e : n + (f :: r).length * (m + 1) = n + m + 1 + r.length * (m + 1) := by
      rw [List.length_cons, Nat.add_mul]
      omega
    rw [e]
    exact ih.1
theorem fsum_take {t : Fr} {fs : List Fr} {i : Nat} {f : Fr} (h : fs[i]? = some f) : fsum t (fs.take (i + 1)) = fplus (fsum t (fs.take i)) f := by
  unfold fsum
  rw [List.take_add_one, h, List.foldl_append]
  rfl
def spSumOf (K : PySem.W.Frag) (m k : Nat) : Sp := fun vs H Q _ => ∃ (a : Addr) (as : List Addr) (fs : List Fr), vs = [.ref a] ∧ SqL K H a (as.map V.ref) ∧ FrsAt K H as fs ∧ (∀ f ∈ fs, FrB m f ∧ f.2 ≠ 0) ∧ fs.length ≤ k ∧ ∀ H' c, Kp [] H H' → FrAt K H' c (fsum (0, 1) fs) → Q (.ref c) H'
theorem ok_sum_of_any {P : Program} {w : World} {K : PySem.W.Frag} {mg : Str → Option Value} {base : Heap} (T : T P K mg) (m k : Nat) (hm : m ≤ 3900) (hk : 1 + k * (m + 1) ≤ 3900) : FnOk P w K mg base CX0 5 T.a_sum_of T.fd_sum_of ["fractions"] (spSumOf K m k) := by
  refine T.F_sum_of.ok sc_sum_of (fun vs H Q E h => ?_) (fun cdv A outer s H vs Q E hr h => ?_)
  · obtain ⟨a, as, fs, rfl, _⟩ := h
    rfl
  · obtain ⟨a, as, fs, rfl, hS, hF, hB, hl, q⟩ := h
    refine ⟨_, (pss_cons (ps_set (i := 1) sc_sum_of.nd rfl (by first | exact Or.inl rfl | exact Or.inr rfl) (pe_glob (v := .ref T.k_ZERO) (by rfl) T.g_ZERO rfl))
      (pss_cons (ps_for PassesOwn.never rfl (pi_list (pv 0)) (pg_name (i := 2) sc_sum_of.nd rfl (by first | exact Or.inl rfl | exact Or.inr rfl)) (pss_one (ps_set (i := 1) sc_sum_of.nd rfl (by first | exact Or.inl rfl | exact Or.inr rfl) (pe_call (ok_plus T) (hr.mono (by decide)) (by rfl) T.g_plus T.F_plus.kp T.b_plus .nil pass0 (pa_cons (pv 1) (pa_cons (pv 2) pa_nil))))))
      (pss_one (ps_ret (pv 1))))), ?_⟩
    walk_at "z0"
    walk_at "z"
    refine Z.forl (as.map V.ref) hS (fun i σ' H' => ∃ c y, σ' = [some (.ref a), some (.ref c), y] ∧ Kp [] H H' ∧ FrAt K H' c (fsum (0, 1) (fs.take i))) ?_ ?_ ?_ ?_
    · exact ⟨T.k_ZERO, none, rfl, Kp.refl _, T.q_ZERO H⟩
    · rintro i σ' H' _ ⟨c, y, rfl, k2, _⟩
      exact k2.seq nin0 hS
    · rintro i v σ' H' hv ⟨c, y, rfl, k2, e2⟩
      obtain ⟨x, f, rfl, hf, hx⟩ := (hF.kp0 k2).get hv
      have hfB := hB f (List.mem_of_getElem? hf)
      have hB1 := fsum_B (fs := fs.take i) (t := (0, 1)) (n := 1) (m := m) ⟨by decide, by decide⟩ (by decide) fun g hg => hB g (List.mem_of_mem_take hg)
      have hle : 1 + (fs.take i).length * (m + 1) ≤ 3900 := Nat.le_trans (Nat.add_le_add_left (Nat.mul_le_mul_right _ (Nat.le_trans (by rw [List.length_take]; exact Nat.min_le_right _ _) hl)) 1) hk
      walk_at "z"
      refine ⟨c, x, _, f, rfl, e2, hx, hB1.2, hfB.2, hB1.1.mono hle, hfB.1.mono hm, fun H3 d nd k3 e3 => ?_⟩
      walk_at "z"
      exact ⟨d, _, rfl, k2.trans k3, by rw [fsum_take hf]; exact e3⟩
    · rintro σ' H' ⟨c, y, rfl, k2, e2⟩
      walk_at "z"
      rw [List.length_map, hF.len, List.take_length] at e2
      exact q _ _ k2 e2

/-! ### fractions as rational numbers -/
def rv (f : Int × Int) : Rat := (f.1 : Rat) / (f.2 : Rat)
theorem ratNe {q : Int} (h : q ≠ 0) : (q : Rat) ≠ 0 := fun z => h (by exact_mod_cast z)
theorem ratPos {q : Int} (h : 0 < q) : (0 : Rat) < (q : Rat) := by exact_mod_cast h
theorem div_eqR {a b c : Rat} (h : b ≠ 0) : a / b = c ↔ a = c * b := by
  constructor
  · rintro rfl
    rw [Rat.div_mul_cancel h]
  · rintro rfl
    rw [Rat.mul_div_cancel h]
theorem rv_lo {p q : Int} (h : q ≠ 0) : rv (lo p q) = (p : Rat) / (q : Rat) := by
  obtain ⟨a, b, e, h1, h2, h3, h4⟩ := lo_spec (p := p) h
  rw [e]
  have hb : (b : Rat) ≠ 0 := ratNe (by omega)
  have hg : (gI p q : Rat) ≠ 0 := ratNe (gI_ne h)
  have hq : (q : Rat) = (gI p q : Rat) * (b : Rat) := by exact_mod_cast h4
  have hp : (p : Rat) = (gI p q : Rat) * (a : Rat) := by exact_mod_cast h3
  show (a : Rat) / (b : Rat) = (p : Rat) / (q : Rat)
  rw [hp, hq]
  grind

/-- a fraction in lowest terms -/
def Low (f : Int × Int) : Prop := 1 ≤ f.2 ∧ Nat.gcd f.1.natAbs f.2.natAbs = 1
theorem lo_low {p q : Int} (h : q ≠ 0) : Low (lo p q) := ⟨lo_pos h, lo_cop h⟩
theorem Low.ne {f : Int × Int} (h : Low f) : f.2 ≠ 0 := by have := h.1; omega
theorem Low.pos {f : Int × Int} (h : Low f) : (0 : Rat) < (f.2 : Rat) := ratPos (by have := h.1; omega)
theorem rv_eqI {f g : Int × Int} (h1 : f.2 ≠ 0) (h2 : g.2 ≠ 0) : rv f = rv g ↔ f.1 * g.2 = g.1 * f.2 := by
  have a1 := ratNe h1
  have a2 := ratNe h2
  unfold rv
  constructor
  · intro h
    have h3 : (f.1 : Rat) * (g.2 : Rat) = (g.1 : Rat) * (f.2 : Rat) := by grind
    exact_mod_cast h3
  · intro h
    have h3 : (f.1 : Rat) * (g.2 : Rat) = (g.1 : Rat) * (f.2 : Rat) := by exact_mod_cast h
    grind
theorem low_eq {f g : Int × Int} (h1 : Low f) (h2 : Low g) (h : rv f = rv g) : f = g := by
  have h3 := (rv_eqI h1.ne h2.ne).mp h
  obtain ⟨a, b⟩ := f
  obtain ⟨c, d⟩ := g
  obtain ⟨hb, h1⟩ := h1
  obtain ⟨hd, h2⟩ := h2
  dsimp only at *
  have e1 : a.natAbs * d.natAbs = c.natAbs * b.natAbs := by rw [← Int.natAbs_mul, ← Int.natAbs_mul, h3]
  have d1 : b.natAbs ∣ d.natAbs := by
    have : b.natAbs ∣ a.natAbs * d.natAbs := ⟨c.natAbs, by rw [e1, Nat.mul_comm]⟩
    exact Nat.Coprime.dvd_of_dvd_mul_left (Nat.Coprime.symm h1) this
  have d2 : d.natAbs ∣ b.natAbs := by
    have : d.natAbs ∣ c.natAbs * b.natAbs := ⟨a.natAbs, by rw [← e1, Nat.mul_comm]⟩
    exact Nat.Coprime.dvd_of_dvd_mul_left (Nat.Coprime.symm h2) this
  have e2 := Nat.dvd_antisymm d1 d2
  have e3 : b = d := by omega
  subst e3
  have e4 : a = c := Int.eq_of_mul_eq_mul_right (by omega) h3
  rw [e4]
theorem rv_lt {f g : Int × Int} (h1 : 1 ≤ f.2) (h2 : 1 ≤ g.2) : f.1 * g.2 < g.1 * f.2 ↔ rv f < rv g := by
  have a1 : (0 : Rat) < (f.2 : Rat) := ratPos (by omega)
  have a2 : (0 : Rat) < (g.2 : Rat) := ratPos (by omega)
  have e1 : (f.1 : Rat) = rv f * (f.2 : Rat) := by unfold rv; rw [Rat.div_mul_cancel (ratNe (by omega))]
  have e2 : (g.1 : Rat) = rv g * (g.2 : Rat) := by unfold rv; rw [Rat.div_mul_cancel (ratNe (by omega))]
  have hp : (0 : Rat) < (f.2 : Rat) * (g.2 : Rat) := Rat.mul_pos a1 a2
  have k : f.1 * g.2 < g.1 * f.2 ↔ (f.1 : Rat) * (g.2 : Rat) < (g.1 : Rat) * (f.2 : Rat) := by
    constructor
    · intro h; exact_mod_cast h
    · intro h; exact_mod_cast h
  rw [k, e1, e2]
  have e3 : rv f * (f.2 : Rat) * (g.2 : Rat) = rv f * ((f.2 : Rat) * (g.2 : Rat)) := by grind
  have e4 : rv g * (g.2 : Rat) * (f.2 : Rat) = rv g * ((f.2 : Rat) * (g.2 : Rat)) := by grind
  rw [e3, e4]
  constructor
  · intro h
    by_cases z : rv f < rv g
    · exact z
    · by_cases z2 : rv f = rv g
      · rw [z2] at h; exact absurd h (Rat.lt_irrefl)
      · have z3 : rv g < rv f := by grind
        have := Rat.mul_lt_mul_of_pos_right z3 hp
        grind
  · intro h
    exact Rat.mul_lt_mul_of_pos_right h hp
theorem rv_pos {f : Int × Int} (h1 : 1 ≤ f.2) : 0 < f.1 ↔ 0 < rv f := by
  have := rv_lt (f := (0, 1)) (g := f) (by decide) h1
  have e : rv (0, 1) = 0 := by unfold rv; grind
  rw [e] at this
  rw [← this]
  show _ ↔ 0 * f.2 < f.1 * 1
  rw [Int.zero_mul, Int.mul_one]
theorem rv_int (n : Int) : rv (n, 1) = (n : Rat) := by unfold rv; grind

/-! ### thresholds -/
/-- the sum of the lesser ones of t and the weights -/
def cap (t : Rat) : List Rat → Rat
  | [] => 0
  | w :: r => (if w < t then w else t) + cap t r
structure Thr (ws : List Rat) (k : Nat) (t : Rat) : Prop where
  small : ws.length ≤ k → t = 0
  big : k < ws.length → 0 < t ∧ cap t ws = (k : Rat) * t
theorem cap_app (t : Rat) : ∀ a b : List Rat, cap t (a ++ b) = cap t a + cap t b
  | [], b => by show cap t b = 0 + cap t b; grind
  | w :: r, b => by
    show (if w < t then w else t) + cap t (r ++ b) = (if w < t then w else t) + cap t r + cap t b
    rw [cap_app t r b]
    grind
theorem cap_all {t : Rat} : ∀ {ws : List Rat}, (∀ w ∈ ws, t ≤ w) → cap t ws = (ws.length : Rat) * t
  | [], _ => by show (0 : Rat) = ((0 : Nat) : Rat) * t; grind
  | w :: r, h => by
    have h1 := h w (by simp)
    show (if w < t then w else t) + cap t r = _
    rw [cap_all (ws := r) fun z hz => h z (by simp [hz]), if_neg (by grind), List.length_cons]
    have e : ((r.length + 1 : Nat) : Rat) = (r.length : Rat) + 1 := by exact_mod_cast rfl
    rw [e]
    grind
theorem cap_ge {t : Rat} (ht : 0 ≤ t) : ∀ {ws : List Rat}, (∀ w ∈ ws, 0 < w) → 0 ≤ cap t ws
  | [], _ => by show (0 : Rat) ≤ 0; grind
  | w :: r, h => by
    have h1 := h w (by simp)
    have h2 := cap_ge ht (ws := r) fun z hz => h z (by simp [hz])
    show 0 ≤ (if w < t then w else t) + cap t r
    split <;> grind
theorem cap_one {s t w : Rat} (hs : 0 < s) (h : s < t) (hw : 0 < w) : (if w < t then w else t) * s ≤ (if w < s then w else s) * t ∧ (w < t → (if w < t then w else t) * s < (if w < s then w else s) * t) := by
  have ht : 0 < t := by grind
  by_cases h1 : w < s
  · have h2 : w < t := by grind
    rw [if_pos h1, if_pos h2]
    have := Rat.mul_lt_mul_of_pos_left h hw
    exact ⟨by grind, fun _ => this⟩
  · rw [if_neg h1]
    by_cases h2 : w < t
    · rw [if_pos h2]
      have := Rat.mul_lt_mul_of_pos_right h2 hs
      have e : s * t = t * s := Rat.mul_comm s t
      rw [e]
      exact ⟨by grind, fun _ => this⟩
    · rw [if_neg h2]
      exact ⟨by grind, fun z => absurd z h2⟩
theorem cap_cmp {s t : Rat} (hs : 0 < s) (h : s < t) : ∀ {ws : List Rat}, (∀ w ∈ ws, 0 < w) → cap t ws * s ≤ cap s ws * t ∧ (cap t ws * s = cap s ws * t → ∀ w ∈ ws, t ≤ w)
  | [], _ => ⟨by show (0 : Rat) * s ≤ 0 * t; grind, fun _ w hw => by cases hw⟩
  | w :: r, hp => by
    have h1 := cap_one hs h (hp w (by simp))
    have h2 := cap_cmp hs h (ws := r) fun z hz => hp z (by simp [hz])
    have e1 : cap t (w :: r) = (if w < t then w else t) + cap t r := rfl
    have e2 : cap s (w :: r) = (if w < s then w else s) + cap s r := rfl
    rw [e1, e2, Rat.add_mul, Rat.add_mul]
    generalize (if w < t then w else t) * s = a at *
    generalize (if w < s then w else s) * t = b at *
    generalize cap t r * s = c at *
    generalize cap s r * t = d at *
    refine ⟨by grind, fun e z hz => ?_⟩
    rcases List.mem_cons.mp hz with rfl | hz
    · by_cases hw : z < t
      · have := h1.2 hw
        grind
      · grind
    · exact h2.2 (by grind) z hz
theorem natR_lt {a b : Nat} (h : a < b) : (a : Rat) < (b : Rat) := by exact_mod_cast h
/-- above the threshold there is room -/
theorem thr_le {ws : List Rat} {k : Nat} {t s : Rat} (hp : ∀ w ∈ ws, 0 < w) (h : Thr ws k t) (hk : k < ws.length) (hs : 0 < s) (hc : cap s ws ≤ (k : Rat) * s) : t ≤ s := by
  by_cases z : t ≤ s
  · exact z
  · have hst : s < t := by grind
    obtain ⟨ht, e⟩ := h.big hk
    have h1 := cap_cmp hs hst hp
    have h2 : cap s ws * t ≤ (k : Rat) * s * t := Rat.mul_le_mul_of_nonneg_right hc (by grind)
    rw [e] at h1
    have h3 : (k : Rat) * t * s = (k : Rat) * s * t := by grind
    have h4 := h1.2 (by grind)
    have h5 := cap_all h4
    rw [e] at h5
    have h6 := Rat.mul_lt_mul_of_pos_right (natR_lt hk) ht
    grind
theorem thr_ge {ws : List Rat} {k : Nat} {t s : Rat} (hp : ∀ w ∈ ws, 0 < w) (h : Thr ws k t) (hk : k < ws.length) (hs : 0 < s) (hc : (k : Rat) * s ≤ cap s ws) : s ≤ t := by
  by_cases z : s ≤ t
  · exact z
  · have hst : t < s := by grind
    obtain ⟨ht, e⟩ := h.big hk
    have h1 := cap_cmp ht hst hp
    have h2 : (k : Rat) * s * t ≤ cap s ws * t := Rat.mul_le_mul_of_nonneg_right hc (by grind)
    rw [e] at h1
    have h3 : (k : Rat) * t * s = (k : Rat) * s * t := by grind
    have h4 := h1.2 (by grind)
    have h7 : ∀ w ∈ ws, t ≤ w := fun w hw => by have := h4 w hw; grind
    have h5 := cap_all h7
    rw [e] at h5
    have h6 := Rat.mul_lt_mul_of_pos_right (natR_lt hk) ht
    grind
theorem thr_uniq {ws : List Rat} {k : Nat} {t s : Rat} (hp : ∀ w ∈ ws, 0 < w) (h : Thr ws k t) (h2 : Thr ws k s) : t = s := by
  by_cases hk : k < ws.length
  · obtain ⟨hs, e⟩ := h2.big hk
    have a := thr_le hp h hk hs (by grind)
    have b := thr_ge hp h hk hs (by grind)
    grind
  · rw [h.small (by omega), h2.small (by omega)]
theorem thr_nonneg {ws : List Rat} {k : Nat} {t : Rat} (h : Thr ws k t) : 0 ≤ t := by
  by_cases hk : k < ws.length
  · have := (h.big hk).1; grind
  · rw [h.small (by omega)]; grind
theorem cap_perm {t : Rat} {a b : List Rat} (h : a.Perm b) : cap t a = cap t b := by
  induction h with
  | nil => rfl
  | cons x _ ih => show _ + cap t _ = _ + cap t _; rw [ih]
  | swap x y l => show _ + (_ + cap t l) = _ + (_ + cap t l); grind
  | trans _ _ h1 h2 => exact h1.trans h2
theorem Thr.perm {a b : List Rat} {k : Nat} {t : Rat} (h : Thr a k t) (p : a.Perm b) : Thr b k t := ⟨fun hl => h.small (by rw [p.length_eq]; exact hl), fun hl => by rw [← cap_perm p]; exact h.big (by rw [p.length_eq]; exact hl)⟩

/-! ### thresholds: common_denominator, scaled, threshold -/
def comm (fs : List Fr) : Nat := fs.foldl (fun c f => Nat.lcm c f.2.natAbs) 1
theorem comm_take {fs : List Fr} {i : Nat} {f : Fr} (h : fs[i]? = some f) : comm (fs.take (i + 1)) = Nat.lcm (comm (fs.take i)) f.2.natAbs := by
  unfold comm
  rw [List.take_add_one, h, List.foldl_append]
  rfl
theorem foldl_lcm_dvd : ∀ {fs : List Fr} {c : Nat}, c ∣ fs.foldl (fun c f => Nat.lcm c f.2.natAbs) c ∧ ∀ f ∈ fs, f.2.natAbs ∣ fs.foldl (fun c f => Nat.lcm c f.2.natAbs) c
  | [], c => ⟨Nat.dvd_refl c, fun f h => by cases h⟩
  | g :: r, c => by
    have h := foldl_lcm_dvd (fs := r) (c := Nat.lcm c g.2.natAbs)
    refine ⟨Nat.dvd_trans (Nat.dvd_lcm_left c g.2.natAbs) h.1, fun f hf => ?_⟩
    rcases List.mem_cons.mp hf with rfl | hf
    · exact Nat.dvd_trans (Nat.dvd_lcm_right c f.2.natAbs) h.1
    · exact h.2 f hf
theorem comm_dvd {fs : List Fr} {f : Fr} (h : f ∈ fs) : f.2.natAbs ∣ comm fs := foldl_lcm_dvd.2 f h
theorem foldl_lcm_lt {m : Nat} : ∀ {fs : List Fr} {c n : Nat}, 1 ≤ c → c ≤ 2 ^ n → (∀ f ∈ fs, 1 ≤ f.2.natAbs ∧ f.2.natAbs < 2 ^ m) → 1 ≤ fs.foldl (fun c f => Nat.lcm c f.2.natAbs) c ∧ fs.foldl (fun c f => Nat.lcm c f.2.natAbs) c ≤ 2 ^ (n + m * fs.length)
  | [], c, n, h1, h2, _ => ⟨h1, by rw [List.length_nil, Nat.mul_zero, Nat.add_zero]; exact h2⟩
  | g :: r, c, n, h1, h2, h => by
    have hg := h g (by simp)
    have h3 : 1 ≤ Nat.lcm c g.2.natAbs := Nat.lcm_pos (by omega) (by omega)
    have h4 : Nat.lcm c g.2.natAbs ≤ 2 ^ (n + m) := by
      rw [Nat.pow_add]
      exact Nat.le_trans (RL.lcm_le _ _) (Nat.mul_le_mul h2 (by omega))
    have ih := foldl_lcm_lt (m := m) (fs := r) h3 h4 fun f hf => h f (by simp [hf])
    refine ⟨ih.1, ?_⟩
    rw [List.length_cons, Nat.mul_add, show n + (m * r.length + m * 1) = n + m + m * r.length by omega]
    exact ih.2
theorem comm_lt {m : Nat} {fs : List Fr} (h : ∀ f ∈ fs, 1 ≤ f.2.natAbs ∧ f.2.natAbs < 2 ^ m) : 1 ≤ comm fs ∧ comm fs ≤ 2 ^ (m * fs.length) := by
  have := foldl_lcm_lt (m := m) (fs := fs) (c := 1) (n := 0) (by decide) (by decide) h
  rwa [Nat.zero_add] at this
/-- positive fractions, small enough -/
def PosB (m : Nat) (f : Fr) : Prop := 1 ≤ f.2 ∧ 0 < f.1 ∧ FrB m f
theorem PosB.den {m : Nat} {f : Fr} (h : PosB m f) : 1 ≤ f.2.natAbs ∧ f.2.natAbs < 2 ^ m := ⟨by have := h.1; omega, h.2.2.2⟩
def spComm (K : PySem.W.Frag) (m k : Nat) : Sp := fun vs H Q _ => ∃ (a : Addr) (as : List Addr) (fs : List Fr), vs = [.ref a] ∧ SqL K H a (as.map V.ref) ∧ FrsAt K H as fs ∧ (∀ f ∈ fs, 1 ≤ f.2.natAbs ∧ f.2.natAbs < 2 ^ m) ∧ fs.length ≤ k ∧ Q (.int (comm fs : Int)) H
theorem ok_common_any {P : Program} {w : World} {K : PySem.W.Frag} {mg : Str → Option Value} {base : Heap} (T : T P K mg) (m k : Nat) (hm : m < 6000) (hk : m * k < 6000) : FnOk P w K mg base CX0 1 T.a_common_denominator T.fd_common_denominator ["fractions"] (spComm K m k) := by
  refine T.F_common_denominator.ok sc_common_denominator (fun vs H Q E h => ?_) (fun cdv A outer s H vs Q E hr h => ?_)
  · obtain ⟨a, as, fs, rfl, _⟩ := h
    rfl
  · obtain ⟨a, as, fs, rfl, hS, hF, hB, hl, q⟩ := h
    refine ⟨_, (pss_cons (ps_set (i := 1) sc_common_denominator.nd rfl (by first | exact Or.inl rfl | exact Or.inr rfl) pe_int)
      (pss_cons (ps_for PassesOwn.never rfl (pi_list (pv 0)) (pg_name (i := 2) sc_common_denominator.nd rfl (by first | exact Or.inl rfl | exact Or.inr rfl)) (pss_one (ps_set (i := 1) sc_common_denominator.nd rfl (by first | exact Or.inl rfl | exact Or.inr rfl) (pe_callBfun RL.cr_lcm (by rfl) T.g_lcm (pa_cons (pv 1) (pa_cons (pe_ix ix_tup (pv 2) pe_int (fun _ _ => rfl)) pa_nil))))))
      (pss_one (ps_ret (pv 1))))), ?_⟩
    walk_at "z0"
    walk_at "z"
    refine Z.forl (as.map V.ref) hS (fun i σ' H' => ∃ y, σ' = [some (.ref a), some (.int (comm (fs.take i) : Int)), y] ∧ H' = H) ?_ ?_ ?_ ?_
    · exact ⟨none, rfl, rfl⟩
    · rintro i σ' H' _ ⟨y, rfl, rfl⟩
      exact hS
    · rintro i v σ' H' hv ⟨y, rfl, rfl⟩
      obtain ⟨x, f, rfl, hf, hx⟩ := hF.get hv
      have hfB := hB f (List.mem_of_getElem? hf)
      have hB1 := comm_lt (m := m) (fs := fs.take i) fun g hg => hB g (List.mem_of_mem_take hg)
      have hi : i < fs.length := (List.getElem?_eq_some_iff.mp hf).1
      have hle : m * (fs.take i).length ≤ m * k := Nat.mul_le_mul_left m (by rw [List.length_take]; omega)
      walk_at "z"
      refine Z.ixT hx (fr1 f) ?_
      walk_at "z"
      refine ⟨_, _, rfl, ?_, ?_, ?_⟩
      · rw [Int.natAbs_natCast]
        exact Nat.lt_of_le_of_lt hB1.2 (Nat.pow_lt_pow_right (by decide) (by omega))
      · exact Nat.lt_of_lt_of_le hfB.2 (Nat.pow_le_pow_right (by decide) (by omega))
      · walk_at "z"
        exact ⟨_, by rw [comm_take hf, Int.natAbs_natCast], rfl⟩
    · rintro σ' H' ⟨y, rfl, rfl⟩
      rw [List.length_map, hF.len, List.take_length]
      walk_at "z"
      exact q
/-- the fractions times c, a multiple of all denominators -/
def scl1 (c : Int) (f : Fr) : Int := f.1 * (c.fdiv f.2)
def spScaled (K : PySem.W.Frag) (n : Nat) : Sp := fun vs H Q _ => ∃ (a : Addr) (as : List Addr) (fs : List Fr) (c : Int), vs = [.ref a, .int c] ∧ SqL K H a (as.map V.ref) ∧ FrsAt K H as fs ∧ (∀ f ∈ fs, 1 ≤ f.2 ∧ FrB n f) ∧ fs.length ≤ 1000 ∧ c.natAbs < 2 ^ n ∧ ∀ H' p, H p = none → Kp [] H H' → H' p = some (.lst ((fs.map (scl1 c)).map V.int)) → Q (.ref p) H'
theorem fdiv_abs {a b : Int} (h : 1 ≤ b) : (a.fdiv b).natAbs ≤ a.natAbs := by
  rw [Int.fdiv_eq_ediv_of_nonneg _ (by omega)]
  exact Int.natAbs_ediv_le_natAbs a b
theorem ok_scaled_any {P : Program} {w : World} {K : PySem.W.Frag} {mg : Str → Option Value} {base : Heap} (T : T P K mg) (n : Nat) (h0 : 0 < n) (hn : n ≤ 8000) : FnOk P w K mg base CX0 1 T.a_scaled T.fd_scaled ["fractions", "factor"] (spScaled K n) := by
  refine T.F_scaled.ok sc_scaled (fun vs H Q E h => ?_) (fun cdv A outer s H vs Q E hr h => ?_)
  · obtain ⟨a, as, fs, c, rfl, _⟩ := h
    rfl
  · obtain ⟨a, as, fs, c, rfl, hS, hF, hB, hl, hc, q⟩ := h
    refine ⟨_, (pss_one (ps_ret (pe_lc (own := [("p", 2), ("q", 3)]) (g := gTup K 2 (gCons (gName 2) (gCons (gName 3) gNil))) rfl sc_scaled.nd (pi_list (pv 0)) (blkOk_by (own := [("p", 2), ("q", 3)]) (N := N_scaled) (sc := defScope s_scaled) (by decide +kernel)) (fun _ _ _ _ _ => (pg_tup rfl (pgs_cons (pg_name (i := 2) sc_scaled.nd rfl (by first | exact Or.inl rfl | exact Or.inr rfl)) (pgs_cons (pg_name (i := 3) sc_scaled.nd rfl (by first | exact Or.inl rfl | exact Or.inr rfl)) pgs_nil)))) (fun _ _ _ _ _ => pts_nil) (fun _ _ _ _ _ => (pe_op op_mulW (pv 2) (pe_op Z.op_fdivA (pv 1) (pv 3))))))), ?_⟩
    walk_at "z0"
    walk_at "z"
    refine Z.lcl (as.map V.ref) hS (fun D i H' => Kp [] H H' ∧ H' D = some (.lst (((fs.take i).map (scl1 c)).map V.int))) ?_ ?_ ?_ ?_
    · intro D H1 nD k1 e1
      exact ⟨k1, e1⟩
    · rintro D i H1 nD hi ⟨k1, e1⟩
      exact k1.seq nin0 hS
    · rintro D i v H1 nD hv ⟨k1, e1⟩
      obtain ⟨x, f, rfl, hf, hx⟩ := (hF.kp0 k1).get hv
      have hfB := hB f (List.mem_of_getElem? hf)
      have hi : i < fs.length := (List.getElem?_eq_some_iff.mp hf).1
      dsimp only [wipe, List.set]
      refine Z.gtup hx rfl ?_
      unfold frV
      walk_at "z"
      refine ⟨rfl, ?_⟩
      walk_at "z"
      refine Z.iC (Z.divA (b := n) (by omega) hfB.2.2 h0 (by omega)) ?_
      walk_at "z"
      refine Z.iC (mul_ok (n := n) hfB.2.1 (Nat.lt_of_le_of_lt (fdiv_abs hfB.1) hc)) ?_
      refine ⟨_, e1, Z.szl (m := 1000) (by rw [List.length_map, List.length_map, List.length_take]; omega), k1.mut nD rfl, ?_⟩
      rw [upd_same, List.take_add_one, hf, List.map_append, List.map_append]; rfl
    · rintro D H1 nD ⟨k1, e1⟩
      rw [List.length_map, hF.len, List.take_length] at e1
      exact q H1 D nD k1 e1

theorem cap_low {t : Rat} : ∀ {ws : List Rat}, (∀ w ∈ ws, w ≤ t) → cap t ws = ws.sum
  | [], _ => rfl
  | w :: r, h => by
    have h1 := h w (by simp)
    show (if w < t then w else t) + cap t r = _
    rw [cap_low (ws := r) fun z hz => h z (by simp [hz]), List.sum_cons]
    split <;> grind
theorem sum_div (c : Rat) : ∀ ys : List Int, (ys.map fun x : Int => (x : Rat) / c).sum = ((ys.sum : Int) : Rat) / c
  | [] => by show (0 : Rat) = ((0 : Int) : Rat) / c; grind
  | y :: r => by
    rw [List.map_cons, List.sum_cons, List.sum_cons, sum_div c r]
    have e : (((y + r.sum : Int)) : Rat) = (y : Rat) + ((r.sum : Int) : Rat) := by exact_mod_cast rfl
    rw [e]
    grind
theorem ratMono {a b : Int} : (a : Rat) ≤ (b : Rat) ↔ a ≤ b := by
  constructor
  · intro h; exact_mod_cast h
  · intro h; exact_mod_cast h
theorem div_mono {a b c : Rat} (h : a ≤ b) (hc : 0 < c) : a / c ≤ b / c := by
  have h1 : 0 < c⁻¹ := Rat.inv_pos.mpr hc
  rw [Rat.div_def, Rat.div_def]
  exact Rat.mul_le_mul_of_nonneg_right h (by grind)
theorem thr_of {xs0 ys zs : List Int} {C pl size : Nat} (hC : 1 ≤ C) (hpl : 1 ≤ pl) (perm : (ys ++ zs).Perm xs0) (hpos : 0 < ys.sum) (hz : ∀ z ∈ zs, ys.sum < z * (pl : Int)) (hy : ∀ y ∈ ys, y * (pl : Int) ≤ ys.sum) (hs : pl + zs.length = size) (hn : size < xs0.length) :
    Thr (xs0.map fun x : Int => (x : Rat) / (C : Rat)) size (((ys.sum : Int) : Rat) / ((pl : Rat) * (C : Rat))) := by
  have c0 : (0 : Rat) < (C : Rat) := by exact_mod_cast hC
  have p0 : (0 : Rat) < (pl : Rat) := by exact_mod_cast hpl
  have s0 : (0 : Rat) < ((ys.sum : Int) : Rat) := by exact_mod_cast hpos
  have pc := Rat.mul_pos p0 c0
  have key : ∀ x : Int, (x : Rat) / (C : Rat) = ((x : Rat) * (pl : Rat)) / ((pl : Rat) * (C : Rat)) := fun x => by grind
  refine ⟨fun h => by rw [List.length_map] at h; omega, fun _ => ⟨?_, ?_⟩⟩
  · rw [Rat.div_def]
    exact Rat.mul_pos s0 (Rat.inv_pos.mpr pc)
  · have hp2 := (perm.map fun x : Int => (x : Rat) / (C : Rat))
    rw [← cap_perm hp2, List.map_append, cap_app, cap_low, cap_all, sum_div, List.length_map]
    · have e : (size : Rat) = (pl : Rat) + (zs.length : Rat) := by rw [← hs]; exact_mod_cast rfl
      rw [e]
      grind
    · intro w hw
      obtain ⟨z, hz1, rfl⟩ := List.mem_map.mp hw
      rw [key z]
      refine div_mono ?_ pc
      have := hz z hz1
      have h2 : ys.sum ≤ z * (pl : Int) := by omega
      exact_mod_cast h2
    · intro w hw
      obtain ⟨y, hy1, rfl⟩ := List.mem_map.mp hw
      rw [key y]
      refine div_mono ?_ pc
      have h2 := hy y hy1
      exact_mod_cast h2
theorem rv_scl {f : Fr} {C : Nat} (hC : 1 ≤ C) (hq : 1 ≤ f.2) (h : f.2.natAbs ∣ C) : rv f = ((scl1 (C : Int) f : Int) : Rat) / (C : Rat) := by
  have c0 : (C : Rat) ≠ 0 := by
    have : (0 : Rat) < (C : Rat) := by exact_mod_cast hC
    grind
  obtain ⟨d, hd⟩ := h
  have hq2 : f.2 ≠ 0 := by omega
  have e1 : (C : Int) = f.2 * (d : Int) := by
    have : (f.2.natAbs : Int) = f.2 := by omega
    rw [hd, Int.natCast_mul, this]
  have e2 : (C : Int).fdiv f.2 = (d : Int) := by rw [e1]; exact Int.mul_fdiv_cancel_left _ hq2
  have e3 : (C : Rat) = (f.2 : Rat) * (d : Rat) := by exact_mod_cast e1
  unfold rv scl1
  rw [e2]
  have e4 : ((f.1 * (d : Int) : Int) : Rat) = (f.1 : Rat) * (d : Rat) := by exact_mod_cast rfl
  have q0 : (f.2 : Rat) ≠ 0 := ratNe hq2
  rw [e4, e3]
  have d0 : (d : Rat) ≠ 0 := by
    intro z
    rw [e3, z] at c0
    grind
  grind
def spThr (K : PySem.W.Frag) (m k : Nat) : Sp := fun vs H Q _ => ∃ (a : Addr) (as : List Addr) (fs : List Fr) (size : Nat), vs = [.ref a, .int (size : Int)] ∧ SqL K H a (as.map V.ref) ∧ FrsAt K H as fs ∧ (∀ f ∈ fs, PosB m f) ∧ fs.length ≤ k ∧ 1 ≤ size ∧
  ∀ H' b g, Kp [] H H' → FrAt K H' b g → Low g → FrB (m * (k + 1) + 7) g → Thr (fs.map rv) size (rv g) → Q (.ref b) H'
theorem low_zero : Low (0, 1) := ⟨by decide, by decide⟩
theorem rv_zero : rv (0, 1) = 0 := by unfold rv; grind
theorem scl1_pos {f : Fr} {C : Nat} (hC : 1 ≤ C) (hq : 1 ≤ f.2) (hp : 0 < f.1) (h : f.2.natAbs ∣ C) : 0 < scl1 (C : Int) f := by
  obtain ⟨d, hd⟩ := h
  have e1 : (C : Int) = f.2 * (d : Int) := by
    have : (f.2.natAbs : Int) = f.2 := by omega
    rw [hd, Int.natCast_mul, this]
  have e2 : (C : Int).fdiv f.2 = (d : Int) := by rw [e1]; exact Int.mul_fdiv_cancel_left _ (by omega)
  unfold scl1
  rw [e2]
  refine Int.mul_pos hp ?_
  have : d ≠ 0 := fun z => by rw [z, Nat.mul_zero] at hd; omega
  omega
theorem sum_abs_lt {n : Nat} : ∀ {l : List Int}, (∀ x ∈ l, x.natAbs < 2 ^ n) → l.sum.natAbs ≤ l.length * 2 ^ n
  | [], _ => by simp
  | a :: r, h => by
    have h1 := h a (by simp)
    have h2 := sum_abs_lt (n := n) (l := r) fun z hz => h z (by simp [hz])
    rw [List.sum_cons, List.length_cons, Nat.add_mul]
    omega
theorem ok_threshold_any {P : Program} {w : World} {K : PySem.W.Frag} {mg : Str → Option Value} {base : Heap} (T : T P K mg) (m k : Nat) (h0 : 0 < m) (hk : k < 64) (hmk : m * (k + 1) + 7 ≤ 5900) : FnOk P w K mg base CX0 4 T.a_threshold T.fd_threshold ["weights", "size"] (spThr K m k) := by
  have hmk2 : m * (k + 1) = m * k + m := by rw [Nat.mul_add, Nat.mul_one]
  have ok_common_denominator := fun T => ok_common_any (P := P) (w := w) (K := K) (mg := mg) (base := base) T m k (by omega) (by omega)
  have ok_scaled := fun T => ok_scaled_any (P := P) (w := w) (K := K) (mg := mg) (base := base) T (m * k + m + 1) (by omega) (by omega)
  refine T.F_threshold.ok sc_threshold (fun vs H Q E h => ?_) (fun cdv A outer s H vs Q E hr h => ?_)
  · obtain ⟨a, as, fs, size, rfl, _⟩ := h
    rfl
  · obtain ⟨a, as, fs, size, rfl, hS, hF, hB, hl, hs1, q⟩ := h
    refine ⟨_, (pss_cons (ps_if (pt_cmpR op_le (pe_callB c_len (by rfl) T.z_len (by decide +kernel) (pa_cons (pv 0) pa_nil)) (pv 1) (nomark _)) (pss_one (ps_ret (pe_glob (v := .ref T.k_ZERO) (by rfl) T.g_ZERO rfl))) pss_nil)
      (pss_cons (ps_set (i := 2) sc_threshold.nd rfl (by first | exact Or.inl rfl | exact Or.inr rfl) (pe_call (ok_common_denominator T) (hr.mono (by decide)) (by rfl) T.g_common_denominator T.F_common_denominator.kp T.b_common_denominator .nil pass0 (pa_cons (pv 0) pa_nil)))
      (pss_cons (ps_set (i := 3) sc_threshold.nd rfl (by first | exact Or.inl rfl | exact Or.inr rfl) (pe_callB cr_sorted (by rfl) T.z_sorted (by decide +kernel) (pa_cons (pe_call (ok_scaled T) (hr.mono (by decide)) (by rfl) T.g_scaled T.F_scaled.kp T.b_scaled .nil pass0 (pa_cons (pv 0) (pa_cons (pv 2) pa_nil))) pa_nil)))
      (pss_cons (ps_set (i := 4) sc_threshold.nd rfl (by first | exact Or.inl rfl | exact Or.inr rfl) (pe_callB (cr_sum rfl) (by rfl) T.z_sum (by decide +kernel) (pa_cons (pv 3) pa_nil)))
      (pss_cons (ps_set (i := 5) sc_threshold.nd rfl (by first | exact Or.inl rfl | exact Or.inr rfl) (pv 1))
      (pss_cons (ps_while PassesOwn.never (pt_cmpR op_gt (pe_op op_mulW (pe_ix ix_list (pv 3) (pe_un un_neg pe_int) (fun _ _ => rfl)) (pv 5)) (pv 4) (nomark _)) (pss_cons (ps_aug (i := 5) sc_threshold.nd rfl (by first | exact Or.inl rfl | exact Or.inr rfl) pe_int ip_sub)
      (pss_one (ps_aug (i := 4) sc_threshold.nd rfl (by first | exact Or.inl rfl | exact Or.inr rfl) (pe_bm0 PySem.F.plainAttrs_list PySem.F.slot_list_pop PySem.F.type_list_pop mt_pop (pv 3)) ip_sub))))
      (pss_one (ps_ret (pe_call (ok_lowest T) (hr.mono (by decide)) (by rfl) T.g_lowest T.F_lowest.kp T.b_lowest .nil passL (pa_cons (pv 4) (pa_cons (pe_op op_mulW (pv 5) (pv 2)) pa_nil))))))))))), ?_⟩
    walk_at "z0"
    walk_at "z"
    refine Z.lenL hS ?_
    rw [List.length_map, hF.len]
    walk_at "z"
    refine Z.ite (fun h1 => ?_) (fun h1 => ?_)
    · walk_at "z"
      refine q H T.k_ZERO (0, 1) (Kp.refl _) (T.q_ZERO H) low_zero ⟨Nat.pos_of_ne_zero (by simp), Nat.one_lt_two_pow (by omega)⟩ ⟨fun _ => rv_zero, fun h2 => ?_⟩
      rw [List.length_map] at h2
      omega
    · have hn : size < fs.length := by omega
      have hden : ∀ f ∈ fs, 1 ≤ f.2.natAbs ∧ f.2.natAbs < 2 ^ m := fun f hf => (hB f hf).den
      obtain ⟨hC1, hC2⟩ := comm_lt hden
      have hC3 : comm fs ≤ 2 ^ (m * k) := Nat.le_trans hC2 (Nat.pow_le_pow_right (by decide) (Nat.mul_le_mul_left m hl))
      walk_at "z"
      refine ⟨a, as, fs, rfl, hS, hF, hden, hl, ?_⟩
      walk_at "z"
      refine ⟨a, as, fs, (comm fs : Int), rfl, hS, hF, fun f hf => ⟨(hB f hf).1, (hB f hf).2.2.mono (by omega)⟩, by omega, by rw [Int.natAbs_natCast]; exact Nat.lt_of_le_of_lt hC3 (Nat.pow_lt_pow_right (by decide) (by omega)), fun H1 p np k1 e1 => ?_⟩
      walk_at "z"
      refine ⟨p, _, rfl, lstL e1, by rw [List.length_map]; omega, fun xs sp hperm hsort nsp => ?_⟩
      have k2 : Kp [] H1 (upd H1 sp (.lst (xs.map V.int))) := Kp.new nsp
      have e2 : upd H1 sp (.lst (xs.map V.int)) sp = some (.lst (xs.map V.int)) := upd_same
      generalize upd H1 sp (.lst (xs.map V.int)) = H2 at k2 e2 ⊢
      have hxl : xs.length = fs.length := by rw [hperm.length_eq, List.length_map]
      have hnsp : H sp = none := k1.none nin0 nsp
      have hxp : ∀ x ∈ xs, 0 < x ∧ x.natAbs < 2 ^ (m * k + m) := by
        intro x hx
        obtain ⟨f, hf, rfl⟩ := List.mem_map.mp ((hperm.mem_iff).mp hx)
        refine ⟨scl1_pos hC1 (hB f hf).1 (hB f hf).2.1 (comm_dvd hf), ?_⟩
        unfold scl1
        rw [Int.natAbs_mul, Nat.pow_add, Nat.mul_comm]
        have h2 := fdiv_abs (a := (comm fs : Int)) (hB f hf).1
        rw [Int.natAbs_natCast] at h2
        have h3 := (hB f hf).2.2.1
        exact Nat.lt_of_le_of_lt (Nat.mul_le_mul_right _ (Nat.le_trans h2 hC3)) (Nat.mul_lt_mul_of_pos_left h3 (Nat.two_pow_pos _))
      walk_at "z"
      refine Z.sumL (lstL e2) ?_
      walk_at "z"
      refine Z.wh (fun mm σ' H' => ∃ (ys zs : List Int) (pl : Nat), mm = ys.length ∧ σ' = [some (.ref a), some (.int (size : Int)), some (.int (comm fs : Int)), some (.ref sp), some (.int ys.sum), some (.int (pl : Int))] ∧ Kp [] H H' ∧ H' sp = some (.lst (ys.map V.int)) ∧ ys ++ zs = xs ∧ 1 ≤ pl ∧ pl + zs.length = size ∧ ∀ z ∈ zs, ys.sum < z * (pl : Int)) xs.length ⟨xs, [], size, rfl, rfl, k1.trans k2, e2, by simp, hs1, by simp, by simp⟩ ?_
      rintro mm σ' H3 ⟨ys, zs, pl, rfl, rfl, k3, e3, hxy, hpl, hps, hz⟩
      have hlen : ys.length + zs.length = xs.length := by rw [← hxy, List.length_append]
      obtain ⟨ys', y, rfl⟩ : ∃ ys' y, ys = ys' ++ [y] := by
        have hne : ys ≠ [] := fun z => by rw [z] at hlen; simp at hlen; omega
        exact ⟨ys.dropLast, ys.getLast hne, (List.dropLast_concat_getLast hne).symm⟩
      have hyx : ∀ z ∈ ys' ++ [y], z ∈ xs := fun z h => by rw [← hxy]; exact List.mem_append_left _ h
      have hy := hxp y (hyx y (by simp))
      have hys : 0 ≤ ys'.sum := sum_nonneg fun z h => by have := (hxp z (hyx z (by simp [h]))).1; omega
      have esum : (ys' ++ [y]).sum = ys'.sum + y := by rw [List.sum_append]; simp
      have e3' : H3 sp = some (.lst (ys'.map V.int ++ [V.int y])) := by rw [e3, List.map_append]; rfl
      have hsort2 : (ys' ++ [y]).Pairwise (· ≤ ·) := by
        have := hsort
        rw [← hxy] at this
        exact (List.pairwise_append.mp this).1
      have hle : ∀ z ∈ ys', z ≤ y := fun z h => (List.pairwise_append.mp hsort2).2.2 z h y (by simp)
      have hplB : ((pl : Int)).natAbs < 2 ^ (m * k + m + 7) := by
        rw [Int.natAbs_natCast]
        refine Nat.lt_of_lt_of_le (show pl < 2 ^ 7 by omega) (Nat.pow_le_pow_right (by decide) (by omega))
      walk_at "z"
      refine Z.ixL (lstL e3') (atI_last _ _) ?_
      walk_at "z"
      refine Z.iC (mul_ok (n := m * k + m + 7) (up_B hy.2 (by omega)) hplB) ?_
      walk_at "z"
      refine Z.ite (fun h2 => ?_) (fun h2 => ?_)
      · refine Z.whb ?_
        have hpl2 : 2 ≤ pl := by
          refine Decidable.byContradiction fun z => ?_
          have : pl = 1 := by omega
          subst this
          rw [esum] at h2
          omega
        walk_at "z"
        refine ⟨Z.tyL e3', ?_⟩
        refine Z.popS e3' ?_
        walk_at "z"
        have ecast : ((pl - 1 : Nat) : Int) = (pl : Int) - 1 := by omega
        refine ⟨ys'.length, by simp, ys', y :: zs, pl - 1, rfl, ?_, k3.mut hnsp rfl, upd_same, by rw [← hxy]; simp, by omega, by simp; omega, ?_⟩
        · have e9 : (ys' ++ [y]).sum - y = ys'.sum := by rw [esum]; omega
          rw [← ecast]
          exact congrArg (fun z : Int => [some (V.ref a), some (V.int (size : Int)), some (V.int (comm fs : Int)), some (V.ref sp), some (V.int z), some (V.int ((pl - 1 : Nat) : Int))]) e9
        · have hyy : ys'.sum < y * ((pl - 1 : Nat) : Int) := by
            rw [esum] at h2
            rw [ecast, Int.mul_sub, Int.mul_one]
            omega
          intro z hz2
          rcases List.mem_cons.mp hz2 with rfl | hz2
          · exact hyy
          · have hyz : y ≤ z := by
              have := hsort
              rw [← hxy] at this
              exact (List.pairwise_append.mp this).2.2 y (by simp) z hz2
            exact Int.lt_of_lt_of_le hyy (Int.mul_le_mul_of_nonneg_right hyz (by omega))
      · walk_at "z"
        have hC4 : ((comm fs : Int)).natAbs < 2 ^ (m * k + m + 7) := by
          rw [Int.natAbs_natCast]
          exact Nat.lt_of_le_of_lt hC3 (Nat.pow_lt_pow_right (by decide) (by omega))
        have hq0 : (pl : Int) * (comm fs : Int) ≠ 0 := Int.mul_ne_zero (by omega) (by omega)
        refine Z.iC (mul_ok (n := m * k + m + 7) hplB hC4) ?_
        have hq1 : ((pl : Int) * (comm fs : Int)).natAbs < 2 ^ (m * k + 7) := by
          rw [Int.natAbs_mul, Int.natAbs_natCast, Int.natAbs_natCast, Nat.add_comm (m * k) 7, Nat.pow_add]
          exact Nat.lt_of_lt_of_le (Nat.mul_lt_mul_of_pos_right (show pl < 2 ^ 7 by omega) (by omega)) (Nat.mul_le_mul_left _ hC3)
        have hsumB : (ys' ++ [y]).sum.natAbs < 2 ^ (m * (k + 1) + 7) := by
          have h3 := sum_abs_lt (n := m * k + m) (l := ys' ++ [y]) fun z h => (hxp z (hyx z h)).2
          rw [hmk2, Nat.add_comm _ 7, Nat.pow_add]
          exact Nat.lt_of_le_of_lt h3 (Nat.mul_lt_mul_of_pos_right (show _ < 2 ^ 7 by omega) (Nat.two_pow_pos _))
        refine ⟨_, _, rfl, up_B hq1 (by omega), fun z => absurd z hq0, fun _ H4 b nb k4 e4 => ?_⟩
        refine q H4 b _ (k3.trans k4) e4 (lo_low hq0) (lo_B hq0 hsumB (up_B hq1 (by omega))) ?_
        have ht := thr_of (xs0 := fs.map (scl1 (comm fs : Int))) (ys := ys' ++ [y]) (zs := zs) (C := comm fs) (pl := pl) (size := size) hC1 hpl (by rw [hxy]; exact hperm) (by rw [esum]; omega) hz (fun z h => ?_) hps (by rw [List.length_map]; exact hn)
        · rw [rv_lo hq0]
          have e5 : (((pl : Int) * (comm fs : Int) : Int) : Rat) = (pl : Rat) * (comm fs : Rat) := by exact_mod_cast rfl
          rw [e5]
          rw [List.map_map] at ht
          have e6 : fs.map rv = fs.map ((fun x : Int => (x : Rat) / (comm fs : Rat)) ∘ scl1 (comm fs : Int)) := List.map_congr_left fun f hf => rv_scl hC1 (hB f hf).1 (comm_dvd hf)
          rw [e6]
          exact ht
        · have hzy : z ≤ y := by
            rcases List.mem_append.mp h with h | h
            · exact hle z h
            · rw [List.mem_singleton.mp h]; exact Int.le_refl _
          exact Int.le_trans (Int.mul_le_mul_of_nonneg_right hzy (by omega)) (by omega)

/-! ### calculations with fractions, as rational numbers -/
theorem rv_fplus {f g : Fr} (h1 : f.2 ≠ 0) (h2 : g.2 ≠ 0) : rv (fplus f g) = rv f + rv g := by
  unfold fplus
  rw [rv_lo (Int.mul_ne_zero h1 h2)]
  have a1 := ratNe h1
  have a2 := ratNe h2
  have e1 : ((f.1 * g.2 + g.1 * f.2 : Int) : Rat) = (f.1 : Rat) * (g.2 : Rat) + (g.1 : Rat) * (f.2 : Rat) := by exact_mod_cast rfl
  have e2 : ((f.2 * g.2 : Int) : Rat) = (f.2 : Rat) * (g.2 : Rat) := by exact_mod_cast rfl
  rw [e1, e2]
  unfold rv
  grind
theorem rv_fminus {f g : Fr} (h1 : f.2 ≠ 0) (h2 : g.2 ≠ 0) : rv (fminus f g) = rv f - rv g := by
  unfold fminus
  rw [rv_lo (Int.mul_ne_zero h1 h2)]
  have a1 := ratNe h1
  have a2 := ratNe h2
  have e1 : ((f.1 * g.2 - g.1 * f.2 : Int) : Rat) = (f.1 : Rat) * (g.2 : Rat) - (g.1 : Rat) * (f.2 : Rat) := by exact_mod_cast rfl
  have e2 : ((f.2 * g.2 : Int) : Rat) = (f.2 : Rat) * (g.2 : Rat) := by exact_mod_cast rfl
  rw [e1, e2]
  unfold rv
  grind
theorem rv_ftimes {f g : Fr} (h1 : f.2 ≠ 0) (h2 : g.2 ≠ 0) : rv (ftimes f g) = rv f * rv g := by
  unfold ftimes
  rw [rv_lo (Int.mul_ne_zero h1 h2)]
  have a1 := ratNe h1
  have a2 := ratNe h2
  have e1 : ((f.1 * g.1 : Int) : Rat) = (f.1 : Rat) * (g.1 : Rat) := by exact_mod_cast rfl
  have e2 : ((f.2 * g.2 : Int) : Rat) = (f.2 : Rat) * (g.2 : Rat) := by exact_mod_cast rfl
  rw [e1, e2]
  unfold rv
  grind
theorem fless_iff {f g : Fr} (h1 : 1 ≤ f.2) (h2 : 1 ≤ g.2) : fless f g = decide (rv f < rv g) := by
  unfold fless
  rw [decide_eq_decide]
  exact rv_lt h1 h2
theorem fplus_low {f g : Fr} (h1 : f.2 ≠ 0) (h2 : g.2 ≠ 0) : Low (fplus f g) := lo_low (Int.mul_ne_zero h1 h2)
theorem rv_fsum : ∀ {fs : List Fr} {t : Fr}, Low t → (∀ f ∈ fs, f.2 ≠ 0) → rv (fsum t fs) = rv t + (fs.map rv).sum ∧ Low (fsum t fs)
  | [], t, h, _ => ⟨by show rv t = rv t + 0; grind, h⟩
  | f :: r, t, h, hf => by
    have h1 := hf f (by simp)
    have ih := rv_fsum (fs := r) (t := fplus t f) (fplus_low h.ne h1) fun g hg => hf g (by simp [hg])
    refine ⟨?_, ih.2⟩
    show rv (fsum (fplus t f) r) = _
    rw [ih.1, rv_fplus h.ne h1, List.map_cons, List.sum_cons]
    grind
theorem eqv_fr (f g : Fr) : PyData.eqv (frD f) (frD g) = decide (f = g) := by
  obtain ⟨a, b⟩ := f
  obtain ⟨c, d⟩ := g
  simp [frD, PyData.eqv, PyData.eqvAll, Prod.ext_iff]
  rfl
theorem eqF {K : PySem.W.Frag} {H : Hp} {Q : VK} {a b : Addr} {f g : Fr} (h1 : FrAt K H a f) (h2 : FrAt K H b g) (q : Q (.bl (decide (f = g))) H) : rEqD K (.ref a) (.ref b) H Q :=
  ⟨_, _, dpF h1, dpF h2, frD_sh _, frD_sh _, by rw [eqv_fr]; exact q⟩
theorem neF {K : PySem.W.Frag} {H : Hp} {Q : VK} {a b : Addr} {f g : Fr} (h1 : FrAt K H a f) (h2 : FrAt K H b g) (q : Q (.bl (!decide (f = g))) H) : rNeD K (.ref a) (.ref b) H Q :=
  ⟨_, _, dpF h1, dpF h2, frD_sh _, frD_sh _, by rw [eqv_fr]; exact q⟩

/-- a promise for each of many -/
def spEx {ι : Type} (p : ι → Prop) (sp : ι → Sp) : Sp := fun vs H Q E => ∃ i, p i ∧ sp i vs H Q E
theorem fnEx {ι : Type} {P : Program} {w : World} {K : PySem.W.Frag} {mg : Str → Option Value} {base : Heap} {CX : CXT} {k : Nat} {f : Addr} {fd : FuncData} {ps : List Str} {p : ι → Prop} {sp : ι → Sp} (F : ∀ i, p i → FnOk P w K mg base CX k f fd ps (sp i)) : FnOk P w K mg base CX k f fd ps (spEx p sp) :=
  ⟨fun vs H Q E ⟨i, hi, q⟩ => (F i hi).len vs H Q E q, fun A outer s H args us vs Q E hr he hb hv ⟨i, hi, hs⟩ => (F i hi).run A outer s H args us vs Q E hr he hb hv hs⟩

/-! ### the law's own fractions -/
def spLow (K : PySem.W.Frag) : Sp := fun vs H Q _ => ∃ p q : Int, vs = [.int p, .int q] ∧ 1 ≤ q ∧ q.natAbs < 2 ^ 1900 ∧ ∀ H' b, H b = none → Kp [] H H' → FrAt K H' b (lo p q) → Q (.ref b) H'
theorem abs_if (i : Int) : (if i < 0 then -i else i) = (i.natAbs : Int) := by
  split <;> omega
theorem euc_4000 {p : Nat × Nat} (h : p.2 < 2 ^ 1900) : (euc 4000 p).2 = 0 := by
  rw [show (4000 : Nat) = 2 * 1900 + 200 from rfl, euc_add, euc_zero 200 (euc_end 1900 p h)]
  exact euc_end 1900 p h
theorem gI_pos {p q : Int} (h : 1 ≤ q) : gI p q = (gN p q : Int) := by
  unfold gI
  rw [if_neg (by omega)]

theorem ok__law_low {P : Program} {w : World} {K : PySem.W.Frag} {mg : Str → Option Value} {base : Heap} (T : T P K mg) : FnOk P w K mg base CX0 1 T.a__law_low T.fd__law_low ["p", "q"] (spLow K) := by
  refine T.F__law_low.ok sc__law_low (fun vs H Q E h => ?_) (fun cdv A outer s H vs Q E hr h => ?_)
  · obtain ⟨p, q, rfl, _⟩ := h
    rfl
  · obtain ⟨p, q, rfl, hq, hb, q1⟩ := h
    have hg := gI_ne (p := p) (q := q) (by omega)
    have hdv : Z.CDivA p (gI p q) := Z.divA (b := 1900) hg (by rw [gI_abs]; exact Nat.lt_of_le_of_lt (gN_le (by omega)) hb) (by decide) (by decide)
    have hdv2 : Z.CDivA q (gI p q) := hdv
    have eq : q = (q.natAbs : Int) := by omega
    refine ⟨_, (pss_cons (ps_par (i := 2) (j := 3) rfl sc__law_low.nd rfl rfl (by decide) rfl rfl (pa_cons (pe_callB c_abs (by rfl) T.z_abs (by decide +kernel) (pa_cons (pv 0) pa_nil)) (pa_cons (pv 1) pa_nil)) (by rfl))
      (pss_cons (ps_while PassesOwn.never (pt_cmpR op_ne (pv 3) pe_int (nomark _)) (pss_one (ps_par (i := 2) (j := 3) rfl sc__law_low.nd rfl rfl (by decide) rfl rfl (pa_cons (pv 3) (pa_cons (pe_op op_mod (pe_callTy c_int (by rfl) T.z_int (by decide +kernel) (pa_cons (pv 2) pa_nil)) (pv 3)) pa_nil)) (by rfl))))
      (pss_one (ps_ret (pe_tup (pa_cons (pe_op Z.op_fdivA (pv 0) (pv 2)) (pa_cons (pe_op Z.op_fdivA (pv 1) (pv 2)) pa_nil))))))), ?_⟩
    walk_at "z0"
    walk_at "z"
    rw [abs_if]
    refine Z.wh (fun m σ' H' => ∃ i : Nat, m = (euc i (p.natAbs, q.natAbs)).2 ∧ σ' = [some (.int p), some (.int q), some (.int ((euc i (p.natAbs, q.natAbs)).1 : Int)), some (.int ((euc i (p.natAbs, q.natAbs)).2 : Int))] ∧ H' = H) q.natAbs ⟨0, rfl, by show _ = [some (V.int p), some (V.int q), some (V.int (p.natAbs : Int)), some (V.int (q.natAbs : Int))]; rw [← eq], rfl⟩ ?_
    rintro m σ' H' ⟨i, rfl, rfl, rfl⟩
    walk_at "z"
    refine Z.iteN (fun h2 => ?_) (fun h2 => ?_)
    · refine Z.whb ?_
      have hp2 : (euc i (p.natAbs, q.natAbs)).2 ≠ 0 := by omega
      walk_at "z"
      refine Z.iC (by omega) ?_
      walk_at "z"
      have es : euc (i + 1) (p.natAbs, q.natAbs) = ((euc i (p.natAbs, q.natAbs)).2, (euc i (p.natAbs, q.natAbs)).1 % (euc i (p.natAbs, q.natAbs)).2) := by
        rw [euc_succ]
        exact if_neg hp2
      refine ⟨(euc (i + 1) (p.natAbs, q.natAbs)).2, ?_, i + 1, rfl, ?_, rfl⟩
      · rw [es]
        exact Nat.mod_lt _ (by omega)
      · rw [es]
        rfl
    · have h0 : (euc i (p.natAbs, q.natAbs)).2 = 0 := by omega
      have eg := euc_gcd i (p.natAbs, q.natAbs)
      rw [h0, Nat.gcd_zero_right] at eg
      have eg2 : (((euc i (p.natAbs, q.natAbs)).1 : Nat) : Int) = gI p q := by rw [eg]; exact (gI_pos hq).symm
      rw [eg2]
      walk_at "z"
      refine Z.iC hdv ?_
      walk_at "z"
      refine Z.iC hdv2 ?_
      refine Z.tupK (fun b H1 nb k1 e1 => ?_)
      exact q1 _ _ nb k1 (tupT e1)

/-- two fractions in, a fraction out; smaller ones -/
def spG2 (K : PySem.W.Frag) (o : Fr → Fr → Fr) : Sp := fun vs H Q _ => ∃ (a b : Addr) (f g : Fr), vs = [.ref a, .ref b] ∧ FrAt K H a f ∧ FrAt K H b g ∧ 1 ≤ f.2 ∧ 1 ≤ g.2 ∧ (∃ n m, FrB n f ∧ FrB m g ∧ n + m ≤ 1900) ∧ ∀ H' c, H c = none → Kp [] H H' → FrAt K H' c (o f g) → Q (.ref c) H'
theorem ok__law_plus {P : Program} {w : World} {K : PySem.W.Frag} {mg : Str → Option Value} {base : Heap} (T : T P K mg) : FnOk P w K mg base CX0 2 T.a__law_plus T.fd__law_plus ["one", "other"] (spG2 K fplus) := by
  refine T.F__law_plus.ok sc__law_plus (fun vs H Q E h => ?_) (fun cdv A outer s H vs Q E hr h => ?_)
  · obtain ⟨a, b, f, g, rfl, _⟩ := h
    rfl
  · obtain ⟨a, b, f, g, rfl, ha, hb, hf, hg, ⟨n, m, Bf0, Bg0, hnm⟩, q⟩ := h
    have Bf : FrB 1900 f := Bf0.mono (by omega)
    have Bg : FrB 1900 g := Bg0.mono (by omega)
    refine ⟨_, (pss_one (ps_ret (pe_call (ok__law_low T) (hr.mono (by decide)) (by rfl) T.g__law_low T.F__law_low.kp T.b__law_low .nil pass0 (pa_cons (pe_op op_add (pe_op op_mulW (pe_ix ix_tup (pv 0) pe_int (fun _ _ => rfl)) (pe_ix ix_tup (pv 1) pe_int (fun _ _ => rfl))) (pe_op op_mulW (pe_ix ix_tup (pv 1) pe_int (fun _ _ => rfl)) (pe_ix ix_tup (pv 0) pe_int (fun _ _ => rfl)))) (pa_cons (pe_op op_mulW (pe_ix ix_tup (pv 0) pe_int (fun _ _ => rfl)) (pe_ix ix_tup (pv 1) pe_int (fun _ _ => rfl))) pa_nil))))), ?_⟩
    walk_at "z0"
    walk_at "z"
    refine Z.ixT ha (fr0 f) ?_
    walk_at "z"
    refine Z.ixT hb (fr1 g) ?_
    walk_at "z"
    refine Z.iC (mul_ok Bf.1 Bg.2) ?_
    walk_at "z"
    refine Z.ixT hb (fr0 g) ?_
    walk_at "z"
    refine Z.ixT ha (fr1 f) ?_
    walk_at "z"
    refine Z.iC (mul_ok Bg.1 Bf.2) ?_
    walk_at "z"
    refine Z.ixT ha (fr1 f) ?_
    walk_at "z"
    refine Z.ixT hb (fr1 g) ?_
    walk_at "z"
    refine Z.iC (mul_ok Bf.2 Bg.2) ?_
    walk_at "z"
    have h0 := Int.mul_pos (show 0 < f.2 by omega) (show 0 < g.2 by omega)
    exact ⟨_, _, rfl, by omega, up_B (mul_B Bf0.2 Bg0.2) hnm, fun H' c nc k e => q _ _ nc k e⟩
theorem ok__law_times {P : Program} {w : World} {K : PySem.W.Frag} {mg : Str → Option Value} {base : Heap} (T : T P K mg) : FnOk P w K mg base CX0 2 T.a__law_times T.fd__law_times ["one", "other"] (spG2 K ftimes) := by
  refine T.F__law_times.ok sc__law_times (fun vs H Q E h => ?_) (fun cdv A outer s H vs Q E hr h => ?_)
  · obtain ⟨a, b, f, g, rfl, _⟩ := h
    rfl
  · obtain ⟨a, b, f, g, rfl, ha, hb, hf, hg, ⟨n, m, Bf0, Bg0, hnm⟩, q⟩ := h
    have Bf : FrB 1900 f := Bf0.mono (by omega)
    have Bg : FrB 1900 g := Bg0.mono (by omega)
    refine ⟨_, (pss_one (ps_ret (pe_call (ok__law_low T) (hr.mono (by decide)) (by rfl) T.g__law_low T.F__law_low.kp T.b__law_low .nil pass0 (pa_cons (pe_op op_mulW (pe_ix ix_tup (pv 0) pe_int (fun _ _ => rfl)) (pe_ix ix_tup (pv 1) pe_int (fun _ _ => rfl))) (pa_cons (pe_op op_mulW (pe_ix ix_tup (pv 0) pe_int (fun _ _ => rfl)) (pe_ix ix_tup (pv 1) pe_int (fun _ _ => rfl))) pa_nil))))), ?_⟩
    walk_at "z0"
    walk_at "z"
    refine Z.ixT ha (fr0 f) ?_
    walk_at "z"
    refine Z.ixT hb (fr0 g) ?_
    walk_at "z"
    refine Z.iC (mul_ok Bf.1 Bg.1) ?_
    walk_at "z"
    refine Z.ixT ha (fr1 f) ?_
    walk_at "z"
    refine Z.ixT hb (fr1 g) ?_
    walk_at "z"
    refine Z.iC (mul_ok Bf.2 Bg.2) ?_
    walk_at "z"
    have h0 := Int.mul_pos (show 0 < f.2 by omega) (show 0 < g.2 by omega)
    exact ⟨_, _, rfl, by omega, up_B (mul_B Bf0.2 Bg0.2) hnm, fun H' c nc k e => q _ _ nc k e⟩

/-- one less other, by the negative one -/
def fneg (g : Fr) : Fr := (0 - g.1, g.2)
theorem fneg_B {n : Nat} {g : Fr} (h : FrB n g) : FrB n (fneg g) := ⟨by have := h.1; unfold fneg; show (0 - g.1).natAbs < _; omega, h.2⟩
theorem rv_fneg (g : Fr) : rv (fneg g) = - rv g := by
  unfold rv fneg
  have e : ((0 - g.1 : Int) : Rat) = - (g.1 : Rat) := by
    have : ((0 - g.1 : Int) : Rat) = (0 : Rat) - (g.1 : Rat) := by exact_mod_cast rfl
    rw [this]; grind
  show ((0 - g.1 : Int) : Rat) / _ = _
  rw [e]
  grind
def fsub (f g : Fr) : Fr := fplus f (fneg g)
theorem rv_fsub {f g : Fr} (h1 : f.2 ≠ 0) (h2 : g.2 ≠ 0) : rv (fsub f g) = rv f - rv g := by
  unfold fsub
  rw [rv_fplus h1 (show (fneg g).2 ≠ 0 from h2), rv_fneg]
  grind
theorem fsub_low {f g : Fr} (h1 : f.2 ≠ 0) (h2 : g.2 ≠ 0) : Low (fsub f g) := fplus_low h1 (show (fneg g).2 ≠ 0 from h2)
theorem fsub_B {n m : Nat} {f g : Fr} (hf : FrB n f) (hg : FrB m g) (h1 : f.2 ≠ 0) (h2 : g.2 ≠ 0) : FrB (n + m + 1) (fsub f g) := fplus_B hf (fneg_B hg) h1 (show (fneg g).2 ≠ 0 from h2)
theorem ok__law_minus {P : Program} {w : World} {K : PySem.W.Frag} {mg : Str → Option Value} {base : Heap} (T : T P K mg) : FnOk P w K mg base CX0 3 T.a__law_minus T.fd__law_minus ["one", "other"] (spG2 K fsub) := by
  refine T.F__law_minus.ok sc__law_minus (fun vs H Q E h => ?_) (fun cdv A outer s H vs Q E hr h => ?_)
  · obtain ⟨a, b, f, g, rfl, _⟩ := h
    rfl
  · obtain ⟨a, b, f, g, rfl, ha, hb, hf, hg, ⟨n, m, Bf0, Bg0, hnm⟩, q⟩ := h
    refine ⟨_, (pss_one (ps_ret (pe_call (ok__law_plus T) (hr.mono (by decide)) (by rfl) T.g__law_plus T.F__law_plus.kp T.b__law_plus .nil pass0 (pa_cons (pv 0) (pa_cons (pe_tup (pa_cons (pe_op op_sub pe_int (pe_ix ix_tup (pv 1) pe_int (fun _ _ => rfl))) (pa_cons (pe_ix ix_tup (pv 1) pe_int (fun _ _ => rfl)) pa_nil))) pa_nil))))), ?_⟩
    walk_at "z0"
    walk_at "z"
    refine Z.ixT hb (fr0 g) ?_
    walk_at "z"
    refine Z.ixT hb (fr1 g) ?_
    walk_at "z"
    refine Z.tupK (fun t H1 nt k1 e1 => ?_)
    refine ⟨a, t, f, fneg g, rfl, ha.kp0 k1, tupT e1, hf, hg, ⟨n, m, Bf0, fneg_B Bg0, hnm⟩, fun H2 c nc k2 e2 => ?_⟩
    exact q H2 c (k1.none nin0 nc) (k1.trans k2) e2

def spLessG (K : PySem.W.Frag) : Sp := fun vs H Q _ => ∃ (a b : Addr) (f g : Fr), vs = [.ref a, .ref b] ∧ FrAt K H a f ∧ FrAt K H b g ∧ FrB 8000 f ∧ FrB 8000 g ∧ Q (.bl (fless f g)) H
theorem ok__law_less {P : Program} {w : World} {K : PySem.W.Frag} {mg : Str → Option Value} {base : Heap} (T : T P K mg) : FnOk P w K mg base CX0 1 T.a__law_less T.fd__law_less ["one", "other"] (spLessG K) := by
  refine T.F__law_less.ok sc__law_less (fun vs H Q E h => ?_) (fun cdv A outer s H vs Q E hr h => ?_)
  · obtain ⟨a, b, f, g, rfl, _⟩ := h
    rfl
  · obtain ⟨a, b, f, g, rfl, ha, hb, Bf, Bg, q⟩ := h
    refine ⟨_, (pss_one (ps_ret (pe_cmpR op_lt (pe_op op_mulW (pe_ix ix_tup (pv 0) pe_int (fun _ _ => rfl)) (pe_ix ix_tup (pv 1) pe_int (fun _ _ => rfl))) (pe_op op_mulW (pe_ix ix_tup (pv 1) pe_int (fun _ _ => rfl)) (pe_ix ix_tup (pv 0) pe_int (fun _ _ => rfl))) (nomark _)))), ?_⟩
    walk_at "z0"
    walk_at "z"
    refine Z.ixT ha (fr0 f) ?_
    walk_at "z"
    refine Z.ixT hb (fr1 g) ?_
    walk_at "z"
    refine Z.iC (mul_ok Bf.1 Bg.2) ?_
    walk_at "z"
    refine Z.ixT hb (fr0 g) ?_
    walk_at "z"
    refine Z.ixT ha (fr1 f) ?_
    walk_at "z"
    refine Z.iC (mul_ok Bg.1 Bf.2) ?_
    walk_at "z"
    exact q

/-! ### chances by a threshold -/
def chF (w t : Fr) : Fr := if fless w t = true then fover w t else (1, 1)
def spChance (K : PySem.W.Frag) : Sp := fun vs H Q _ => ∃ (a b : Addr) (f g : Fr), vs = [.ref a, .ref b] ∧ FrAt K H a f ∧ FrAt K H b g ∧ 1 ≤ f.2 ∧ 0 < f.1 ∧ 1 ≤ g.2 ∧ FrB 3900 f ∧ FrB 3900 g ∧ ∀ H' c, Kp [] H H' → FrAt K H' c (chF f g) → Q (.ref c) H'
theorem fless_pos {f g : Fr} (h1 : 1 ≤ f.2) (hp : 0 < f.1) (h2 : 1 ≤ g.2) (h : fless f g = true) : 0 < g.1 := by
  unfold fless at h
  rw [decide_eq_true_eq] at h
  refine Decidable.byContradiction fun z => ?_
  have h3 : g.1 * f.2 ≤ 0 := Int.mul_nonpos_of_nonpos_of_nonneg (by omega) (by omega)
  have h4 : 0 < f.1 * g.2 := Int.mul_pos hp (by omega)
  omega
theorem ok_chance_at {P : Program} {w : World} {K : PySem.W.Frag} {mg : Str → Option Value} {base : Heap} (T : T P K mg) : FnOk P w K mg base CX0 5 T.a_chance_at T.fd_chance_at ["weight", "bar"] (spChance K) := by
  refine T.F_chance_at.ok sc_chance_at (fun vs H Q E h => ?_) (fun cdv A outer s H vs Q E hr h => ?_)
  · obtain ⟨a, b, f, g, rfl, _⟩ := h
    rfl
  · obtain ⟨a, b, f, g, rfl, ha, hb, hf, hp, hg, Bf, Bg, q⟩ := h
    refine ⟨_, (pss_cons (ps_if (pt_val (pe_call (ok_less T) (hr.mono (by decide)) (by rfl) T.g_less T.F_less.kp T.b_less .nil pass0 (pa_cons (pv 0) (pa_cons (pv 1) pa_nil)))) (pss_one (ps_ret (pe_call (ok_over T) (hr.mono (by decide)) (by rfl) T.g_over T.F_over.kp T.b_over .nil passL (pa_cons (pv 0) (pa_cons (pv 1) pa_nil))))) pss_nil)
      (pss_one (ps_ret (pe_glob (v := .ref T.k_ONE) (by rfl) T.g_ONE rfl)))), ?_⟩
    unfold chF at q
    walk_at "z0"
    walk_at "z"
    refine ⟨a, b, f, g, rfl, ha, hb, Bf, Bg, ?_⟩
    cases hl : fless f g with
    | true =>
      rw [hl, if_pos rfl] at q
      have h0 := fless_pos hf hp hg hl
      walk_at "z"
      exact ⟨a, b, f, g, rfl, ha, hb, by omega, Bf, Bg, fun z => absurd z (by omega), fun _ H' c nc k e => q H' c k e⟩
    | false =>
      rw [hl, if_neg Bool.false_ne_true] at q
      walk_at "z"
      exact q H T.k_ONE (Kp.refl _) (T.q_ONE H)
/-! chances as rational numbers -/
theorem chF_low {f g : Fr} (hf : 1 ≤ f.2) (hp : 0 < f.1) (hg : 1 ≤ g.2) : Low (chF f g) := by
  unfold chF
  split
  · rename_i h
    have h0 := fless_pos hf hp hg h
    have h1 := Int.mul_pos (show 0 < f.2 by omega) h0
    exact lo_low (by omega)
  · exact ⟨by decide, by decide⟩
theorem chF_B {n m : Nat} {f g : Fr} (hf : 1 ≤ f.2) (hp : 0 < f.1) (hg : 1 ≤ g.2) (Bf : FrB n f) (Bg : FrB m g) (h : 1 ≤ n + m) : FrB (n + m) (chF f g) := by
  unfold chF
  split
  · rename_i hl
    have h0 := fless_pos hf hp hg hl
    have h1 := Int.mul_pos (show 0 < f.2 by omega) h0
    exact lo_B (by omega) (mul_B Bf.1 Bg.2) (mul_B Bf.2 Bg.1)
  · have : (1 : Nat) < 2 ^ (n + m) := Nat.one_lt_two_pow (by omega)
    exact ⟨this, this⟩
theorem rv_one : rv (1, 1) = 1 := by unfold rv; grind
theorem rv_chF {f g : Fr} (hf : 1 ≤ f.2) (hp : 0 < f.1) (hg : 1 ≤ g.2) : rv (chF f g) = if rv f < rv g then rv f / rv g else 1 := by
  unfold chF
  rw [fless_iff hf hg]
  by_cases h : rv f < rv g
  · rw [if_pos (by simp [h]), if_pos h]
    have h0 := fless_pos hf hp hg (by rw [fless_iff hf hg]; simp [h])
    have h1 := Int.mul_pos (show 0 < f.2 by omega) h0
    unfold fover
    rw [rv_lo (by omega)]
    have e1 : ((f.1 * g.2 : Int) : Rat) = (f.1 : Rat) * (g.2 : Rat) := by exact_mod_cast rfl
    have e2 : ((f.2 * g.1 : Int) : Rat) = (f.2 : Rat) * (g.1 : Rat) := by exact_mod_cast rfl
    rw [e1, e2]
    unfold rv
    have a1 := ratNe (q := f.2) (by omega)
    have a2 := ratNe (q := g.2) (by omega)
    have a3 := ratNe (q := g.1) (by omega)
    grind
  · rw [if_neg (by simp [h]), if_neg h]
    exact rv_one
theorem chF_sum {g : Fr} (hg : 1 ≤ g.2) (ht : 0 < rv g) : ∀ {fs : List Fr}, (∀ f ∈ fs, 1 ≤ f.2 ∧ 0 < f.1) → ((fs.map fun f => chF f g).map rv).sum * rv g = cap (rv g) (fs.map rv)
  | [], _ => by show (0 : Rat) * rv g = 0; grind
  | f :: r, h => by
    have h1 := h f (by simp)
    have ih := chF_sum hg ht (fs := r) fun z hz => h z (by simp [hz])
    rw [List.map_cons, List.map_cons, List.map_cons, List.sum_cons, Rat.add_mul, ih, rv_chF h1.1 h1.2 hg]
    show _ = (if rv f < rv g then rv f else rv g) + cap (rv g) (r.map rv)
    split <;> grind
theorem neFs {K : PySem.W.Frag} {H : Hp} {Q : VK} {a b : Addr} {as bs : List Addr} {fs : List Fr} (h1 : H a = some (.lst (as.map V.ref))) (h2 : H b = some (.lst (bs.map V.ref))) (h : FrsAt K H as fs) (h' : FrsAt K H bs fs) (q : Q (.bl false) H) : rNeD K (.ref a) (.ref b) H Q :=
  ⟨_, _, .lst (lstL h1) (dpFs h), .lst (lstL h2) (dpFs h'), shFs _, shFs _, by rw [SeqAt.eqv_refl (.list (fs.map frD)) (by simp [PyData.canLay0, layFs])]; exact q⟩

/-! ### samphire.prices -/
def wI (w : Int) : Fr := (w, 1)
theorem wI_pos {w : Int} (h0 : 1 ≤ w) (h1 : w ≤ 1000) : PosB 10 (wI w) := ⟨by show (1 : Int) ≤ 1; decide, by show 0 < w; omega, by show w.natAbs < 2 ^ 10; omega, by show (1 : Nat) < 2 ^ 10; decide⟩
theorem rv_wI (w : Int) : rv (wI w) = (w : Rat) := rv_int w
def Ws (ws : List Int) : Prop := ∀ w ∈ ws, 1 ≤ w ∧ w ≤ 1000
def ratW (ws : List Int) : List Rat := ws.map fun w : Int => (w : Rat)
theorem ratW_pos {ws : List Int} (h : Ws ws) : ∀ w ∈ ratW ws, (0 : Rat) < w := fun w hw => by
  obtain ⟨x, hx, rfl⟩ := List.mem_map.mp hw
  exact ratPos (by have := (h x hx).1; omega)
theorem rvW (ws : List Int) : (ws.map wI).map rv = ratW ws := by
  rw [List.map_map]
  exact List.map_congr_left fun (w : Int) _ => rv_wI w
theorem int_at {ws : List Int} {i : Nat} {v : V} (h : (ws.map V.int)[i]? = some v) : ∃ w, ws[i]? = some w ∧ v = .int w := by
  rw [List.getElem?_map] at h
  cases e : ws[i]? with
  | none => rw [e] at h; cases h
  | some x => rw [e] at h; exact ⟨x, rfl, (Option.some.inj h).symm⟩
def spThrX (K : PySem.W.Frag) : Sp := spEx (fun i : Nat × Nat => 0 < i.1 ∧ i.2 < 64 ∧ i.1 * (i.2 + 1) + 7 ≤ 5900) fun i => spThr K i.1 i.2
theorem ok_threshold {P : Program} {w : World} {K : PySem.W.Frag} {mg : Str → Option Value} {base : Heap} (T : T P K mg) : FnOk P w K mg base CX0 4 T.a_threshold T.fd_threshold ["weights", "size"] (spThrX K) := fnEx fun i h => ok_threshold_any T i.1 i.2 h.1 h.2.1 h.2.2
theorem ok_sum_of {P : Program} {w : World} {K : PySem.W.Frag} {mg : Str → Option Value} {base : Heap} (T : T P K mg) : FnOk P w K mg base CX0 5 T.a_sum_of T.fd_sum_of ["fractions"] (spSumOf K 170 6) := ok_sum_of_any T 170 6 (by decide) (by decide)
def spAsF (K : PySem.W.Frag) : Sp := fun vs H Q _ => ∃ (a : Addr) (ws : List Int), vs = [.ref a] ∧ SqL K H a (ws.map V.int) ∧ ws.length ≤ 1000 ∧ ∀ H' l as, H l = none → Kp [] H H' → H' l = some (.lst (as.map V.ref)) → FrsAt K H' as (ws.map wI) → Q (.ref l) H'
theorem ok_as_fractions {P : Program} {w : World} {K : PySem.W.Frag} {mg : Str → Option Value} {base : Heap} (T : T P K mg) : FnOk P w K mg base CX0 1 T.a_as_fractions T.fd_as_fractions ["weights"] (spAsF K) := by
  refine T.F_as_fractions.ok sc_as_fractions (fun vs H Q E h => ?_) (fun cdv A outer s H vs Q E hr h => ?_)
  · obtain ⟨a, ws, rfl, _⟩ := h
    rfl
  · obtain ⟨a, ws, rfl, hS, hl, q⟩ := h
    refine ⟨_, (pss_one (ps_ret (pe_lc (own := [("weight", 1)]) (g := gName 1) rfl sc_as_fractions.nd (pi_list (pv 0)) (blkOk_by (own := [("weight", 1)]) (N := N_as_fractions) (sc := defScope s_as_fractions) (by decide +kernel)) (fun _ _ _ _ _ => (pg_name (i := 1) sc_as_fractions.nd rfl (by first | exact Or.inl rfl | exact Or.inr rfl))) (fun _ _ _ _ _ => pts_nil) (fun _ _ _ _ _ => (pe_tup (pa_cons (pv 1) (pa_cons pe_int pa_nil))))))), ?_⟩
    walk_at "z0"
    walk_at "z"
    refine Z.lcl (ws.map V.int) hS (fun D i H' => ∃ as : List Addr, Kp [] H H' ∧ H' D = some (.lst (as.map V.ref)) ∧ FrsAt K H' as ((ws.take i).map wI)) ?_ ?_ ?_ ?_
    · intro D H1 nD k1 e1
      exact ⟨[], k1, e1, .nil⟩
    · rintro D i H1 nD hi ⟨as, k1, e1, F1⟩
      exact k1.seq nin0 hS
    · rintro D i v H1 nD hv ⟨as, k1, e1, F1⟩
      obtain ⟨w, hw, rfl⟩ := int_at hv
      have hi : i < ws.length := (List.getElem?_eq_some_iff.mp hw).1
      dsimp only [wipe, List.set]
      walk_at "z"
      refine ⟨rfl, ?_⟩
      walk_at "z"
      refine Z.tupK (fun t H2 nt k2 e2 => ?_)
      have e2D := k2.get nin0 e1
      refine ⟨_, e2D, Z.szl (m := 1000) (by rw [List.length_map, F1.len, List.length_map, List.length_take]; omega), as ++ [t], (k1.trans k2).mut nD rfl, by rw [upd_same, List.map_append]; rfl, ?_⟩
      rw [List.take_add_one, hw, List.map_append]
      exact ((F1.kp0 k2).snoc (tupT e2)).kpl (Kp.put (by simp)) e2D
    · rintro D H1 nD ⟨as, k1, e1, F1⟩
      rw [List.length_map, List.take_length] at F1
      exact q H1 D as nD k1 e1 F1
def spBest (K : PySem.W.Frag) : Sp := fun vs H Q _ => ∃ (a : Addr) (ws : List Int) (size : Nat), vs = [.ref a, .int (size : Int)] ∧ SqL K H a (ws.map V.int) ∧ ws.length ≤ 6 ∧ Ws ws ∧ 1 ≤ size ∧ ∀ H' b g, Kp [] H H' → FrAt K H' b g → Low g → FrB 77 g → Thr (ratW ws) size (rv g) → Q (.ref b) H'
theorem ok_best_price {P : Program} {w : World} {K : PySem.W.Frag} {mg : Str → Option Value} {base : Heap} (T : T P K mg) : FnOk P w K mg base CX0 5 T.a_best_price T.fd_best_price ["weights", "size"] (spBest K) := by
  refine T.F_best_price.ok sc_best_price (fun vs H Q E h => ?_) (fun cdv A outer s H vs Q E hr h => ?_)
  · obtain ⟨a, ws, size, rfl, _⟩ := h
    rfl
  · obtain ⟨a, ws, size, rfl, hS, hl, hW, hs1, q⟩ := h
    refine ⟨_, (pss_one (ps_ret (pe_call (ok_threshold T) (hr.mono (by decide)) (by rfl) T.g_threshold T.F_threshold.kp T.b_threshold .nil pass0 (pa_cons (pe_call (ok_as_fractions T) (hr.mono (by decide)) (by rfl) T.g_as_fractions T.F_as_fractions.kp T.b_as_fractions .nil pass0 (pa_cons (pv 0) pa_nil)) (pa_cons (pv 1) pa_nil))))), ?_⟩
    walk_at "z0"
    walk_at "z"
    refine ⟨a, ws, rfl, hS, by omega, fun H1 l as nl k1 e1 F1 => ?_⟩
    walk_at "z"
    refine ⟨(10, 6), ⟨by decide, by decide, by decide⟩, l, as, ws.map wI, size, rfl, lstL e1, F1, fun f hf => ?_, by rw [List.length_map]; exact hl, hs1, fun H2 b g k2 e2 hgL hgB hgT => ?_⟩
    · obtain ⟨w, hw, rfl⟩ := List.mem_map.mp hf
      exact wI_pos (hW w hw).1 (hW w hw).2
    · rw [rvW] at hgT
      exact q H2 b g (k1.trans k2) e2 hgL hgB hgT
def spBestCh (K : PySem.W.Frag) : Sp := fun vs H Q _ => ∃ (a : Addr) (ws : List Int) (size : Nat), vs = [.ref a, .int (size : Int)] ∧ SqL K H a (ws.map V.int) ∧ ws.length ≤ 6 ∧ Ws ws ∧ 1 ≤ size ∧ ∀ H' l as g, Kp [] H H' → H' l = some (.lst (as.map V.ref)) → Low g → FrB 77 g → Thr (ratW ws) size (rv g) → FrsAt K H' as (ws.map fun w => chF (wI w) g) → Q (.ref l) H'
theorem ok_best_chances {P : Program} {w : World} {K : PySem.W.Frag} {mg : Str → Option Value} {base : Heap} (T : T P K mg) : FnOk P w K mg base CX0 6 T.a_best_chances T.fd_best_chances ["weights", "size"] (spBestCh K) := by
  refine T.F_best_chances.ok sc_best_chances (fun vs H Q E h => ?_) (fun cdv A outer s H vs Q E hr h => ?_)
  · obtain ⟨a, ws, size, rfl, _⟩ := h
    rfl
  · obtain ⟨a, ws, size, rfl, hS, hl, hW, hs1, q⟩ := h
    refine ⟨_, (pss_cons (ps_set (i := 2) sc_best_chances.nd rfl (by first | exact Or.inl rfl | exact Or.inr rfl) (pe_call (ok_best_price T) (hr.mono (by decide)) (by rfl) T.g_best_price T.F_best_price.kp T.b_best_price .nil pass0 (pa_cons (pv 0) (pa_cons (pv 1) pa_nil))))
      (pss_one (ps_ret (pe_lc (own := [("weight", 3)]) (g := gName 3) rfl sc_best_chances.nd (pi_list (pe_call (ok_as_fractions T) (hr.mono (by decide)) (by rfl) T.g_as_fractions T.F_as_fractions.kp T.b_as_fractions .nil pass0 (pa_cons (pv 0) pa_nil))) (blkOk_by (own := [("weight", 3)]) (N := N_best_chances) (sc := defScope s_best_chances) (by decide +kernel)) (fun _ _ _ _ _ => (pg_name (i := 3) sc_best_chances.nd rfl (by first | exact Or.inl rfl | exact Or.inr rfl))) (fun _ _ _ _ _ => pts_nil) (fun _ _ _ _ _ => (pe_call (ok_chance_at T) (hr.mono (by decide)) (by rfl) T.g_chance_at T.F_chance_at.kp T.b_chance_at .nil pass0 (pa_cons (pv 3) (pa_cons (pv 2) pa_nil)))))))), ?_⟩
    walk_at "z0"
    walk_at "z"
    refine ⟨a, ws, size, rfl, hS, hl, hW, hs1, fun H1 b g k1 e1 hgL hgB hgT => ?_⟩
    walk_at "z"
    refine ⟨a, ws, rfl, k1.seq nin0 hS, by omega, fun H2 l as nl k2 e2 F2 => ?_⟩
    have e2b := e1.kp0 k2
    walk_at "z"
    refine Z.lcl (as.map V.ref) (lstL e2) (fun D i H' => ∃ bs : List Addr, Kp [] H2 H' ∧ H' D = some (.lst (bs.map V.ref)) ∧ FrsAt K H' bs ((ws.take i).map fun w => chF (wI w) g)) ?_ ?_ ?_ ?_
    · intro D H3 nD k3 e3
      exact ⟨[], k3, e3, .nil⟩
    · rintro D i H3 nD hi ⟨bs, k3, e3, F3⟩
      exact lstL (k3.get nin0 e2)
    · rintro D i v H3 nD hv ⟨bs, k3, e3, F3⟩
      obtain ⟨x, f, rfl, hf, hx⟩ := (F2.kp0 k3).get hv
      rw [List.getElem?_map] at hf
      cases hy : ws[i]? with
      | none => rw [hy] at hf; cases hf
      | some y =>
        rw [hy] at hf
        obtain rfl := Option.some.inj hf
        have hi : i < ws.length := (List.getElem?_eq_some_iff.mp hy).1
        have hyW := hW y (List.mem_of_getElem? hy)
        have hfP := wI_pos hyW.1 hyW.2
        dsimp only [wipe, List.set]
        walk_at "z"
        refine ⟨rfl, ?_⟩
        walk_at "z"
        refine ⟨x, b, wI y, g, rfl, hx, e2b.kp0 k3, hfP.1, hfP.2.1, hgL.1, hfP.2.2.mono (by decide), hgB.mono (by decide), fun H4 c4 k4 e4 => ?_⟩
        have e4D := k4.get nin0 e3
        refine ⟨_, e4D, Z.szl (m := 1000) (by rw [List.length_map, F3.len, List.length_map, List.length_take]; omega), bs ++ [c4], (k3.trans k4).mut nD rfl, by rw [upd_same, List.map_append]; rfl, ?_⟩
        rw [List.take_add_one, hy, List.map_append]
        exact ((F3.kp0 k4).snoc e4).kpl (Kp.put (by simp)) e4D
    · rintro D H3 nD ⟨bs, k3, e3, F3⟩
      rw [List.length_map, F2.len, List.length_map, List.take_length] at F3
      exact q H3 D bs g ((k1.trans k2).trans k3) e3 hgL hgB hgT F3

/-! ### bounds of prices and spreads, as rational numbers -/
def gR (w t : Rat) : Rat := if w < t then w * (2 * t - w) else t * t
def sR (w p : Rat) : Rat := w * w * (1 / p - 1)
def pbR (ws : List Rat) (k t : Rat) : Rat := (ws.map fun w => gR w t).sum - k * (t * t)
def sprR : List Rat → List Rat → Rat
  | w :: r, p :: s => sR w p + sprR r s
  | _, _ => 0
theorem sq_nonneg (x : Rat) : 0 ≤ x * x := by
  by_cases h : 0 ≤ x
  · exact Rat.mul_nonneg h h
  · have h2 : 0 ≤ -x := by grind
    have := Rat.mul_nonneg h2 h2
    grind
theorem weak1 {w p t : Rat} (hw : 0 < w) (hp : 0 < p) (hp1 : p ≤ 1) (ht : 0 ≤ t) : gR w t ≤ sR w p + t * t * p := by
  have hp0 : p ≠ 0 := by grind
  have hu : ∃ u : Rat, w = u * p := ⟨w / p, by rw [Rat.div_mul_cancel hp0]⟩
  obtain ⟨u, rfl⟩ := hu
  have e : sR (u * p) p = u * u * p - u * p * (u * p) := by
    unfold sR
    grind
  rw [e]
  unfold gR
  split
  · have h1 := Rat.mul_nonneg (sq_nonneg (u - t)) (show 0 ≤ p by grind)
    grind
  · rename_i h
    have h2 : t ≤ u * p := by grind
    have hu0 : 0 ≤ u := by
      by_cases z : 0 ≤ u
      · exact z
      · have : u * p < 0 * p := Rat.mul_lt_mul_of_pos_right (by grind) hp
        grind
    have h3 : u * p ≤ u := by
      have := Rat.mul_le_mul_of_nonneg_left hp1 hu0
      grind
    have h4 : t * t ≤ u * p * t := Rat.mul_le_mul_of_nonneg_right h2 ht
    have h5 : u * p * t ≤ u * p * u := Rat.mul_le_mul_of_nonneg_left (by grind) (by grind)
    have h6 := Rat.mul_nonneg (show 0 ≤ 1 - p by grind) (show 0 ≤ u * p * u - t * t by grind)
    grind
theorem weakL {t : Rat} (ht : 0 ≤ t) : ∀ {ws ps : List Rat}, ws.length = ps.length → (∀ w ∈ ws, 0 < w) → (∀ p ∈ ps, 0 < p ∧ p ≤ 1) → (ws.map fun w => gR w t).sum ≤ sprR ws ps + t * t * ps.sum
  | [], [], _, _, _ => by show (0 : Rat) ≤ 0 + t * t * 0; grind
  | [], _ :: _, h, _, _ => by cases h
  | _ :: _, [], h, _, _ => by cases h
  | w :: r, p :: s, h, hw, hp => by
    have ih := weakL ht (ws := r) (ps := s) (by simpa using h) (fun z hz => hw z (by simp [hz])) fun z hz => hp z (by simp [hz])
    have h1 := weak1 (t := t) (hw w (by simp)) (hp p (by simp)).1 (hp p (by simp)).2 ht
    rw [List.map_cons, List.sum_cons, List.sum_cons]
    show _ ≤ sR w p + sprR r s + _
    grind
theorem weak {t k : Rat} (ht : 0 ≤ t) {ws ps : List Rat} (hl : ws.length = ps.length) (hw : ∀ w ∈ ws, 0 < w) (hp : ∀ p ∈ ps, 0 < p ∧ p ≤ 1) (hk : ps.sum ≤ k) : pbR ws k t ≤ sprR ws ps := by
  have h1 := weakL ht hl hw hp
  have h2 := Rat.mul_le_mul_of_nonneg_left hk (sq_nonneg t)
  unfold pbR
  grind
/-- the chance of a weight by a threshold -/
def bR (w t : Rat) : Rat := if w < t then w / t else 1
theorem strong1 {w t : Rat} (hw : 0 < w) (ht : 0 ≤ t) : sR w (bR w t) + t * t * bR w t = gR w t := by
  unfold sR bR gR
  split
  · have : t ≠ 0 := by grind
    have : w ≠ 0 := by grind
    grind
  · grind
theorem strongL {t : Rat} (ht : 0 ≤ t) : ∀ {ws : List Rat}, (∀ w ∈ ws, 0 < w) → sprR ws (ws.map fun w => bR w t) + t * t * (ws.map fun w => bR w t).sum = (ws.map fun w => gR w t).sum
  | [], _ => by show (0 : Rat) + t * t * 0 = 0; grind
  | w :: r, h => by
    have ih := strongL ht (ws := r) fun z hz => h z (by simp [hz])
    have h1 := strong1 (h w (by simp)) ht
    rw [List.map_cons, List.map_cons, List.sum_cons, List.sum_cons]
    show sR w (bR w t) + sprR r _ + _ = _
    grind
theorem bR_sum {t : Rat} (ht : 0 < t) : ∀ {ws : List Rat}, (ws.map fun w => bR w t).sum * t = cap t ws
  | [] => by show (0 : Rat) * t = 0; grind
  | w :: r => by
    have ih := bR_sum ht (ws := r)
    rw [List.map_cons, List.sum_cons]
    show _ = (if w < t then w else t) + cap t r
    unfold bR at *
    split <;> grind
theorem bR_one {ws : List Rat} (h : ∀ w ∈ ws, 0 < w) : (ws.map fun w => bR w 0) = ws.map fun _ => 1 := List.map_congr_left fun w hw => by
  have := h w hw
  unfold bR
  rw [if_neg (by grind)]
theorem sum_ones : ∀ ws : List Rat, (ws.map fun _ => (1 : Rat)).sum = (ws.length : Rat)
  | [] => by show (0 : Rat) = ((0 : Nat) : Rat); grind
  | w :: r => by
    rw [List.map_cons, List.sum_cons, sum_ones r, List.length_cons]
    have e : ((r.length + 1 : Nat) : Rat) = (r.length : Rat) + 1 := by exact_mod_cast rfl
    rw [e]; grind
/-- the sum of the best chances -/
theorem best_sum {ws : List Rat} {k : Nat} {t : Rat} (hw : ∀ w ∈ ws, 0 < w) (h : Thr ws k t) : (ws.map fun w => bR w t).sum = ((min k ws.length : Nat) : Rat) := by
  by_cases hk : k < ws.length
  · obtain ⟨ht, e⟩ := h.big hk
    have h1 := bR_sum ht (ws := ws)
    rw [e] at h1
    have : t ≠ 0 := by grind
    have e2 : min k ws.length = k := by omega
    rw [e2]
    grind
  · rw [h.small (by omega), bR_one hw, sum_ones]
    have e2 : min k ws.length = ws.length := by omega
    rw [e2]
theorem best_eq {ws : List Rat} {k : Nat} {t : Rat} (hw : ∀ w ∈ ws, 0 < w) (h : Thr ws k t) : sprR ws (ws.map fun w => bR w t) = pbR ws (k : Rat) t := by
  have h1 := strongL (thr_nonneg h) hw
  unfold pbR
  by_cases hk : k < ws.length
  · have h2 := best_sum hw h
    have e2 : min k ws.length = k := by omega
    rw [e2] at h2
    rw [h2] at h1
    grind
  · have h0 := h.small (by omega)
    rw [h0] at h1 ⊢
    grind
theorem bR_pos {w t : Rat} (hw : 0 < w) (ht : 0 ≤ t) : 0 < bR w t ∧ bR w t ≤ 1 := by
  unfold bR
  split
  · rename_i h
    have ht2 : 0 < t := by grind
    have h1 : 0 < t⁻¹ := Rat.inv_pos.mpr ht2
    rw [Rat.div_def]
    refine ⟨Rat.mul_pos hw h1, ?_⟩
    have := Rat.mul_lt_mul_of_pos_right h h1
    rw [Rat.mul_inv_cancel _ (by grind)] at this
    grind
  · exact ⟨by grind, by grind⟩

def trm (w : Int) (c : Fr) : Fr := ftimes (w * w, 1) (fminus (fover (1, 1) c) (1, 1))
structure ChB (c : Fr) : Prop where
  q : 1 ≤ c.2
  p : 0 < c.1
  B : FrB 90 c
theorem rv_over1 {c : Fr} (h : c.1 ≠ 0) (h2 : c.2 ≠ 0) : rv (fover (1, 1) c) = 1 / rv c := by
  unfold fover
  rw [rv_lo (show (1 : Int) * c.1 ≠ 0 by omega)]
  have e1 : ((1 * c.2 : Int) : Rat) = (c.2 : Rat) := by rw [Int.one_mul]
  have e2 : ((1 * c.1 : Int) : Rat) = (c.1 : Rat) := by rw [Int.one_mul]
  show (((1 * c.2 : Int)) : Rat) / ((1 * c.1 : Int) : Rat) = _
  rw [e1, e2]
  unfold rv
  have := ratNe h
  have := ratNe h2
  grind
theorem over1_B {n : Nat} {c : Fr} (h : c.1 ≠ 0) (hB : FrB n c) : FrB n (fover (1, 1) c) := by
  unfold fover
  exact lo_B (show (1 : Int) * c.1 ≠ 0 by omega) (by show ((1 : Int) * c.2).natAbs < _; rw [Int.one_mul]; exact hB.2) (by show ((1 : Int) * c.1).natAbs < _; rw [Int.one_mul]; exact hB.1)
theorem fminus_low {f g : Fr} (h1 : f.2 ≠ 0) (h2 : g.2 ≠ 0) : Low (fminus f g) := lo_low (Int.mul_ne_zero h1 h2)
theorem ftimes_low {f g : Fr} (h1 : f.2 ≠ 0) (h2 : g.2 ≠ 0) : Low (ftimes f g) := lo_low (Int.mul_ne_zero h1 h2)
theorem over1_pos {c : Fr} (h : c.1 ≠ 0) : (fover (1, 1) c).2 ≠ 0 := (show Low (fover (1, 1) c) from lo_low (show (1 : Int) * c.1 ≠ 0 by omega)).ne
theorem sq_B {w : Int} (h0 : 1 ≤ w) (h1 : w ≤ 1000) : FrB 20 (w * w, 1) := by
  have hw : w.natAbs < 2 ^ 10 := by omega
  exact ⟨mul_B hw hw, show (1 : Nat) < 2 ^ 20 by decide⟩
theorem trm_ok {w : Int} {c : Fr} (h0 : 1 ≤ w) (h1 : w ≤ 1000) (hc : ChB c) : FrB 112 (trm w c) ∧ Low (trm w c) ∧ rv (trm w c) = sR (w : Rat) (rv c) := by
  have a1 : c.1 ≠ 0 := by have := hc.p; omega
  have a2 : c.2 ≠ 0 := by have := hc.q; omega
  have b1 := over1_B a1 hc.B
  have b2 := over1_pos a1
  have b3 := fminus_B b1 (show FrB 1 (1, 1) from ⟨by decide, by decide⟩) b2 (show ((1 : Int)) ≠ 0 by decide)
  have b4 : (fminus (fover (1, 1) c) (1, 1)).2 ≠ 0 := (fminus_low b2 (show ((1 : Int)) ≠ 0 by decide)).ne
  have b5 := ftimes_B (sq_B h0 h1) b3 (show ((1 : Int)) ≠ 0 by decide) b4
  refine ⟨b5, lo_low (Int.mul_ne_zero (show ((1 : Int)) ≠ 0 by decide) b4), ?_⟩
  unfold trm sR
  rw [rv_ftimes (show ((1 : Int)) ≠ 0 by decide) b4, rv_fminus b2 (show ((1 : Int)) ≠ 0 by decide), rv_over1 a1 a2, rv_one, rv_int]
  have e : ((w * w : Int) : Rat) = (w : Rat) * (w : Rat) := by exact_mod_cast rfl
  rw [e]
def trms (ws : List Int) (cs : List Fr) : List Fr := (ws.zip cs).map fun x => trm x.1 x.2
theorem trms_rv : ∀ {ws : List Int} {cs : List Fr}, ws.length = cs.length → Ws ws → (∀ c ∈ cs, ChB c) → ((trms ws cs).map rv).sum = sprR (ratW ws) (cs.map rv)
  | [], [], _, _, _ => rfl
  | [], _ :: _, h, _, _ => by cases h
  | _ :: _, [], h, _, _ => by cases h
  | w :: r, c :: s, h, hw, hc => by
    have ih := trms_rv (ws := r) (cs := s) (by simpa using h) (fun z hz => hw z (by simp [hz])) fun z hz => hc z (by simp [hz])
    have h1 := trm_ok (hw w (by simp)).1 (hw w (by simp)).2 (hc c (by simp))
    show rv (trm w c) + ((trms r s).map rv).sum = sR (w : Rat) (rv c) + sprR (ratW r) (s.map rv)
    rw [ih, h1.2.2]
def spSpread (K : PySem.W.Frag) : Sp := fun vs H Q _ => ∃ (a b : Addr) (bs : List Addr) (ws : List Int) (cs : List Fr), vs = [.ref a, .ref b] ∧ SqL K H a (ws.map V.int) ∧ SqL K H b (bs.map V.ref) ∧ FrsAt K H bs cs ∧ ws.length = cs.length ∧ ws.length ≤ 6 ∧ Ws ws ∧ (∀ c ∈ cs, ChB c) ∧ ∀ H' d f, Kp [] H H' → FrAt K H' d f → Low f → FrB 1200 f → rv f = sprR (ratW ws) (cs.map rv) → Q (.ref d) H'
theorem ok_spread {P : Program} {w : World} {K : PySem.W.Frag} {mg : Str → Option Value} {base : Heap} (T : T P K mg) : FnOk P w K mg base CX0 6 T.a_spread T.fd_spread ["weights", "chances"] (spSpread K) := by
  refine T.F_spread.ok sc_spread (fun vs H Q E h => ?_) (fun cdv A outer s H vs Q E hr h => ?_)
  · obtain ⟨a, b, bs, ws, cs, rfl, _⟩ := h
    rfl
  · obtain ⟨a, b, bs, ws, cs, rfl, hS, hT, hF, hl, h6, hW, hC, q⟩ := h
    refine ⟨_, (pss_cons (ps_set (i := 2) sc_spread.nd rfl (by first | exact Or.inl rfl | exact Or.inr rfl) (pe_lst pa_nil))
      (pss_cons (ps_for PassesOwn.never rfl (pi_zip (by rfl) T.z_zip (pa_cons (pv 0) (pa_cons (pv 1) pa_nil))) (pg_tup rfl (pgs_cons (pg_name (i := 3) sc_spread.nd rfl (by first | exact Or.inl rfl | exact Or.inr rfl)) (pgs_cons (pg_name (i := 4) sc_spread.nd rfl (by first | exact Or.inl rfl | exact Or.inr rfl)) pgs_nil))) (pss_one (ps_expr (pe_bm PySem.F.plainAttrs_list PySem.F.slot_list_append PySem.F.type_list_append mt_append (pv 2) (pa_cons (pe_call (ok_times T) (hr.mono (by decide)) (by rfl) T.g_times T.F_times.kp T.b_times .nil pass0 (pa_cons (pe_tup (pa_cons (pe_op op_mulW (pv 3) (pv 3)) (pa_cons pe_int pa_nil))) (pa_cons (pe_call (ok_minus T) (hr.mono (by decide)) (by rfl) T.g_minus T.F_minus.kp T.b_minus .nil pass0 (pa_cons (pe_call (ok_over T) (hr.mono (by decide)) (by rfl) T.g_over T.F_over.kp T.b_over .nil passL (pa_cons (pe_glob (v := .ref T.k_ONE) (by rfl) T.g_ONE rfl) (pa_cons (pv 4) pa_nil))) (pa_cons (pe_glob (v := .ref T.k_ONE) (by rfl) T.g_ONE rfl) pa_nil))) pa_nil))) pa_nil)))))
      (pss_one (ps_ret (pe_call (ok_sum_of T) (hr.mono (by decide)) (by rfl) T.g_sum_of T.F_sum_of.kp T.b_sum_of .nil pass0 (pa_cons (pv 2) pa_nil)))))), ?_⟩
    walk_at "z0"
    walk_at "z"
    refine Z.lstK (fun D H1 nD k1 e1 => ?_)
    walk_at "z"
    refine Z.forz (ws.map V.int) (bs.map V.ref) (by rw [List.length_map, List.length_map, hF.len]; exact hl) (k1.seq nin0 hS) (k1.seq nin0 hT) (fun i σ' H' => ∃ y3 y4 ds, σ' = [some (.ref a), some (.ref b), some (.ref D), y3, y4] ∧ Kp [] H H' ∧ H' D = some (.lst (ds.map V.ref)) ∧ FrsAt K H' ds ((trms ws cs).take i)) ⟨_, _, [], rfl, k1, e1, .nil⟩ ?_ ?_ ?_
    · rintro i σ' H2 hi ⟨y3, y4, ds, rfl, k2, e2, F2⟩
      exact ⟨k2.seq nin0 hS, k2.seq nin0 hT⟩
    · rintro i v1 v2 σ' H2 H3 t hv1 hv2 ⟨y3, y4, ds, rfl, k2, e2, F2⟩ nt k3 e3
      obtain ⟨w, hw, rfl⟩ := int_at hv1
      obtain ⟨x, c, rfl, hc, hx⟩ := (hF.kp0 k2).get hv2
      have hwW := hW w (List.mem_of_getElem? hw)
      have hcC := hC c (List.mem_of_getElem? hc)
      have hi : i < ws.length := (List.getElem?_eq_some_iff.mp hw).1
      have hz : (trms ws cs)[i]? = some (trm w c) := by
        unfold trms
        rw [List.getElem?_map, (List.getElem?_zip_eq_some (z := (w, c))).mpr ⟨hw, hc⟩]
        rfl
      have hwB : w.natAbs < 2 ^ 10 := by omega
      have a1 : c.1 ≠ 0 := by have := hcC.p; omega
      refine Z.gtup (tupT e3) rfl ?_
      walk_at "z"
      refine ⟨Z.tyL (k3.get nin0 e2), ?_⟩
      walk_at "z"
      refine Z.iC (mul_ok (n := 10) hwB hwB) ?_
      walk_at "z"
      refine Z.tupK (fun u H4 nu k4 e4 => ?_)
      walk_at "z"
      have B1 : FrB 3900 (1, 1) := (show FrB 1 (1, 1) from ⟨by decide, by decide⟩).mono (by decide)
      refine ⟨T.k_ONE, x, (1, 1), c, rfl, T.q_ONE _, (hx.kp0 k3).kp0 k4, show ((1 : Int)) ≠ 0 by decide, B1, hcC.B.mono (by decide), fun z => absurd z a1, fun _ H5 y ny k5 e5 => ?_⟩
      walk_at "z"
      have b1 := over1_B a1 hcC.B
      have b2 := over1_pos a1
      refine ⟨y, T.k_ONE, _, (1, 1), rfl, e5, T.q_ONE _, b2, show ((1 : Int)) ≠ 0 by decide, b1.mono (by decide), B1, fun H6 z nz k6 e6 => ?_⟩
      walk_at "z"
      have b3 := fminus_B b1 (show FrB 1 (1, 1) from ⟨by decide, by decide⟩) b2 (show ((1 : Int)) ≠ 0 by decide)
      have b4 := (fminus_low b2 (show ((1, 1) : Fr).2 ≠ 0 by decide)).ne
      refine ⟨u, z, (w * w, 1), _, rfl, FrAt.kp0 (FrAt.kp0 (tupT e4) k5) k6, e6, show ((1 : Int)) ≠ 0 by decide, b4, (sq_B hwW.1 hwW.2).mono (by decide), b3.mono (by decide), fun H7 v nv k7 e7 => ?_⟩
      have k37 := k3.trans (k4.trans (k5.trans (k6.trans k7)))
      have e7D := k37.get nin0 e2
      walk_at "z"
      refine Z.app e7D (Z.szl (m := 100000) (by rw [List.length_map, F2.len, List.length_take]; omega)) ?_
      refine ⟨_, _, ds ++ [v], rfl, (k2.trans k37).mut nD rfl, by rw [upd_same, List.map_append]; rfl, ?_⟩
      rw [List.take_add_one, hz]
      exact ((F2.kp0 k37).snoc e7).kpl (Kp.put (by simp)) e7D
    · rintro σ' H2 ⟨y3, y4, ds, rfl, k2, e2, F2⟩
      rw [List.length_map] at F2
      have hzl : (trms ws cs).length = ws.length := by unfold trms; rw [List.length_map, List.length_zip]; omega
      rw [← hzl, List.take_length] at F2
      have hall : ∀ f ∈ trms ws cs, FrB 112 f ∧ f.2 ≠ 0 := fun f hf => by
        unfold trms at hf
        obtain ⟨⟨w, c⟩, hx, rfl⟩ := List.mem_map.mp hf
        have hx2 := List.of_mem_zip hx
        have h1 := trm_ok (hW w hx2.1).1 (hW w hx2.1).2 (hC c hx2.2)
        exact ⟨h1.1, h1.2.1.ne⟩
      walk_at "z"
      refine ⟨D, ds, trms ws cs, rfl, lstL e2, F2, fun f hf => ⟨(hall f hf).1.mono (by decide), (hall f hf).2⟩, by omega, fun H3 c k3 e3 => ?_⟩
      have hB1 := fsum_B (fs := trms ws cs) (t := (0, 1)) (n := 1) (m := 112) ⟨by decide, by decide⟩ (by decide) hall
      have hs := rv_fsum (fs := trms ws cs) low_zero fun f hf => (hall f hf).2
      refine q H3 c _ (k2.trans k3) e3 hs.2 (hB1.1.mono ?_) ?_
      · have := Nat.mul_le_mul_right (112 + 1) (show (trms ws cs).length ≤ 6 by omega)
        omega
      · rw [hs.1, rv_zero, trms_rv hl hW hC]
        grind

structure PrB (p : Fr) : Prop where
  q : 1 ≤ p.2
  B : FrB 81 p
def tmP (w : Int) (p : Fr) : Fr := if fless (wI w) p = true then ftimes (wI w) (fminus (ftimes (2, 1) p) (wI w)) else ftimes p p
theorem wI2 (w : Int) : (wI w).2 ≠ 0 := show ((1 : Int)) ≠ 0 by decide
theorem two2 : ((2, 1) : Fr).2 ≠ 0 := show ((1 : Int)) ≠ 0 by decide
theorem twoB : FrB 2 (2, 1) := ⟨by decide, by decide⟩
theorem rv_two : rv (2, 1) = 2 := by unfold rv; grind
theorem tmP_ok {w : Int} {p : Fr} (h0 : 1 ≤ w) (h1 : w ≤ 1000) (hp : PrB p) : FrB 170 (tmP w p) ∧ Low (tmP w p) ∧ rv (tmP w p) = gR (w : Rat) (rv p) := by
  have hw := (wI_pos h0 h1).2.2
  have p2 : p.2 ≠ 0 := by have := hp.q; omega
  unfold tmP gR
  rw [fless_iff (wI_pos h0 h1).1 hp.q, rv_wI]
  have t2 := (ftimes_low two2 p2).ne
  have m2 := (fminus_low t2 (wI2 w)).ne
  by_cases h : (w : Rat) < rv p
  · rw [if_pos (by simp [h]), if_pos h]
    refine ⟨(ftimes_B hw (fminus_B (ftimes_B twoB hp.B two2 p2) hw t2 (wI2 w)) (wI2 w) m2).mono (by decide), ftimes_low (wI2 w) m2, ?_⟩
    rw [rv_ftimes (wI2 w) m2, rv_fminus t2 (wI2 w), rv_ftimes two2 p2, rv_two, rv_wI]
  · rw [if_neg (by simp [h]), if_neg h]
    refine ⟨(ftimes_B hp.B hp.B p2 p2).mono (by decide), ftimes_low p2 p2, ?_⟩
    rw [rv_ftimes p2 p2]
theorem tmP_rv {p : Fr} (hp : PrB p) : ∀ {ws : List Int}, Ws ws → ((ws.map fun w => tmP w p).map rv).sum = ((ratW ws).map fun w => gR w (rv p)).sum
  | [], _ => rfl
  | w :: r, hw => by
    have ih := tmP_rv hp (ws := r) fun z hz => hw z (by simp [hz])
    have h1 := tmP_ok (hw w (by simp)).1 (hw w (by simp)).2 hp
    show rv (tmP w p) + ((r.map fun w => tmP w p).map rv).sum = gR (w : Rat) (rv p) + ((ratW r).map fun w => gR w (rv p)).sum
    rw [ih, h1.2.2]
theorem rv_nat (n : Nat) : rv ((n : Int), 1) = (n : Rat) := by
  rw [rv_int]
  exact_mod_cast rfl
def spPB (K : PySem.W.Frag) : Sp := fun vs H Q _ => ∃ (a b : Addr) (ws : List Int) (size : Nat) (p : Fr), vs = [.ref a, .int (size : Int), .ref b] ∧ SqL K H a (ws.map V.int) ∧ ws.length ≤ 6 ∧ Ws ws ∧ size ≤ 12 ∧ FrAt K H b p ∧ PrB p ∧ ∀ H' d f, Kp [] H H' → FrAt K H' d f → Low f → FrB 1300 f → rv f = pbR (ratW ws) (size : Rat) (rv p) → Q (.ref d) H'
theorem ok_price_bound {P : Program} {w : World} {K : PySem.W.Frag} {mg : Str → Option Value} {base : Heap} (T : T P K mg) : FnOk P w K mg base CX0 6 T.a_price_bound T.fd_price_bound ["weights", "size", "price"] (spPB K) := by
  refine T.F_price_bound.ok sc_price_bound (fun vs H Q E h => ?_) (fun cdv A outer s H vs Q E hr h => ?_)
  · obtain ⟨a, b, ws, size, p, rfl, _⟩ := h
    rfl
  · obtain ⟨a, b, ws, size, p, rfl, hS, h6, hW, hs, hp, hP, q⟩ := h
    have p2 : p.2 ≠ 0 := by have := hP.q; omega
    refine ⟨_, (pss_cons (ps_set (i := 3) sc_price_bound.nd rfl (by first | exact Or.inl rfl | exact Or.inr rfl) (pe_call (ok_times T) (hr.mono (by decide)) (by rfl) T.g_times T.F_times.kp T.b_times .nil pass0 (pa_cons (pv 2) (pa_cons (pv 2) pa_nil))))
      (pss_cons (ps_set (i := 4) sc_price_bound.nd rfl (by first | exact Or.inl rfl | exact Or.inr rfl) (pe_lst pa_nil))
      (pss_cons (ps_for PassesOwn.never rfl (pi_list (pe_call (ok_as_fractions T) (hr.mono (by decide)) (by rfl) T.g_as_fractions T.F_as_fractions.kp T.b_as_fractions .nil pass0 (pa_cons (pv 0) pa_nil))) (pg_name (i := 5) sc_price_bound.nd rfl (by first | exact Or.inl rfl | exact Or.inr rfl)) (pss_one (ps_if (pt_val (pe_call (ok_less T) (hr.mono (by decide)) (by rfl) T.g_less T.F_less.kp T.b_less .nil pass0 (pa_cons (pv 5) (pa_cons (pv 2) pa_nil)))) (pss_one (ps_expr (pe_bm PySem.F.plainAttrs_list PySem.F.slot_list_append PySem.F.type_list_append mt_append (pv 4) (pa_cons (pe_call (ok_times T) (hr.mono (by decide)) (by rfl) T.g_times T.F_times.kp T.b_times .nil pass0 (pa_cons (pv 5) (pa_cons (pe_call (ok_minus T) (hr.mono (by decide)) (by rfl) T.g_minus T.F_minus.kp T.b_minus .nil pass0 (pa_cons (pe_call (ok_times T) (hr.mono (by decide)) (by rfl) T.g_times T.F_times.kp T.b_times .nil pass0 (pa_cons (pe_tup (pa_cons pe_int (pa_cons pe_int pa_nil))) (pa_cons (pv 2) pa_nil))) (pa_cons (pv 5) pa_nil))) pa_nil))) pa_nil)))) (pss_one (ps_expr (pe_bm PySem.F.plainAttrs_list PySem.F.slot_list_append PySem.F.type_list_append mt_append (pv 4) (pa_cons (pv 3) pa_nil)))))))
      (pss_one (ps_ret (pe_call (ok_minus T) (hr.mono (by decide)) (by rfl) T.g_minus T.F_minus.kp T.b_minus .nil pass0 (pa_cons (pe_call (ok_sum_of T) (hr.mono (by decide)) (by rfl) T.g_sum_of T.F_sum_of.kp T.b_sum_of .nil pass0 (pa_cons (pv 4) pa_nil)) (pa_cons (pe_call (ok_times T) (hr.mono (by decide)) (by rfl) T.g_times T.F_times.kp T.b_times .nil pass0 (pa_cons (pe_tup (pa_cons (pv 1) (pa_cons pe_int pa_nil))) (pa_cons (pv 3) pa_nil))) pa_nil)))))))), ?_⟩
    walk_at "z0"
    walk_at "z"
    refine ⟨b, b, p, p, rfl, hp, hp, p2, p2, hP.B.mono (by decide), hP.B.mono (by decide), fun H1 sq nsq k1 e1 => ?_⟩
    walk_at "z"
    refine Z.lstK (fun D H2 nD k2 e2 => ?_)
    walk_at "z"
    refine ⟨a, ws, rfl, (k1.trans k2).seq nin0 hS, by omega, fun H3 l as nl k3 e3 F3 => ?_⟩
    have k13 := (k1.trans k2).trans k3
    have e1s := (FrAt.kp0 e1 k2).kp0 k3
    have p3 := hp.kp0 k13
    have e3D := k3.get nin0 e2
    have nDl : D ≠ l := fun z => by rw [← z, e2] at nl; cases nl
    have hall : ∀ f ∈ ws.map (fun w => tmP w p), FrB 170 f ∧ f.2 ≠ 0 := fun f hf => by
      obtain ⟨w, hw, rfl⟩ := List.mem_map.mp hf
      have h1 := tmP_ok (hW w hw).1 (hW w hw).2 hP
      exact ⟨h1.1, h1.2.1.ne⟩
    refine Z.forl (as.map V.ref) (lstL e3) (fun i σ' H' => ∃ y5 ds, σ' = [some (.ref a), some (.int (size : Int)), some (.ref b), some (.ref sq), some (.ref D), y5] ∧ Kp [D] H3 H' ∧ H' D = some (.lst (ds.map V.ref)) ∧ FrsAt K H' ds ((ws.take i).map fun w => tmP w p)) ⟨_, [], rfl, Kp.refl _, e3D, .nil⟩ ?_ ?_ ?_
    · rintro i σ' H4 hi ⟨y5, ds, rfl, k4, e4, F4⟩
      exact lstL (k4.get (nin1 nDl.symm) e3)
    · rintro i v σ' H4 hv ⟨y5, ds, rfl, k4, e4, F4⟩
      have F34 := F3.kpl k4 e3D
      obtain ⟨x, f, rfl, hf, hx⟩ := F34.get hv
      rw [List.getElem?_map] at hf
      cases hy : ws[i]? with
      | none => rw [hy] at hf; cases hf
      | some w =>
        rw [hy] at hf
        obtain rfl := Option.some.inj hf
        have hi : i < ws.length := (List.getElem?_eq_some_iff.mp hy).1
        have hwW := hW w (List.mem_of_getElem? hy)
        have hwP := wI_pos hwW.1 hwW.2
        have p4 := p3.kpl k4 e3D
        have s4 := e1s.kpl k4 e3D
        walk_at "z"
        refine ⟨x, b, wI w, p, rfl, hx, p4, hwP.2.2.mono (by decide), hP.B.mono (by decide), ?_⟩
        cases hfl : fless (wI w) p with
        | true =>
          have et : tmP w p = ftimes (wI w) (fminus (ftimes (2, 1) p) (wI w)) := by unfold tmP; rw [if_pos hfl]
          have t2 := (ftimes_low two2 p2).ne
          have m2 := (fminus_low t2 (wI2 w)).ne
          have bt := ftimes_B twoB hP.B two2 p2
          have bm := fminus_B bt hwP.2.2 t2 (wI2 w)
          walk_at "z"
          refine ⟨Z.tyL e4, ?_⟩
          walk_at "z"
          refine Z.tupK (fun u H5 nu k5 e5 => ?_)
          walk_at "z"
          refine ⟨u, b, (2, 1), p, rfl, tupT e5, p4.kp0 k5, two2, p2, twoB.mono (by decide), hP.B.mono (by decide), fun H6 y ny k6 e6 => ?_⟩
          walk_at "z"
          refine ⟨y, x, _, wI w, rfl, e6, (hx.kp0 k5).kp0 k6, t2, wI2 w, bt.mono (by decide), hwP.2.2.mono (by decide), fun H7 z nz k7 e7 => ?_⟩
          walk_at "z"
          refine ⟨x, z, wI w, _, rfl, ((hx.kp0 k5).kp0 k6).kp0 k7, e7, wI2 w, m2, hwP.2.2.mono (by decide), bm.mono (by decide), fun H8 v nv k8 e8 => ?_⟩
          have k58 := k5.trans (k6.trans (k7.trans k8))
          have e8D := k58.get nin0 e4
          walk_at "z"
          refine Z.app e8D (Z.szl (m := 100000) (by rw [List.length_map, F4.len, List.length_map, List.length_take]; omega)) ?_
          refine ⟨_, ds ++ [v], rfl, (k4.trans (k58.sub (by simp))).trans (Kp.put (by simp)), by rw [upd_same, List.map_append]; rfl, ?_⟩
          rw [List.take_add_one, hy, List.map_append]
          refine ((F4.kp0 k58).snoc (f := tmP w p) ?_).kpl (Kp.put (by simp)) e8D
          rw [et]
          exact e8
        | false =>
          have et : tmP w p = ftimes p p := by unfold tmP; rw [hfl, if_neg Bool.false_ne_true]
          walk_at "z"
          refine ⟨Z.tyL e4, ?_⟩
          walk_at "z"
          refine Z.app e4 (Z.szl (m := 100000) (by rw [List.length_map, F4.len, List.length_map, List.length_take]; omega)) ?_
          refine ⟨_, ds ++ [sq], rfl, k4.trans (Kp.put (by simp)), by rw [upd_same, List.map_append]; rfl, ?_⟩
          rw [List.take_add_one, hy, List.map_append]
          refine (F4.snoc (f := tmP w p) ?_).kpl (Kp.put (by simp)) e4
          rw [et]
          exact s4
    · rintro σ' H4 ⟨y5, ds, rfl, k4, e4, F4⟩
      rw [List.length_map, F3.len, List.length_map, List.take_length] at F4
      have s4 := e1s.kpl k4 e3D
      walk_at "z"
      refine ⟨D, ds, ws.map fun w => tmP w p, rfl, lstL e4, F4, hall, by rw [List.length_map]; omega, fun H5 c k5 e5 => ?_⟩
      have hB1 := fsum_B (fs := ws.map fun w => tmP w p) (t := (0, 1)) (n := 1) (m := 170) ⟨by decide, by decide⟩ (by decide) hall
      have hB2 : FrB 1027 (fsum (0, 1) (ws.map fun w => tmP w p)) := hB1.1.mono (by
        have := Nat.mul_le_mul_right (170 + 1) (show (ws.map fun w => tmP w p).length ≤ 6 by rw [List.length_map]; omega)
        omega)
      have hs9 := rv_fsum (fs := ws.map fun w => tmP w p) low_zero fun f hf => (hall f hf).2
      walk_at "z"
      refine Z.tupK (fun u H6 nu k6 e6 => ?_)
      walk_at "z"
      have sz2 : (((size : Int), 1) : Fr).2 ≠ 0 := show ((1 : Int)) ≠ 0 by decide
      have szB : FrB 10 ((size : Int), 1) := ⟨by show ((size : Int)).natAbs < 2 ^ 10; omega, by show (1 : Nat) < 2 ^ 10; decide⟩
      have sq2 := (ftimes_low p2 p2).ne
      have sqB := ftimes_B hP.B hP.B p2 p2
      refine ⟨u, sq, ((size : Int), 1), _, rfl, tupT e6, (s4.kp0 k5).kp0 k6, sz2, sq2, szB.mono (by decide), sqB.mono (by decide), fun H7 y ny k7 e7 => ?_⟩
      have t2 := (ftimes_low sz2 sq2).ne
      have tB := ftimes_B szB sqB sz2 sq2
      refine ⟨c, y, _, _, rfl, (FrAt.kp0 e5 k6).kp0 k7, e7, hs9.2.ne, t2, hB2.mono (by decide), tB.mono (by decide), fun H8 d nd k8 e8 => ?_⟩
      have k08 : Kp [] H H8 := ((k13.then1 k4 (k1.none nin0 nD)).trans (k5.trans k6)).trans (k7.trans k8)
      refine q H8 d _ k08 e8 (fminus_low hs9.2.ne t2) ((fminus_B hB2 tB hs9.2.ne t2).mono (by decide)) ?_
      rw [rv_fminus hs9.2.ne t2, hs9.1, rv_zero, tmP_rv hP hW, rv_ftimes sz2 sq2, rv_ftimes p2 p2, rv_nat]
      unfold pbR
      grind

/-! ### the law's own sums -/
theorem ge_iff {w : Int} {p : Fr} (h0 : 1 ≤ w) (h1 : w ≤ 1000) (hp : 1 ≤ p.2) : (p.1 ≤ w * p.2) ↔ ¬ (w : Rat) < rv p := by
  have h := fless_iff (wI_pos h0 h1).1 hp
  rw [rv_wI] at h
  unfold fless at h
  rw [decide_eq_decide] at h
  rw [← h]
  show p.1 ≤ w * p.2 ↔ ¬ w * p.2 < p.1 * 1
  rw [Int.mul_one]
  omega
def spLB (K : PySem.W.Frag) : Sp := fun vs H Q _ => ∃ (a b : Addr) (ws : List Int) (size : Nat) (p : Fr), vs = [.ref a, .int (size : Int), .ref b] ∧ SqL K H a (ws.map V.int) ∧ ws.length ≤ 6 ∧ Ws ws ∧ size ≤ 12 ∧ FrAt K H b p ∧ PrB p ∧ ∀ H' d f, Kp [] H H' → FrAt K H' d f → Low f → FrB 1300 f → rv f = pbR (ratW ws) (size : Rat) (rv p) → Q (.ref d) H'
theorem gsum_take {ws : List Int} {i : Nat} {w : Int} {t : Rat} (h : ws[i]? = some w) : ((ratW (ws.take (i + 1))).map fun w => gR w t).sum = ((ratW (ws.take i)).map fun w => gR w t).sum + gR (w : Rat) t := by
  unfold ratW
  rw [List.take_add_one, h, List.map_append, List.map_append, List.sum_append]
  show _ + (gR (w : Rat) t + 0) = _
  grind
theorem ok__law_bound {P : Program} {w : World} {K : PySem.W.Frag} {mg : Str → Option Value} {base : Heap} (T : T P K mg) : FnOk P w K mg base CX0 4 T.a__law_bound T.fd__law_bound ["weights", "size", "price"] (spLB K) := by
  refine T.F__law_bound.ok sc__law_bound (fun vs H Q E h => ?_) (fun cdv A outer s H vs Q E hr h => ?_)
  · obtain ⟨a, b, ws, size, p, rfl, _⟩ := h
    rfl
  · obtain ⟨a, b, ws, size, p, rfl, hS, h6, hW, hs, hp, hP, q⟩ := h
    have p1 := hP.q
    have p2 : p.2 ≠ 0 := by omega
    have one1 : (1 : Int) ≤ 1 := by decide
    have sqL := ftimes_low p2 p2
    have sqB : FrB 162 (ftimes p p) := ftimes_B hP.B hP.B p2 p2
    refine ⟨_, (pss_cons (ps_set (i := 3) sc__law_bound.nd rfl (by first | exact Or.inl rfl | exact Or.inr rfl) (pe_call (ok__law_times T) (hr.mono (by decide)) (by rfl) T.g__law_times T.F__law_times.kp T.b__law_times .nil pass0 (pa_cons (pe_tup (pa_cons (pe_op op_sub pe_int (pv 1)) (pa_cons pe_int pa_nil))) (pa_cons (pe_call (ok__law_times T) (hr.mono (by decide)) (by rfl) T.g__law_times T.F__law_times.kp T.b__law_times .nil pass0 (pa_cons (pv 2) (pa_cons (pv 2) pa_nil))) pa_nil))))
      (pss_cons (ps_for PassesOwn.never rfl (pi_list (pv 0)) (pg_name (i := 4) sc__law_bound.nd rfl (by first | exact Or.inl rfl | exact Or.inr rfl)) (pss_one (ps_if (pt_cmpR op_ge (pe_op op_mulW (pv 4) (pe_ix ix_tup (pv 2) pe_int (fun _ _ => rfl))) (pe_ix ix_tup (pv 2) pe_int (fun _ _ => rfl)) (nomark _)) (pss_one (ps_set (i := 3) sc__law_bound.nd rfl (by first | exact Or.inl rfl | exact Or.inr rfl) (pe_call (ok__law_plus T) (hr.mono (by decide)) (by rfl) T.g__law_plus T.F__law_plus.kp T.b__law_plus .nil pass0 (pa_cons (pv 3) (pa_cons (pe_call (ok__law_times T) (hr.mono (by decide)) (by rfl) T.g__law_times T.F__law_times.kp T.b__law_times .nil pass0 (pa_cons (pv 2) (pa_cons (pv 2) pa_nil))) pa_nil))))) (pss_one (ps_set (i := 3) sc__law_bound.nd rfl (by first | exact Or.inl rfl | exact Or.inr rfl) (pe_call (ok__law_plus T) (hr.mono (by decide)) (by rfl) T.g__law_plus T.F__law_plus.kp T.b__law_plus .nil pass0 (pa_cons (pv 3) (pa_cons (pe_call (ok__law_minus T) (hr.mono (by decide)) (by rfl) T.g__law_minus T.F__law_minus.kp T.b__law_minus .nil pass0 (pa_cons (pe_call (ok__law_times T) (hr.mono (by decide)) (by rfl) T.g__law_times T.F__law_times.kp T.b__law_times .nil pass0 (pa_cons (pe_tup (pa_cons (pe_op op_mul pe_int (pv 4)) (pa_cons pe_int pa_nil))) (pa_cons (pv 2) pa_nil))) (pa_cons (pe_tup (pa_cons (pe_op op_mulW (pv 4) (pv 4)) (pa_cons pe_int pa_nil))) pa_nil))) pa_nil))))))))
      (pss_one (ps_ret (pv 3))))), ?_⟩
    walk_at "z0"
    walk_at "z"
    refine Z.tupK (fun u H1 nu k1 e1 => ?_)
    walk_at "z"
    refine ⟨b, b, p, p, rfl, hp.kp0 k1, hp.kp0 k1, p1, p1, ⟨81, 81, hP.B, hP.B, by decide⟩, fun H2 y ny k2 e2 => ?_⟩
    walk_at "z"
    have szB : FrB 10 (0 - (size : Int), 1) := ⟨by show (0 - (size : Int)).natAbs < 2 ^ 10; omega, by show (1 : Nat) < 2 ^ 10; decide⟩
    have sz2 : ((0 - (size : Int), 1) : Fr).2 ≠ 0 := show ((1 : Int)) ≠ 0 by decide
    refine ⟨u, y, (0 - (size : Int), 1), _, rfl, FrAt.kp0 (tupT e1) k2, e2, one1, sqL.1, ⟨10, 162, szB, sqB, by decide⟩, fun H3 z nz k3 e3 => ?_⟩
    have s0L := ftimes_low sz2 sqL.ne
    have s0B : FrB 172 (ftimes (0 - (size : Int), 1) (ftimes p p)) := ftimes_B szB sqB sz2 sqL.ne
    have s0v : rv (ftimes (0 - (size : Int), 1) (ftimes p p)) = - ((size : Rat) * (rv p * rv p)) := by
      rw [rv_ftimes sz2 sqL.ne, rv_ftimes p2 p2, rv_int]
      have e : ((0 - (size : Int) : Int) : Rat) = - (size : Rat) := by
        have h1 : ((0 - (size : Int) : Int) : Rat) = (0 : Rat) - ((size : Int) : Rat) := by exact_mod_cast rfl
        have h2 : ((size : Int) : Rat) = (size : Rat) := by exact_mod_cast rfl
        rw [h1, h2]; grind
      rw [e]; grind
    have k03 := k1.trans (k2.trans k3)
    walk_at "z"
    refine Z.forl (ws.map V.int) (k03.seq nin0 hS) (fun i σ' H' => ∃ (x : Addr) (y4 : Option V) (f : Fr), σ' = [some (.ref a), some (.int (size : Int)), some (.ref b), some (.ref x), y4] ∧ Kp [] H H' ∧ FrAt K H' x f ∧ Low f ∧ FrB (172 + i * 163) f ∧ rv f = ((ratW (ws.take i)).map fun w => gR w (rv p)).sum - (size : Rat) * (rv p * rv p)) ⟨z, _, _, rfl, k03, e3, s0L, s0B, ?_⟩ ?_ ?_ ?_
    · rw [s0v]
      show _ = (0 : Rat) - _
      grind
    · rintro i σ' H4 hi ⟨x, y4, f, rfl, k4, ef, fL, fB, fv⟩
      exact k4.seq nin0 hS
    · rintro i v σ' H4 hv ⟨x, y4, f, rfl, k4, ef, fL, fB, fv⟩
      obtain ⟨w, hw, rfl⟩ := int_at hv
      have hi : i < ws.length := (List.getElem?_eq_some_iff.mp hw).1
      have hwW := hW w (List.mem_of_getElem? hw)
      have hwB : w.natAbs < 2 ^ 10 := by omega
      have p4 := hp.kp0 k4
      have hgs := gsum_take (t := rv p) hw
      walk_at "z"
      refine Z.ixT p4 (fr1 p) ?_
      walk_at "z"
      refine Z.iC (mul_ok (n := 81) (up_B hwB (by decide)) hP.B.2) ?_
      walk_at "z"
      refine Z.ixT p4 (fr0 p) ?_
      walk_at "z"
      refine Z.ite (fun h2 => ?_) (fun h2 => ?_)
      · have h3 := (ge_iff hwW.1 hwW.2 p1).mp h2
        walk_at "z"
        refine ⟨b, b, p, p, rfl, p4, p4, p1, p1, ⟨81, 81, hP.B, hP.B, by decide⟩, fun H5 y ny k5 e5 => ?_⟩
        walk_at "z"
        refine ⟨x, y, f, _, rfl, ef.kp0 k5, e5, fL.1, sqL.1, ⟨_, _, fB, sqB, by omega⟩, fun H6 z nz k6 e6 => ?_⟩
        walk_at "z"
        refine ⟨z, _, _, rfl, k4.trans (k5.trans k6), e6, fplus_low fL.ne sqL.ne, (fplus_B fB sqB fL.ne sqL.ne).mono (by omega), ?_⟩
        rw [rv_fplus fL.ne sqL.ne, fv, rv_ftimes p2 p2, hgs]
        unfold gR
        rw [if_neg h3]
        grind
      · have h3 : (w : Rat) < rv p := by
          refine Decidable.byContradiction fun z => ?_
          exact h2 ((ge_iff hwW.1 hwW.2 p1).mpr z)
        have b2 : FrB 11 (2 * w, 1) := ⟨by show (2 * w).natAbs < 2 ^ 11; omega, by show (1 : Nat) < 2 ^ 11; decide⟩
        have n2 : ((2 * w, 1) : Fr).2 ≠ 0 := show ((1 : Int)) ≠ 0 by decide
        have nw : ((w * w, 1) : Fr).2 ≠ 0 := show ((1 : Int)) ≠ 0 by decide
        have wwB := sq_B hwW.1 hwW.2
        have tL := ftimes_low n2 p2
        have tB : FrB 92 (ftimes (2 * w, 1) p) := ftimes_B b2 hP.B n2 p2
        have mL := fsub_low tL.ne nw
        have mB : FrB 113 (fsub (ftimes (2 * w, 1) p) (w * w, 1)) := fsub_B tB wwB tL.ne nw
        walk_at "z"
        refine Z.iC (.inl (by decide)) ?_
        walk_at "z"
        refine Z.tupK (fun u H5 nu k5 e5 => ?_)
        walk_at "z"
        refine ⟨u, b, (2 * w, 1), p, rfl, tupT e5, p4.kp0 k5, one1, p1, ⟨11, 81, b2, hP.B, by decide⟩, fun H6 y ny k6 e6 => ?_⟩
        walk_at "z"
        refine Z.iC (mul_ok (n := 10) hwB hwB) ?_
        walk_at "z"
        refine Z.tupK (fun u2 H7 nu2 k7 e7 => ?_)
        walk_at "z"
        refine ⟨y, u2, _, (w * w, 1), rfl, FrAt.kp0 e6 k7, tupT e7, tL.1, one1, ⟨92, 20, tB, wwB, by decide⟩, fun H8 z nz k8 e8 => ?_⟩
        walk_at "z"
        have k58 := k5.trans (k6.trans (k7.trans k8))
        refine ⟨x, z, f, _, rfl, ef.kp0 k58, e8, fL.1, mL.1, ⟨_, _, fB, mB, by omega⟩, fun H9 v nv k9 e9 => ?_⟩
        walk_at "z"
        refine ⟨v, _, _, rfl, (k4.trans k58).trans k9, e9, fplus_low fL.ne mL.ne, (fplus_B fB mB fL.ne mL.ne).mono (by omega), ?_⟩
        rw [rv_fplus fL.ne mL.ne, fv, rv_fsub tL.ne nw, rv_ftimes n2 p2, hgs, rv_int, rv_int]
        have e1 : ((2 * w : Int) : Rat) = 2 * (w : Rat) := by exact_mod_cast rfl
        have e2 : ((w * w : Int) : Rat) = (w : Rat) * (w : Rat) := by exact_mod_cast rfl
        rw [e1, e2]
        unfold gR
        rw [if_pos h3]
        grind
    · rintro σ' H4 ⟨x, y4, f, rfl, k4, ef, fL, fB, fv⟩
      rw [List.length_map] at fB fv
      rw [List.take_length] at fv
      walk_at "z"
      exact q H4 x f k4 ef fL (fB.mono (by omega)) (by rw [fv]; rfl)
def spLS (K : PySem.W.Frag) : Sp := fun vs H Q _ => ∃ (a b : Addr) (bs : List Addr) (ws : List Int) (cs : List Fr), vs = [.ref a, .ref b] ∧ SqL K H a (ws.map V.int) ∧ SqL K H b (bs.map V.ref) ∧ FrsAt K H bs cs ∧ ws.length = cs.length ∧ ws.length ≤ 6 ∧ Ws ws ∧ (∀ c ∈ cs, ChB c) ∧ ∀ H' d f, Kp [] H H' → FrAt K H' d f → Low f → FrB 1200 f → rv f = sprR (ratW ws) (cs.map rv) → Q (.ref d) H'
def trL (w : Int) (c : Fr) : Fr := lo (w * w * (c.2 - c.1)) c.1
theorem trL_ok {w : Int} {c : Fr} (h0 : 1 ≤ w) (h1 : w ≤ 1000) (hc : ChB c) : FrB 111 (trL w c) ∧ Low (trL w c) ∧ rv (trL w c) = sR (w : Rat) (rv c) := by
  have a1 : c.1 ≠ 0 := by have := hc.p; omega
  have a2 : c.2 ≠ 0 := by have := hc.q; omega
  have b1 := sub_B hc.B.2 hc.B.1
  have b2 := mul_B (sq_B h0 h1).1 b1
  refine ⟨lo_B a1 b2 (up_B hc.B.1 (by decide)), lo_low a1, ?_⟩
  unfold trL sR
  rw [rv_lo a1]
  have e : ((w * w * (c.2 - c.1) : Int) : Rat) = (w : Rat) * (w : Rat) * ((c.2 : Rat) - (c.1 : Rat)) := by exact_mod_cast rfl
  rw [e]
  unfold rv
  have := ratNe a1
  have := ratNe a2
  grind
theorem spr_take : ∀ {ws : List Int} {cs : List Fr} {i : Nat} {w : Int} {c : Fr}, ws[i]? = some w → cs[i]? = some c → sprR (ratW (ws.take (i + 1))) ((cs.take (i + 1)).map rv) = sprR (ratW (ws.take i)) ((cs.take i).map rv) + sR (w : Rat) (rv c)
  | [], _, i, w, c, h, _ => by simp at h
  | _ :: _, [], i, w, c, _, h => by simp at h
  | x :: r, d :: s, 0, w, c, h1, h2 => by
    obtain rfl := Option.some.inj h1
    obtain rfl := Option.some.inj h2
    show sR (x : Rat) (rv d) + sprR (ratW (r.take 0)) ((s.take 0).map rv) = sprR [] [] + _
    show sR (x : Rat) (rv d) + 0 = 0 + _
    grind
  | x :: r, d :: s, i + 1, w, c, h1, h2 => by
    have ih := spr_take (ws := r) (cs := s) (i := i) (w := w) (c := c) h1 h2
    show sR (x : Rat) (rv d) + sprR (ratW (r.take (i + 1))) ((s.take (i + 1)).map rv) = sR (x : Rat) (rv d) + sprR (ratW (r.take i)) ((s.take i).map rv) + _
    rw [ih]
    grind
theorem ok__law_spread {P : Program} {w : World} {K : PySem.W.Frag} {mg : Str → Option Value} {base : Heap} (T : T P K mg) : FnOk P w K mg base CX0 3 T.a__law_spread T.fd__law_spread ["weights", "chances"] (spLS K) := by
  refine T.F__law_spread.ok sc__law_spread (fun vs H Q E h => ?_) (fun cdv A outer s H vs Q E hr h => ?_)
  · obtain ⟨a, b, bs, ws, cs, rfl, _⟩ := h
    rfl
  · obtain ⟨a, b, bs, ws, cs, rfl, hS, hT, hF, hl, h6, hW, hC, q⟩ := h
    refine ⟨_, (pss_cons (ps_set (i := 2) sc__law_spread.nd rfl (by first | exact Or.inl rfl | exact Or.inr rfl) (pe_tup (pa_cons pe_int (pa_cons pe_int pa_nil))))
      (pss_cons (ps_for PassesOwn.never rfl (pi_range1 (by rfl) T.z_range (pa_cons (pe_callB c_len (by rfl) T.z_len (by decide +kernel) (pa_cons (pv 0) pa_nil)) pa_nil)) (pg_name (i := 3) sc__law_spread.nd rfl (by first | exact Or.inl rfl | exact Or.inr rfl)) (pss_cons (ps_asg (pe_ix ix_list (pv 1) (pv 3) (fun _ _ => rfl)) (pg_tup rfl (pgs_cons (pg_name (i := 4) sc__law_spread.nd rfl (by first | exact Or.inl rfl | exact Or.inr rfl)) (pgs_cons (pg_name (i := 5) sc__law_spread.nd rfl (by first | exact Or.inl rfl | exact Or.inr rfl)) pgs_nil))))
      (pss_one (ps_set (i := 2) sc__law_spread.nd rfl (by first | exact Or.inl rfl | exact Or.inr rfl) (pe_call (ok__law_plus T) (hr.mono (by decide)) (by rfl) T.g__law_plus T.F__law_plus.kp T.b__law_plus .nil pass0 (pa_cons (pv 2) (pa_cons (pe_call (ok__law_low T) (hr.mono (by decide)) (by rfl) T.g__law_low T.F__law_low.kp T.b__law_low .nil pass0 (pa_cons (pe_op op_mulW (pe_op op_mulW (pe_ix ix_list (pv 0) (pv 3) (fun _ _ => rfl)) (pe_ix ix_list (pv 0) (pv 3) (fun _ _ => rfl))) (pe_op op_sub (pv 5) (pv 4))) (pa_cons (pv 4) pa_nil))) pa_nil)))))))
      (pss_one (ps_ret (pv 2))))), ?_⟩
    walk_at "z0"
    walk_at "z"
    refine Z.tupK (fun u H1 nu k1 e1 => ?_)
    walk_at "z"
    refine Z.lenL (k1.seq nin0 hS) ?_
    rw [List.length_map]
    refine Z.forr ws.length rfl (by omega) (fun i σ' H' => ∃ (x : Addr) (y3 y4 y5 : Option V) (f : Fr), σ' = [some (.ref a), some (.ref b), some (.ref x), y3, y4, y5] ∧ Kp [] H H' ∧ FrAt K H' x f ∧ Low f ∧ FrB (1 + i * 112) f ∧ rv f = sprR (ratW (ws.take i)) ((cs.take i).map rv)) ⟨u, _, _, _, (0, 1), rfl, k1, tupT e1, low_zero, ⟨by decide, by decide⟩, rv_zero⟩ ?_ ?_
    · rintro i σ' H2 hi ⟨x, y3, y4, y5, f, rfl, k2, ef, fL, fB, fv⟩
      have hw : ws[i]? = some ws[i] := List.getElem?_eq_getElem hi
      have hc : cs[i]? = some (cs[i]'(by omega)) := List.getElem?_eq_getElem (by omega)
      revert hw hc
      generalize ws[i] = w
      generalize cs[i]'(by omega) = c
      intro hw hc
      have hwW := hW w (List.mem_of_getElem? hw)
      have hcC := hC c (List.mem_of_getElem? hc)
      have hwB : w.natAbs < 2 ^ 10 := by omega
      have hwi : (ws.map V.int)[i]? = some (.int w) := by rw [List.getElem?_map, hw]; rfl
      obtain ⟨xa, hxa⟩ : ∃ xa, bs[i]? = some xa := ⟨_, List.getElem?_eq_getElem (by have := hF.len; omega)⟩
      have hbi : (bs.map V.ref)[i]? = some (.ref xa) := by rw [List.getElem?_map, hxa]; rfl
      obtain ⟨x2, c2, e9, hc2, hx2⟩ := (hF.kp0 k2).get hbi
      cases e9
      rw [hc] at hc2
      obtain rfl := Option.some.inj hc2
      have t := trL_ok hwW.1 hwW.2 hcC
      walk_at "z"
      refine Z.ixL (k2.seq nin0 hT) (atI_nat hbi) ?_
      refine Z.gtup hx2 rfl ?_
      dsimp only [frV]
      walk_at "z"
      refine Z.ixL (k2.seq nin0 hS) (atI_nat hwi) ?_
      walk_at "z"
      refine Z.ixL (k2.seq nin0 hS) (atI_nat hwi) ?_
      refine Z.iC (mul_ok (n := 10) hwB hwB) ?_
      walk_at "z"
      refine Z.iC (mul_ok (n := 91) (up_B (sq_B hwW.1 hwW.2).1 (by decide)) (sub_B hcC.B.2 hcC.B.1)) ?_
      walk_at "z"
      refine ⟨_, c.1, rfl, by have := hcC.p; omega, up_B hcC.B.1 (by decide), fun H3 y ny k3 e3 => ?_⟩
      refine ⟨x, y, f, trL w c, rfl, ef.kp0 k3, e3, fL.1, t.2.1.1, ⟨_, _, fB, t.1, by omega⟩, fun H4 z nz k4 e4 => ?_⟩
      walk_at "z"
      refine ⟨z, _, _, _, _, rfl, k2.trans (k3.trans k4), e4, fplus_low fL.ne t.2.1.ne, (fplus_B fB t.1 fL.ne t.2.1.ne).mono (by omega), ?_⟩
      rw [rv_fplus fL.ne t.2.1.ne, fv, t.2.2, spr_take hw hc]
    · rintro σ' H2 ⟨x, y3, y4, y5, f, rfl, k2, ef, fL, fB, fv⟩
      rw [List.take_length] at fv
      have e9 : cs.take ws.length = cs := by rw [hl]; exact List.take_length
      rw [e9] at fv
      walk_at "z"
      exact q H2 x f k2 ef fL (fB.mono (by omega)) fv

def spLKept (K : PySem.W.Frag) : Sp := fun vs H Q _ => ∃ (a b : Addr) (ws : List Int) (g : Fr), vs = [.ref a, .ref b] ∧ SqL K H a (ws.map V.int) ∧ ws.length ≤ 6 ∧ Ws ws ∧ FrAt K H b g ∧ Low g ∧ 0 ≤ g.1 ∧ FrB 77 g ∧ ∀ H' l as, Kp [] H H' → H' l = some (.lst (as.map V.ref)) → FrsAt K H' as (ws.map fun w => chF (wI w) g) → Q (.ref l) H'
theorem fless_zero {w : Int} (h : 1 ≤ w) : fless (wI w) (0, 1) = false := decide_eq_false (show ¬ w * 1 < 0 * 1 by omega)
theorem ok__law_kept {P : Program} {w : World} {K : PySem.W.Frag} {mg : Str → Option Value} {base : Heap} (T : T P K mg) : FnOk P w K mg base CX0 2 T.a__law_kept T.fd__law_kept ["weights", "price"] (spLKept K) := by
  refine T.F__law_kept.ok sc__law_kept (fun vs H Q E h => ?_) (fun cdv A outer s H vs Q E hr h => ?_)
  · obtain ⟨a, b, ws, g, rfl, _⟩ := h
    rfl
  · obtain ⟨a, b, ws, g, rfl, hS, h6, hW, hg, gL, g0, gB, q⟩ := h
    refine ⟨_, (pss_cons (ps_set (i := 2) sc__law_kept.nd rfl (by first | exact Or.inl rfl | exact Or.inr rfl) (pe_lst pa_nil))
      (pss_cons (ps_for PassesOwn.never rfl (pi_list (pv 0)) (pg_name (i := 3) sc__law_kept.nd rfl (by first | exact Or.inl rfl | exact Or.inr rfl)) (pss_cons (ps_set (i := 4) sc__law_kept.nd rfl (by first | exact Or.inl rfl | exact Or.inr rfl) (pe_tup (pa_cons pe_int (pa_cons pe_int pa_nil))))
      (Z.pss_consJ (ps_if (PW.pt (pw_and (pt_cmpR (op_neD hr.units) (pv 1) (pe_tup (pa_cons pe_int (pa_cons pe_int pa_nil))) (nomark _)) (pw_and1 (pt_cmpR op_lt (pe_op op_mulW (pv 3) (pe_ix ix_tup (pv 1) pe_int (fun _ _ => rfl))) (pe_ix ix_tup (pv 1) pe_int (fun _ _ => rfl)) (nomark _))))) (pss_one (ps_set (i := 4) sc__law_kept.nd rfl (by first | exact Or.inl rfl | exact Or.inr rfl) (pe_call (ok__law_low T) (hr.mono (by decide)) (by rfl) T.g__law_low T.F__law_low.kp T.b__law_low .nil pass0 (pa_cons (pe_op op_mulW (pv 3) (pe_ix ix_tup (pv 1) pe_int (fun _ _ => rfl))) (pa_cons (pe_ix ix_tup (pv 1) pe_int (fun _ _ => rfl)) pa_nil))))) pss_nil)
      (pss_one (ps_expr (pe_bm PySem.F.plainAttrs_list PySem.F.slot_list_append PySem.F.type_list_append mt_append (pv 2) (pa_cons (pv 4) pa_nil)))))))
      (pss_one (ps_ret (pv 2))))), ?_⟩
    walk_at "z0"
    walk_at "z"
    refine Z.lstK (fun D H1 nD k1 e1 => ?_)
    walk_at "z"
    refine Z.forl (ws.map V.int) (k1.seq nin0 hS) (fun i σ' H' => ∃ y3 y4 ds, σ' = [some (.ref a), some (.ref b), some (.ref D), y3, y4] ∧ Kp [] H H' ∧ H' D = some (.lst (ds.map V.ref)) ∧ FrsAt K H' ds ((ws.take i).map fun w => chF (wI w) g)) ⟨_, _, [], rfl, k1, e1, .nil⟩ ?_ ?_ ?_
    · rintro i σ' H4 hi ⟨y3, y4, ds, rfl, k4, e4, F4⟩
      exact k4.seq nin0 hS
    · rintro i v σ' H2 hv ⟨y3, y4, ds, rfl, k2, e2, F2⟩
      obtain ⟨w, hw, rfl⟩ := int_at hv
      have hi : i < ws.length := (List.getElem?_eq_some_iff.mp hw).1
      have hwW := hW w (List.mem_of_getElem? hw)
      have hwB : w.natAbs < 2 ^ 10 := by omega
      walk_at "z"
      refine Z.tupK (fun u H3 nu k3 e3 => ?_)
      walk_at "z"
      refine Z.seqJ (fun σ' H' => ∃ x : Addr, σ' = [some (.ref a), some (.ref b), some (.ref D), some (.int w), some (.ref x)] ∧ Kp [] H2 H' ∧ FrAt K H' x (chF (wI w) g)) ?_ ?_
      · rintro σ' H4 ⟨x, rfl, k4, ex⟩
        have e4D := k4.get nin0 e2
        walk_at "z"
        refine ⟨Z.tyL e4D, ?_⟩
        walk_at "z"
        refine Z.app e4D (Z.szl (m := 100000) (by rw [List.length_map, F2.len, List.length_map, List.length_take]; omega)) ?_
        walk_at "z"
        refine ⟨_, _, ds ++ [x], rfl, (k2.trans k4).mut nD rfl, by rw [upd_same, List.map_append]; rfl, ?_⟩
        rw [List.take_add_one, hw, List.map_append]
        exact ((F2.kp0 k4).snoc ex).kpl (Kp.put (by simp)) e4D
      · intro N jn
        walk_at "z"
        refine Z.tupK (fun z H4 nz k4 e4 => ?_)
        have g4 := ((hg.kp0 k2).kp0 k3).kp0 k4
        refine neF (g := (0, 1)) g4 (tupT e4) ?_
        refine Z.bl' ?_
        refine Z.iteN (fun h0 => ?_) (fun h0 => ?_)
        · walk_at "z"
          refine Z.ixT g4 (fr1 g) ?_
          walk_at "z"
          refine Z.iC (mul_ok (n := 77) (up_B hwB (by decide)) gB.2) ?_
          walk_at "z"
          refine Z.ixT g4 (fr0 g) ?_
          walk_at "z"
          refine Z.ite (fun h2 => ?_) (fun h2 => ?_)
          · have hfl : fless (wI w) g = true := decide_eq_true (show w * g.2 < g.1 * 1 by omega)
            have hgp := fless_pos (wI_pos hwW.1 hwW.2).1 (wI_pos hwW.1 hwW.2).2.1 gL.1 hfl
            walk_at "z"
            refine Z.ixT g4 (fr1 g) ?_
            walk_at "z"
            refine Z.iC (mul_ok (n := 77) (up_B hwB (by decide)) gB.2) ?_
            walk_at "z"
            refine Z.ixT g4 (fr0 g) ?_
            walk_at "z"
            refine ⟨w * g.2, g.1, rfl, by omega, up_B gB.1 (by decide), fun H5 y ny k5 e5 => ?_⟩
            walk_at "z"
            refine jn _ _ ⟨y, rfl, (k3.trans k4).trans k5, ?_⟩
            unfold chF
            rw [if_pos hfl]
            unfold fover wI
            show FrAt K H5 y (lo (w * g.2) (1 * g.1))
            rw [Int.one_mul]
            exact e5
          · walk_at "z"
            refine jn _ _ ⟨u, rfl, k3.trans k4, ?_⟩
            unfold chF
            rw [if_neg]
            · exact FrAt.kp0 (tupT e3) k4
            · intro z
              have := of_decide_eq_true z
              have h5 : w * g.2 < g.1 * 1 := this
              omega
        · walk_at "z"
          refine jn _ _ ⟨u, rfl, k3.trans k4, ?_⟩
          rw [h0]
          unfold chF
          rw [fless_zero hwW.1, if_neg Bool.false_ne_true]
          exact FrAt.kp0 (tupT e3) k4
    · rintro σ' H2 ⟨y3, y4, ds, rfl, k2, e2, F2⟩
      rw [List.length_map, List.take_length] at F2
      walk_at "z"
      exact q H2 D ds k2 e2 F2
theorem lo_fst_pos {p q : Int} (hp : 0 < p) (hq : 1 ≤ q) : 0 < (lo p q).1 := by
  obtain ⟨a, b, e, _, _, h3, _⟩ := lo_spec (p := p) (q := q) (by omega)
  rw [e]
  rw [gI_pos hq] at h3
  have := gN_pos (p := p) (q := q) (by omega)
  refine Decidable.byContradiction fun z => ?_
  have h4 : (gN p q : Int) * a ≤ 0 := Int.mul_nonpos_of_nonneg_of_nonpos (by omega) (show a ≤ 0 by omega)
  omega
theorem div_le {a b W : Rat} (h : a ≤ b) (hW : 0 < W) : a / W ≤ b / W := div_mono h hW
/-- drawn chances -/
structure Chs (n k : Nat) (cs : List Fr) : Prop where
  len : cs.length = n
  ok : ∀ c ∈ cs, ChB c ∧ rv c ≤ 1
  sum : (cs.map rv).sum ≤ (k : Rat)
def spLCh (K : PySem.W.Frag) : Sp := fun vs H Q _ => ∃ (a : Addr) (n k : Nat), vs = [.ref a, .int (n : Int), .int (k : Int)] ∧ DrawsAt H a ∧ n ≤ 6 ∧ 1 ≤ k ∧ k ≤ 12 ∧ ∀ H' l as cs, H l = none → Kp [a] H H' → DrawsAt H' a → H' l = some (.lst (as.map V.ref)) → FrsAt K H' as cs → Chs n k cs → Q (.ref l) H'
theorem ok__law_chances {P : Program} {w : World} {K : PySem.W.Frag} {mg : Str → Option Value} {base : Heap} (T : T P K mg) : FnOk P w K mg base CX0 2 T.a__law_chances T.fd__law_chances ["row", "many", "size"] (spLCh K) := by
  refine T.F__law_chances.ok sc__law_chances (fun vs H Q E h => ?_) (fun cdv A outer s H vs Q E hr h => ?_)
  · obtain ⟨a, n, k, rfl, _⟩ := h
    rfl
  · obtain ⟨a, n, k, rfl, hd, hn, hk1, hk, q⟩ := h
    refine ⟨_, (pss_cons (ps_setLc (i := 3) (own := [("k", 8)]) (g := gName 8) rfl sc__law_chances.nd rfl rfl (sw_true rfl rfl rfl (by decide +kernel)) (pi_range1 (by rfl) T.z_range (pa_cons (pv 1) pa_nil)) (blkOk_by (own := [("k", 8)]) (N := N__law_chances) (sc := defScope s__law_chances) (by decide +kernel)) (fun _ _ _ _ _ => (pg_name (i := 8) sc__law_chances.nd rfl (by first | exact Or.inl rfl | exact Or.inr rfl))) (fun _ _ _ _ _ => pts_nil) (fun _ _ _ _ _ => (pe_op op_add pe_int (pe_call (ok__law_take T) (hr.mono (by decide)) (by rfl) T.g__law_take T.F__law_take.kp T.b__law_take .nil pass0 (pa_cons (pv 0) (pa_cons pe_int pa_nil))))))
      (pss_cons (ps_set (i := 4) sc__law_chances.nd rfl (by first | exact Or.inl rfl | exact Or.inr rfl) (pe_op op_add (pe_callB (call_max2 rfl) (by rfl) T.z_max (by decide +kernel) (pa_cons (pe_callB (cr_sum rfl) (by rfl) T.z_sum (by decide +kernel) (pa_cons (pv 3) pa_nil)) (pa_cons pe_int pa_nil))) (pe_call (ok__law_take T) (hr.mono (by decide)) (by rfl) T.g__law_take T.F__law_take.kp T.b__law_take .nil pass0 (pa_cons (pv 0) (pa_cons pe_int pa_nil)))))
      (pss_cons (ps_set (i := 5) sc__law_chances.nd rfl (by first | exact Or.inl rfl | exact Or.inr rfl) (pe_lst pa_nil))
      (pss_cons (ps_for PassesOwn.never rfl (pi_list (pv 3)) (pg_name (i := 6) sc__law_chances.nd rfl (by first | exact Or.inl rfl | exact Or.inr rfl)) (pss_cons (ps_set (i := 7) sc__law_chances.nd rfl (by first | exact Or.inl rfl | exact Or.inr rfl) (pe_call (ok__law_low T) (hr.mono (by decide)) (by rfl) T.g__law_low T.F__law_low.kp T.b__law_low .nil pass0 (pa_cons (pe_op op_mulW (pv 6) (pv 2)) (pa_cons (pv 4) pa_nil))))
      (Z.pss_consJ (ps_if (pt_cmpR op_gt (pe_ix ix_tup (pv 7) pe_int (fun _ _ => rfl)) (pe_ix ix_tup (pv 7) pe_int (fun _ _ => rfl)) (nomark _)) (pss_one (ps_set (i := 7) sc__law_chances.nd rfl (by first | exact Or.inl rfl | exact Or.inr rfl) (pe_tup (pa_cons pe_int (pa_cons pe_int pa_nil))))) pss_nil)
      (pss_one (ps_expr (pe_bm PySem.F.plainAttrs_list PySem.F.slot_list_append PySem.F.type_list_append mt_append (pv 5) (pa_cons (pv 7) pa_nil)))))))
      (pss_one (ps_ret (pv 5))))))), ?_⟩
    walk_at "z0"
    walk_at "z"
    refine Z.lcr n rfl (by omega) (fun D i H' => ∃ ns : List Int, Kp [a] H H' ∧ DrawsAt H' a ∧ H' D = some (.lst (ns.map V.int)) ∧ ns.length = i ∧ ∀ x ∈ ns, 1 ≤ x ∧ x ≤ 12) ?_ ?_ ?_
    · intro D H1 nD k1 e1
      exact ⟨[], k1.sub (by simp), hd.kp0 k1, e1, rfl, fun x hx => by cases hx⟩
    · rintro D i H1 nD hi ⟨ns, k1, d1, e1, hl, hb⟩
      have naD : a ≠ D := hd.ne nD
      dsimp only [wipe, List.set]
      walk_at "z"
      refine ⟨rfl, ?_⟩
      walk_at "z"
      refine ⟨a, 12, rfl, d1, by decide, by decide, fun H2 v h0 h1 k2 d2 => ?_⟩
      walk_at "z"
      have e2 := k2.get (nin1 naD.symm) e1
      refine ⟨_, e2, Z.szl (m := 1000) (by rw [List.length_map]; omega), ns ++ [1 + v], ((k1.trans k2).mut nD rfl), d2.put naD, by rw [upd_same, List.map_append]; rfl, by rw [List.length_append]; simp; omega, fun x hx => ?_⟩
      rcases List.mem_append.mp hx with hx | hx
      · exact hb x hx
      · rw [List.mem_singleton.mp hx]; omega
    · rintro D H1 nD ⟨ns, k1, d1, e1, hl, hb⟩
      walk_at "z"
      refine Z.sumL (lstL e1) ?_
      walk_at "z"
      refine ⟨_, _, rfl, ?_⟩
      have hsum0 : 0 ≤ ns.sum := sum_nonneg fun x hx => by have := (hb x hx).1; omega
      have hsum1 : ns.sum ≤ 72 := by
        have := sum_le (c := 12) (l := ns) fun x hx => (hb x hx).2
        omega
      walk_at "z"
      refine ⟨a, 6, rfl, d1, by decide, by decide, fun H2 e h0 h1 k2 d2 => ?_⟩
      have naD : a ≠ D := hd.ne nD
      have e2D := k2.get (nin1 naD.symm) e1
      have hWc : ∃ W : Int, (if (1 : Int) > ns.sum then (1 : Int) else ns.sum) + e = W ∧ 1 ≤ W ∧ ns.sum ≤ W ∧ W ≤ 100 := ⟨_, rfl, by split <;> omega, by split <;> omega, by split <;> omega⟩
      obtain ⟨W, hWe, hW1, hWs, hW2⟩ := hWc
      refine Z.i0 ?_
      rw [hWe]
      walk_at "z"
      refine Z.lstK (fun E' H3 nE k3 e3 => ?_)
      walk_at "z"
      have e3D := k3.get nin0 e2D
      have W0 : (0 : Rat) < (W : Rat) := ratPos (by omega)
      have Wn : (W : Rat) ≠ 0 := ratNe (by omega)
      refine Z.forl (ns.map V.int) (lstL e3D) (fun i σ' H' => ∃ y6 y7 ds cs, σ' = [some (.ref a), some (.int (n : Int)), some (.int (k : Int)), some (.ref D), some (.int W), some (.ref E'), y6, y7, none] ∧ Kp [] H2 H' ∧ H' E' = some (.lst (ds.map V.ref)) ∧ FrsAt K H' ds cs ∧ cs.length = i ∧ (∀ c ∈ cs, ChB c ∧ rv c ≤ 1) ∧ (cs.map rv).sum ≤ ((((ns.take i).sum : Int) : Rat) * (k : Rat)) / (W : Rat)) ⟨_, _, [], [], rfl, k3, e3, .nil, rfl, fun c hc => (by cases hc), ?_⟩ ?_ ?_ ?_
      · show (0 : Rat) ≤ ((0 : Int) : Rat) * (k : Rat) / (W : Rat)
        have : ((0 : Int) : Rat) * (k : Rat) / (W : Rat) = 0 := by grind
        rw [this]
        grind
      · rintro i σ' H4 hi ⟨y6, y7, ds, cs, rfl, k4, e4, F4, hc4, hok, hs4⟩
        exact lstL (k4.get nin0 e2D)
      · rintro i v σ' H4 hv ⟨y6, y7, ds, cs, rfl, k4, e4, F4, hc4, hok, hs4⟩
        obtain ⟨x, hx, rfl⟩ := int_at hv
        have hi : i < ns.length := (List.getElem?_eq_some_iff.mp hx).1
        have hxb := hb x (List.mem_of_getElem? hx)
        have hsx : (ns.take (i + 1)).sum = (ns.take i).sum + x := by
          rw [List.take_add_one, hx, List.sum_append]
          simp
        have hxk : (x * (k : Int)).natAbs < 2 ^ 8 := by
          have h1 : x * (k : Int) ≤ 12 * (k : Int) := Int.mul_le_mul_of_nonneg_right hxb.2 (by omega)
          have h2 : 0 ≤ x * (k : Int) := Int.mul_nonneg (by omega) (by omega)
          omega
        have hxp : 0 < x * (k : Int) := Int.mul_pos (by omega) (by omega)
        have hWB : W.natAbs < 2 ^ 8 := by omega
        have cL := lo_low (p := x * (k : Int)) (q := W) (by omega)
        have cB := lo_B (p := x * (k : Int)) (q := W) (by omega) hxk hWB
        have cP := lo_fst_pos hxp hW1
        have cv : rv (lo (x * (k : Int)) W) = (x : Rat) * (k : Rat) / (W : Rat) := by
          rw [rv_lo (by omega)]
          have e1 : ((x * (k : Int) : Int) : Rat) = (x : Rat) * ((k : Int) : Rat) := by exact_mod_cast rfl
          have e2 : ((k : Int) : Rat) = (k : Rat) := by exact_mod_cast rfl
          rw [e1, e2]
        walk_at "z"
        refine Z.iC (mul_ok (n := 8) (show x.natAbs < 2 ^ 8 by omega) (show ((k : Int)).natAbs < 2 ^ 8 by omega)) ?_
        walk_at "z"
        refine ⟨_, W, rfl, hW1, up_B hWB (by decide), fun H5 y ny k5 e5 => ?_⟩
        walk_at "z"
        refine Z.seqJ (fun σ' H' => ∃ (z : Addr) (c : Fr), σ' = [some (.ref a), some (.int (n : Int)), some (.int (k : Int)), some (.ref D), some (.int W), some (.ref E'), some (.int x), some (.ref z), none] ∧ Kp [] H4 H' ∧ FrAt K H' z c ∧ ChB c ∧ rv c ≤ 1 ∧ rv c ≤ (x : Rat) * (k : Rat) / (W : Rat)) ?_ ?_
        · rintro σ' H6 ⟨z, c, rfl, k6, ec, hcB, hc1, hcx⟩
          have e6 := k6.get nin0 e4
          walk_at "z"
          refine ⟨Z.tyL e6, ?_⟩
          walk_at "z"
          refine Z.app e6 (Z.szl (m := 100000) (by rw [List.length_map, F4.len]; omega)) ?_
          walk_at "z"
          refine ⟨_, _, ds ++ [z], cs ++ [c], rfl, (k4.trans k6).mut nE rfl, by rw [upd_same, List.map_append]; rfl, ((F4.kp0 k6).snoc ec).kpl (Kp.put (by simp)) e6, by rw [List.length_append]; simp; omega, fun d hd => ?_, ?_⟩
          · rcases List.mem_append.mp hd with hd | hd
            · exact hok d hd
            · rw [List.mem_singleton.mp hd]; exact ⟨hcB, hc1⟩
          · rw [hsx, List.map_append, List.sum_append]
            show _ + (rv c + 0) ≤ _
            have e9 : (((ns.take i).sum + x : Int) : Rat) = (((ns.take i).sum : Int) : Rat) + (x : Rat) := by exact_mod_cast rfl
            rw [e9]
            have : ((((ns.take i).sum : Int) : Rat) + (x : Rat)) * (k : Rat) / (W : Rat) = ((((ns.take i).sum : Int) : Rat) * (k : Rat)) / (W : Rat) + (x : Rat) * (k : Rat) / (W : Rat) := by grind
            rw [this]
            grind
        · intro N jn
          walk_at "z"
          refine Z.ixT e5 (fr0 _) ?_
          walk_at "z"
          refine Z.ixT e5 (fr1 _) ?_
          walk_at "z"
          have hlt := rv_lt (f := (1, 1)) (g := lo (x * (k : Int)) W) (by decide) cL.1
          rw [rv_one] at hlt
          have hlt2 : (lo (x * (k : Int)) W).2 < (lo (x * (k : Int)) W).1 ↔ 1 < rv (lo (x * (k : Int)) W) := by
            rw [← hlt]
            show _ ↔ 1 * (lo (x * (k : Int)) W).2 < (lo (x * (k : Int)) W).1 * 1
            omega
          refine Z.ite (fun h2 => ?_) (fun h2 => ?_)
          · have h3 := hlt2.mp h2
            walk_at "z"
            refine Z.tupK (fun u H6 nu k6 e6 => ?_)
            walk_at "z"
            refine jn _ _ ⟨u, (1, 1), rfl, k5.trans k6, tupT e6, ⟨by decide, by decide, (show FrB 1 (1, 1) from ⟨by decide, by decide⟩).mono (by decide)⟩, by rw [rv_one]; grind, ?_⟩
            rw [rv_one, ← cv]
            grind
          · have h3 : ¬ 1 < rv (lo (x * (k : Int)) W) := fun z => h2 (hlt2.mpr z)
            walk_at "z"
            exact jn _ _ ⟨y, _, rfl, k5, e5, ⟨cL.1, cP, cB.mono (by decide)⟩, by grind, by rw [cv]; grind⟩
      · rintro σ' H4 ⟨y6, y7, ds, cs, rfl, k4, e4, F4, hc4, hok, hs4⟩
        rw [List.length_map, List.take_length] at hs4
        rw [List.length_map] at hc4
        walk_at "z"
        refine q H4 E' ds cs ?_ ((k1.trans k2).trans (k4.sub (by simp))) (d2.kp0 k4) e4 F4 ⟨by omega, hok, ?_⟩
        · have : E' ≠ a := fun q => by rw [q] at nE; obtain ⟨w, hw⟩ := d2; rw [hw] at nE; cases nE
          exact (k1.trans k2).none (by simpa using this) nE
        · have h5 : (((ns.sum : Int) : Rat) * (k : Rat)) / (W : Rat) ≤ ((W : Rat) * (k : Rat)) / (W : Rat) := by
            refine div_mono ?_ W0
            refine Rat.mul_le_mul_of_nonneg_right ?_ ?_
            · exact ratMono.mpr hWs
            · exact_mod_cast Nat.zero_le k
          have h6 : ((W : Rat) * (k : Rat)) / (W : Rat) = (k : Rat) := by grind
          rw [h6] at h5
          grind


theorem FrAt.kpd {K : PySem.W.Frag} {H H' : Hp} {a b : Addr} {f : Fr} (h : FrAt K H b f) (k : Kp [a] H H') (d : DrawsAt H a) : FrAt K H' b f := let ⟨_, e⟩ := d; h.kpl k e
theorem FrsAt.kpd {K : PySem.W.Frag} {H H' : Hp} {a : Addr} {as : List Addr} {fs : List Fr} (h : FrsAt K H as fs) (k : Kp [a] H H') (d : DrawsAt H a) : FrsAt K H' as fs := let ⟨_, e⟩ := d; h.kpl k e
theorem chF_bR {ws : List Int} {g : Fr} (hW : Ws ws) (gL : Low g) : (ws.map fun w => chF (wI w) g).map rv = (ratW ws).map fun w => bR w (rv g) := by
  unfold ratW
  rw [List.map_map, List.map_map]
  refine List.map_congr_left fun w hw => ?_
  have h := wI_pos (hW w hw).1 (hW w hw).2
  show rv (chF (wI w) g) = bR (w : Rat) (rv g)
  rw [rv_chF h.1 h.2.1 gL.1, rv_wI]
  rfl
theorem chF_ChB {ws : List Int} {g : Fr} (hW : Ws ws) (gL : Low g) (gB : FrB 77 g) (g0 : 0 ≤ rv g) : ∀ c ∈ ws.map (fun w => chF (wI w) g), ChB c ∧ rv c ≤ 1 := fun c hc => by
  obtain ⟨w, hw, rfl⟩ := List.mem_map.mp hc
  have h := wI_pos (hW w hw).1 (hW w hw).2
  have cL := chF_low h.1 h.2.1 gL.1
  have hv : rv (chF (wI w) g) = bR (w : Rat) (rv g) := by rw [rv_chF h.1 h.2.1 gL.1, rv_wI]; rfl
  have hb := bR_pos (ratPos (show 0 < w by have := (hW w hw).1; omega)) g0
  exact ⟨⟨cL.1, (rv_pos cL.1).mpr (by rw [hv]; exact hb.1), (chF_B h.1 h.2.1 gL.1 h.2.2 gB (by decide)).mono (by decide)⟩, by rw [hv]; exact hb.2⟩
theorem zero_iff {ws : List Int} {g : Fr} {k : Nat} (gL : Low g) (hT : Thr (ratW ws) k (rv g)) : decide (g = (0, 1)) = decide ((k : Int) ≥ (ws.length : Int)) := by
  have hl : (ratW ws).length = ws.length := List.length_map _
  by_cases h : ws.length ≤ k
  · rw [decide_eq_true (low_eq gL low_zero (by rw [hT.small (by omega), rv_zero])), decide_eq_true (by omega)]
  · have h1 := (hT.big (by omega)).1
    rw [decide_eq_false (fun z => by rw [z, rv_zero] at h1; exact Rat.lt_irrefl h1), decide_eq_false (by omega)]
theorem whole_eq {ws : List Int} {g : Fr} {k : Nat} (hW : Ws ws) (gL : Low g) (hT : Thr (ratW ws) k (rv g)) : fsum (0, 1) (ws.map fun w => chF (wI w) g) = (((min k ws.length : Nat) : Int), 1) := by
  have hs := rv_fsum (fs := ws.map fun w => chF (wI w) g) low_zero fun f hf => by
    obtain ⟨w, hw, rfl⟩ := List.mem_map.mp hf
    have h := wI_pos (hW w hw).1 (hW w hw).2
    exact (chF_low h.1 h.2.1 gL.1).ne
  refine low_eq hs.2 ⟨show (1 : Int) ≤ 1 by decide, by simp⟩ ?_
  have hl : (ratW ws).length = ws.length := List.length_map _
  rw [hs.1, rv_zero, chF_bR hW gL, best_sum (ratW_pos hW) hT, rv_nat, hl]
  grind
theorem at2I (x y : Int) (b : Bool) : atI [V.int x, V.int y] (if b = true then 1 else 0) = some (V.int (if b = true then y else x)) := by cases b <;> rfl
/-- lists of drawn chances -/
def OAt (K : PySem.W.Frag) (H : Hp) (a : Addr) (os : List Addr) (n k : Nat) : Prop := ∀ o ∈ os, o ≠ a ∧ ∃ as cs, H o = some (.lst (as.map V.ref)) ∧ FrsAt K H as cs ∧ Chs n k cs
theorem OAt.kpd {K : PySem.W.Frag} {H H' : Hp} {a : Addr} {os : List Addr} {n k : Nat} (h : OAt K H a os n k) (kp : Kp [a] H H') (d : DrawsAt H a) : OAt K H' a os n k := fun o ho => by
  obtain ⟨h1, as, cs, e, F, C⟩ := h o ho
  exact ⟨h1, as, cs, kp.get (nin1 h1) e, F.kpd kp d, C⟩
theorem OAt.kp0 {K : PySem.W.Frag} {H H' : Hp} {a : Addr} {os : List Addr} {n k : Nat} (h : OAt K H a os n k) (kp : Kp [] H H') : OAt K H' a os n k := fun o ho => by
  obtain ⟨h1, as, cs, e, F, C⟩ := h o ho
  exact ⟨h1, as, cs, kp.get nin0 e, F.kp0 kp, C⟩
def spLaw (K : PySem.W.Frag) : Sp := fun vs H Q _ => ∃ (a : Addr) (ns : List Int), vs = [.ref a] ∧ SqL K H a (ns.map V.int) ∧ ns.length ≤ 63 ∧ (∀ z ∈ ns, Builtin.Int.intBits z ≤ 1048576) ∧ ∀ H', Q (.bl true) H'
theorem ok_law {P : Program} {w : World} {K : PySem.W.Frag} {mg : Str → Option Value} {base : Heap} (T : T P K mg) : FnOk P w K mg base CX0 7 T.a_law T.fd_law ["script"] (spLaw K) := by
  refine T.F_law.ok sc_law (fun vs H Q E h => ?_) (fun cdv A outer s H vs Q E hr h => ?_)
  · obtain ⟨a, ns, rfl, _⟩ := h
    rfl
  · obtain ⟨c, ns, rfl, hS, hlen, hb, q⟩ := h
    refine ⟨_, (pss_cons (ps_set (i := 1) sc_law.nd rfl (by first | exact Or.inl rfl | exact Or.inr rfl) (pe_call (ok__law_numbers T) (hr.mono (by decide)) (by rfl) T.g__law_numbers T.F__law_numbers.kp T.b__law_numbers .nil pass0 (pa_cons (pv 0) (pa_cons pe_int pa_nil))))
      (pss_cons (ps_set (i := 2) sc_law.nd rfl (by first | exact Or.inl rfl | exact Or.inr rfl) (pe_lc (own := [("k", 15)]) (g := gName 15) rfl sc_law.nd (pi_range1 (by rfl) T.z_range (pa_cons (pe_op op_add pe_int (pe_call (ok__law_take T) (hr.mono (by decide)) (by rfl) T.g__law_take T.F__law_take.kp T.b__law_take .nil pass0 (pa_cons (pv 1) (pa_cons pe_int pa_nil)))) pa_nil)) (blkOk_by (own := [("k", 15)]) (N := N_law) (sc := defScope s_law) (by decide +kernel)) (fun _ _ _ _ _ => (pg_name (i := 15) sc_law.nd rfl (by first | exact Or.inl rfl | exact Or.inr rfl))) (fun _ _ _ _ _ => pts_nil) (fun _ _ _ _ _ => (pe_ix (ix_list : IxR _ (rIxL K)) (pe_lst (pa_cons (pe_op op_add pe_int (pe_call (ok__law_take T) (hr.mono (by decide)) (by rfl) T.g__law_take T.F__law_take.kp T.b__law_take .nil pass0 (pa_cons (pv 1) (pa_cons pe_int pa_nil)))) (pa_cons (pe_op op_add pe_int (pe_call (ok__law_take T) (hr.mono (by decide)) (by rfl) T.g__law_take T.F__law_take.kp T.b__law_take .nil pass0 (pa_cons (pv 1) (pa_cons pe_int pa_nil)))) pa_nil))) (pe_callTy c_int (by rfl) T.z_int (by decide +kernel) (pa_cons (pe_cmpR op_eq (pe_call (ok__law_take T) (hr.mono (by decide)) (by rfl) T.g__law_take T.F__law_take.kp T.b__law_take .nil pass0 (pa_cons (pv 1) (pa_cons pe_int pa_nil))) pe_int (nomark _)) pa_nil)) (fun _ _ => rfl)))))
      (pss_cons (ps_set (i := 3) sc_law.nd rfl (by first | exact Or.inl rfl | exact Or.inr rfl) (pe_op op_add pe_int (pe_call (ok__law_take T) (hr.mono (by decide)) (by rfl) T.g__law_take T.F__law_take.kp T.b__law_take .nil pass0 (pa_cons (pv 1) (pa_cons (pe_ix ix_list (pe_lst (pa_cons (pe_callB c_len (by rfl) T.z_len (by decide +kernel) (pa_cons (pv 2) pa_nil)) (pa_cons pe_int pa_nil))) (pe_callTy c_int (by rfl) T.z_int (by decide +kernel) (pa_cons (pe_cmpR op_eq (pe_call (ok__law_take T) (hr.mono (by decide)) (by rfl) T.g__law_take T.F__law_take.kp T.b__law_take .nil pass0 (pa_cons (pv 1) (pa_cons pe_int pa_nil))) pe_int (nomark _)) pa_nil)) (fun _ _ => rfl)) pa_nil)))))
      (pss_cons (ps_set (i := 4) sc_law.nd rfl (by first | exact Or.inl rfl | exact Or.inr rfl) (pe_callTy c_list (by rfl) T.z_list (by decide +kernel) (pa_cons (pv 2) pa_nil)))
      (pss_cons (ps_set (i := 5) sc_law.nd rfl (by first | exact Or.inl rfl | exact Or.inr rfl) (pe_call (ok_best_price T) (hr.mono (by decide)) (by rfl) T.g_best_price T.F_best_price.kp T.b_best_price .nil pass0 (pa_cons (pv 4) (pa_cons (pv 3) pa_nil))))
      (pss_cons (ps_set (i := 6) sc_law.nd rfl (by first | exact Or.inl rfl | exact Or.inr rfl) (pe_call (ok_best_chances T) (hr.mono (by decide)) (by rfl) T.g_best_chances T.F_best_chances.kp T.b_best_chances .nil pass0 (pa_cons (pv 4) (pa_cons (pv 3) pa_nil))))
      (pss_cons (ps_if (PW.pt (pw_or (pt_cmpR (op_neD hr.units) (pv 6) (pe_call (ok__law_kept T) (hr.mono (by decide)) (by rfl) T.g__law_kept T.F__law_kept.kp T.b__law_kept .nil pass0 (pa_cons (pv 2) (pa_cons (pv 5) pa_nil))) (nomark _)) (pw_or1 (pt_cmpR op_ne (pe_cmpR (op_eqD hr.units) (pv 5) (pe_tup (pa_cons pe_int (pa_cons pe_int pa_nil))) (nomark _)) (pe_cmpR op_ge (pv 3) (pe_callB c_len (by rfl) T.z_len (by decide +kernel) (pa_cons (pv 2) pa_nil)) (nomark _)) (nomark _))))) (pss_one (ps_ret pe_bl)) pss_nil)
      (pss_cons (ps_set (i := 7) sc_law.nd rfl (by first | exact Or.inl rfl | exact Or.inr rfl) (pe_tup (pa_cons pe_int (pa_cons pe_int pa_nil))))
      (pss_cons (ps_for PassesOwn.never rfl (pi_list (pv 6)) (pg_name (i := 8) sc_law.nd rfl (by first | exact Or.inl rfl | exact Or.inr rfl)) (pss_one (ps_set (i := 7) sc_law.nd rfl (by first | exact Or.inl rfl | exact Or.inr rfl) (pe_call (ok__law_plus T) (hr.mono (by decide)) (by rfl) T.g__law_plus T.F__law_plus.kp T.b__law_plus .nil pass0 (pa_cons (pv 7) (pa_cons (pv 8) pa_nil))))))
      (pss_cons (ps_if (pt_cmpR (op_neD hr.units) (pv 7) (pe_tup (pa_cons (pe_callB (call_min2 rfl) (by rfl) T.z_min (by decide +kernel) (pa_cons (pv 3) (pa_cons (pe_callB c_len (by rfl) T.z_len (by decide +kernel) (pa_cons (pv 2) pa_nil)) pa_nil))) (pa_cons pe_int pa_nil))) (nomark _)) (pss_one (ps_ret pe_bl)) pss_nil)
      (pss_cons (ps_set (i := 9) sc_law.nd rfl (by first | exact Or.inl rfl | exact Or.inr rfl) (pe_call (ok_price_bound T) (hr.mono (by decide)) (by rfl) T.g_price_bound T.F_price_bound.kp T.b_price_bound .nil pass0 (pa_cons (pv 4) (pa_cons (pv 3) (pa_cons (pv 5) pa_nil)))))
      (pss_cons (ps_if (PW.pt (pw_or (pt_cmpR (op_neD hr.units) (pv 9) (pe_call (ok__law_bound T) (hr.mono (by decide)) (by rfl) T.g__law_bound T.F__law_bound.kp T.b__law_bound .nil pass0 (pa_cons (pv 2) (pa_cons (pv 3) (pa_cons (pv 5) pa_nil)))) (nomark _)) (pw_or (pt_cmpR (op_neD hr.units) (pe_call (ok_spread T) (hr.mono (by decide)) (by rfl) T.g_spread T.F_spread.kp T.b_spread .nil pass0 (pa_cons (pv 4) (pa_cons (pe_callTy c_list (by rfl) T.z_list (by decide +kernel) (pa_cons (pv 6) pa_nil)) pa_nil))) (pv 9) (nomark _)) (pw_or1 (pt_cmpR (op_neD hr.units) (pe_call (ok__law_spread T) (hr.mono (by decide)) (by rfl) T.g__law_spread T.F__law_spread.kp T.b__law_spread .nil pass0 (pa_cons (pv 2) (pa_cons (pv 6) pa_nil))) (pv 9) (nomark _)))))) (pss_one (ps_ret pe_bl)) pss_nil)
      (pss_cons (ps_setLc (i := 10) (own := [("turn", 11)]) (g := gName 11) rfl sc_law.nd rfl rfl (sw_true rfl rfl rfl (by decide +kernel)) (pi_range1 (by rfl) T.z_range (pa_cons pe_int pa_nil)) (blkOk_by (own := [("turn", 11)]) (N := N_law) (sc := defScope s_law) (by decide +kernel)) (fun _ _ _ _ _ => (pg_name (i := 11) sc_law.nd rfl (by first | exact Or.inl rfl | exact Or.inr rfl))) (fun _ _ _ _ _ => pts_nil) (fun _ _ _ _ _ => (pe_call (ok__law_chances T) (hr.mono (by decide)) (by rfl) T.g__law_chances T.F__law_chances.kp T.b__law_chances .nil pass0 (pa_cons (pv 1) (pa_cons (pe_callB (c_len : CallR _ _ (Z.rLenN K)) (by rfl) T.z_len (by decide +kernel) (pa_cons (pv 2) pa_nil)) (pa_cons (pv 3) pa_nil))))))
      (pss_cons (ps_for PassesOwn.never rfl (pi_range1 (by rfl) T.z_range (pa_cons pe_int pa_nil)) (pg_name (i := 11) sc_law.nd rfl (by first | exact Or.inl rfl | exact Or.inr rfl)) (pss_cons (ps_set (i := 12) sc_law.nd rfl (by first | exact Or.inl rfl | exact Or.inr rfl) (pe_call (ok__law_low T) (hr.mono (by decide)) (by rfl) T.g__law_low T.F__law_low.kp T.b__law_low .nil pass0 (pa_cons (pe_call (ok__law_take T) (hr.mono (by decide)) (by rfl) T.g__law_take T.F__law_take.kp T.b__law_take .nil pass0 (pa_cons (pv 1) (pa_cons pe_int pa_nil))) (pa_cons (pe_op op_add pe_int (pe_call (ok__law_take T) (hr.mono (by decide)) (by rfl) T.g__law_take T.F__law_take.kp T.b__law_take .nil pass0 (pa_cons (pv 1) (pa_cons pe_int pa_nil)))) pa_nil))))
      (Z.pss_consJ (ps_if (pt_cmpR op_gt (pv 11) pe_int (nomark _)) (pss_one (ps_set (i := 12) sc_law.nd rfl (by first | exact Or.inl rfl | exact Or.inr rfl) (pe_call (ok__law_low T) (hr.mono (by decide)) (by rfl) T.g__law_low T.F__law_low.kp T.b__law_low .nil pass0 (pa_cons (pe_op op_mulW (pe_ix ix_tup (pv 5) pe_int (fun _ _ => rfl)) (pe_op op_add pe_int (pe_call (ok__law_take T) (hr.mono (by decide)) (by rfl) T.g__law_take T.F__law_take.kp T.b__law_take .nil pass0 (pa_cons (pv 1) (pa_cons pe_int pa_nil))))) (pa_cons (pe_op op_mul (pe_ix ix_tup (pv 5) pe_int (fun _ _ => rfl)) pe_int) pa_nil))))) pss_nil)
      (pss_cons (ps_set (i := 13) sc_law.nd rfl (by first | exact Or.inl rfl | exact Or.inr rfl) (pe_call (ok_price_bound T) (hr.mono (by decide)) (by rfl) T.g_price_bound T.F_price_bound.kp T.b_price_bound .nil pass0 (pa_cons (pv 4) (pa_cons (pv 3) (pa_cons (pv 12) pa_nil)))))
      (pss_cons (ps_if (PW.pt (pw_or (pt_cmpR (op_neD hr.units) (pv 13) (pe_call (ok__law_bound T) (hr.mono (by decide)) (by rfl) T.g__law_bound T.F__law_bound.kp T.b__law_bound .nil pass0 (pa_cons (pv 2) (pa_cons (pv 3) (pa_cons (pv 12) pa_nil)))) (nomark _)) (pw_or1 (pt_val (pe_call (ok__law_less T) (hr.mono (by decide)) (by rfl) T.g__law_less T.F__law_less.kp T.b__law_less .nil pass0 (pa_cons (pv 9) (pa_cons (pv 13) pa_nil))))))) (pss_one (ps_ret pe_bl)) pss_nil)
      (pss_one (ps_for PassesOwn.never rfl (pi_list (pv 10)) (pg_name (i := 6) sc_law.nd rfl (by first | exact Or.inl rfl | exact Or.inr rfl)) (pss_cons (ps_set (i := 14) sc_law.nd rfl (by first | exact Or.inl rfl | exact Or.inr rfl) (pe_call (ok_spread T) (hr.mono (by decide)) (by rfl) T.g_spread T.F_spread.kp T.b_spread .nil pass0 (pa_cons (pv 4) (pa_cons (pe_callTy c_list (by rfl) T.z_list (by decide +kernel) (pa_cons (pv 6) pa_nil)) pa_nil))))
      (pss_one (ps_if (PW.pt (pw_or (pt_cmpR (op_neD hr.units) (pv 14) (pe_call (ok__law_spread T) (hr.mono (by decide)) (by rfl) T.g__law_spread T.F__law_spread.kp T.b__law_spread .nil pass0 (pa_cons (pv 2) (pa_cons (pv 6) pa_nil))) (nomark _)) (pw_or (pt_val (pe_call (ok__law_less T) (hr.mono (by decide)) (by rfl) T.g__law_less T.F__law_less.kp T.b__law_less .nil pass0 (pa_cons (pv 14) (pa_cons (pv 13) pa_nil)))) (pw_or1 (pt_val (pe_call (ok__law_less T) (hr.mono (by decide)) (by rfl) T.g__law_less T.F__law_less.kp T.b__law_less .nil pass0 (pa_cons (pv 14) (pa_cons (pv 9) pa_nil)))))))) (pss_one (ps_ret pe_bl)) pss_nil))))))))))
      (pss_one (ps_ret (pe_cmpR (op_eqD hr.units) (pv 4) (pv 2) (nomark _)))))))))))))))))), ?_⟩
    walk_at "z0"
    walk_at "z"
    refine ⟨c, ns, 120, rfl, hS, by decide, hb, fun a H1 na k1 d1 => ?_⟩
    walk_at "z"
    refine ⟨a, 6, rfl, d1, by decide, by decide, fun H2 v h0 h1 k2 d2 => ?_⟩
    obtain ⟨n, hn, hn1, hn6⟩ : ∃ n : Nat, 1 + v = (n : Int) ∧ 1 ≤ n ∧ n ≤ 6 := ⟨(1 + v).toNat, by omega, by omega, by omega⟩
    refine Z.i0 ?_
    rw [hn]
    refine Z.lcr n rfl (by omega) (fun D i H' => ∃ ws : List Int, DrawsAt H' a ∧ H' D = some (.lst (ws.map V.int)) ∧ ws.length = i ∧ Ws ws ∧ a ≠ D) ?_ ?_ ?_
    · intro D H3 nD k3 e3
      exact ⟨[], d2.kp0 k3, e3, rfl, fun x hx => (by cases hx), d2.ne nD⟩
    · rintro D i H3 nD hi ⟨ws, d3, e3, hl, hW, naD⟩
      dsimp only [wipe, List.set]
      walk_at "z"
      refine ⟨rfl, ?_⟩
      walk_at "z"
      refine ⟨a, 9, rfl, d3, by decide, by decide, fun H4 v4 h40 h41 k4 d4 => ?_⟩
      walk_at "z"
      refine ⟨a, 200, rfl, d4, by decide, by decide, fun H5 v5 h50 h51 k5 d5 => ?_⟩
      walk_at "z"
      refine Z.lstK (fun L H6 nL k6 e6 => ?_)
      walk_at "z"
      have naL : a ≠ L := d5.ne nL
      refine ⟨a, 3, rfl, d5.kp0 k6, by decide, by decide, fun H7 v7 h70 h71 k7 d7 => ?_⟩
      walk_at "z"
      refine Z.ixL (lstL (k7.get (nin1 naL.symm) e6)) (at2I _ _ _) ?_
      have k37 : Kp [a] H3 H7 := (k4.trans k5).trans ((k6.sub (by simp)).trans k7)
      have e7 := k37.get (nin1 naD.symm) e3
      generalize hw : (if decide (v7 = 0) = true then 1 + v5 else 1 + v4) = w
      have hwb : 1 ≤ w ∧ w ≤ 1000 := by rw [← hw]; split <;> omega
      refine ⟨_, e7, Z.szl (m := 1000) (by rw [List.length_map]; omega), ws ++ [w], d7.put naD, by rw [upd_same, List.map_append]; rfl, by rw [List.length_append]; simp; omega, fun x hx => ?_, naD⟩
      rcases List.mem_append.mp hx with hx | hx
      · exact hW x hx
      · rw [List.mem_singleton.mp hx]; exact hwb
    · rintro D H3 nD ⟨ws, d3, e3, hl, hW, naD⟩
      walk_at "z"
      refine Z.lenL (lstL e3) ?_
      rw [List.length_map, hl]
      walk_at "z"
      refine Z.lstK (fun L H4 nL k4 e4 => ?_)
      walk_at "z"
      have naL : a ≠ L := d3.ne nL
      refine ⟨a, 4, rfl, d3.kp0 k4, by decide, by decide, fun H5 v5 h50 h51 k5 d5 => ?_⟩
      walk_at "z"
      refine Z.ixL (lstL (k5.get (nin1 naL.symm) e4)) (at2I _ _ _) ?_
      generalize hm : (if decide (v5 = 0) = true then (6 : Int) else (n : Int)) = m
      have hmb : 1 ≤ m ∧ m ≤ 6 := by rw [← hm]; split <;> omega
      walk_at "z"
      refine ⟨a, m, rfl, d5, by omega, by omega, fun H6 v6 h60 h61 k6 d6 => ?_⟩
      obtain ⟨k, hk, hk1, hk6⟩ : ∃ k : Nat, 1 + v6 = (k : Int) ∧ 1 ≤ k ∧ k ≤ 6 := ⟨(1 + v6).toNat, by omega, by omega, by omega⟩
      refine Z.i0 ?_
      rw [hk]
      walk_at "z"
      have e6 := k6.get (nin1 naD.symm) (k5.get (nin1 naD.symm) (k4.get nin0 e3))
      refine ⟨D, _, rfl, .inl (lstL e6), fun B nB => ?_⟩
      have k7 : Kp [] H6 (upd H6 B (.lst (ws.map V.int))) := Kp.new nB
      have e7 : upd H6 B (.lst (ws.map V.int)) B = some (.lst (ws.map V.int)) := upd_same
      have naB : a ≠ B := d6.ne nB
      generalize upd H6 B (.lst (ws.map V.int)) = H7 at k7 e7 ⊢
      have d7 := d6.kp0 k7
      have e7D := k7.get nin0 e6
      walk_at "z"
      refine ⟨B, ws, k, rfl, lstL e7, by omega, hW, hk1, fun H8 ga g k8 eg gL gB gT => ?_⟩
      walk_at "z"
      refine ⟨B, ws, k, rfl, lstL (k8.get nin0 e7), by omega, hW, hk1, fun H9 ca cas g' k9 eca gL' gB' gT' Fc => ?_⟩
      have eg' : g' = g := low_eq gL' gL (thr_uniq (ratW_pos hW) gT' gT)
      subst eg'
      clear gL' gB' gT'
      have g9 := eg.kp0 k9
      have k79 := k8.trans k9
      have e9D := k79.get nin0 e7D
      have e9B := k79.get nin0 e7
      have gn := thr_nonneg gT
      have g0 : 0 ≤ g'.1 := by
        by_cases z : 0 ≤ g'.1
        · exact z
        · have h1 := (rv_lt (f := g') (g := (0, 1)) gL.1 (by decide)).mp (by show g'.1 * 1 < 0 * g'.2; omega)
          rw [rv_zero] at h1
          grind
      have cC := chF_ChB hW gL gB gn
      walk_at "z"
      refine ⟨D, ga, ws, g', rfl, lstL e9D, by omega, hW, g9, gL, g0, gB, fun H10 l2 las k10 el2 Fl => ?_⟩
      refine neFs (k10.get nin0 eca) el2 (Fc.kp0 k10) Fl ?_
      walk_at "z"
      have Fc10 := Fc.kp0 k10
      have e10c := k10.get nin0 eca
      have g10 := g9.kp0 k10
      have e10D := k10.get nin0 e9D
      have e10B := k10.get nin0 e9B
      have d10 := (d7.kp0 k79).kp0 k10
      refine Z.tupK (fun t H11 nt k11 e11 => ?_)
      refine eqF (g := (0, 1)) (g10.kp0 k11) (tupT e11) ?_
      rw [zero_iff gL gT]
      walk_at "z"
      refine Z.lenL (lstL (k11.get nin0 e10D)) ?_
      rw [List.length_map]
      walk_at "z"
      rw [decide_eq_true rfl]
      walk_at "z"
      refine Z.tupK (fun w0 H12 nw0 k12 e12 => ?_)
      walk_at "z"
      have k102 := k11.trans k12
      refine Z.forl (cas.map V.ref) (lstL (k102.get nin0 e10c)) (fun i σ' H' => ∃ (x : Addr) (y8 : Option V), σ' = [some (.ref c), some (.ref a), some (.ref D), some (.int (k : Int)), some (.ref B), some (.ref ga), some (.ref ca), some (.ref x), y8, none, none, none, none, none, none, none] ∧ Kp [] H10 H' ∧ FrAt K H' x (fsum (0, 1) ((ws.map fun w => chF (wI w) g').take i))) ⟨w0, none, rfl, k102, tupT e12⟩ ?_ ?_ ?_
      · rintro i σ' H13 hi ⟨x, y8, rfl, k13, ex⟩
        exact lstL (k13.get nin0 e10c)
      · rintro i v σ' H13 hv ⟨x, y8, rfl, k13, ex⟩
        obtain ⟨z, f, rfl, hf, hz⟩ := (Fc10.kp0 k13).get hv
        have hfC := (cC f (List.mem_of_getElem? hf)).1
        have hi : i < (ws.map fun w => chF (wI w) g').length := (List.getElem?_eq_some_iff.mp hf).1
        rw [List.length_map] at hi
        have hall : ∀ f ∈ (ws.map fun w => chF (wI w) g').take i, FrB 90 f ∧ f.2 ≠ 0 := fun f hf => by
          have := (cC f (List.mem_of_mem_take hf)).1
          exact ⟨this.B, by have := this.q; omega⟩
        have hB1 := fsum_B (fs := (ws.map fun w => chF (wI w) g').take i) (t := (0, 1)) (n := 1) (m := 90) ⟨by decide, by decide⟩ (by decide) hall
        have hlow := rv_fsum (fs := (ws.map fun w => chF (wI w) g').take i) low_zero fun g hg => (hall g hg).2
        have hle : 1 + ((ws.map fun w => chF (wI w) g').take i).length * (90 + 1) + 90 ≤ 1900 := by
          have h1 : ((ws.map fun w => chF (wI w) g').take i).length ≤ 6 := by rw [List.length_take, List.length_map]; omega
          omega
        walk_at "z"
        refine ⟨x, z, _, f, rfl, ex, hz, hlow.2.1, hfC.q, ⟨_, _, hB1.1, hfC.B, hle⟩, fun H14 y ny k14 e14 => ?_⟩
        walk_at "z"
        exact ⟨y, _, rfl, k13.trans k14, by rw [fsum_take hf]; exact e14⟩
      · rintro σ' H13 ⟨x, y8, rfl, k13, ex⟩
        rw [List.length_map, Fc.len, List.take_length, whole_eq hW gL gT] at ex
        walk_at "z"
        refine Z.lenL (lstL (k13.get nin0 e10D)) ?_
        rw [List.length_map]
        walk_at "z"
        refine ⟨_, _, rfl, ?_⟩
        walk_at "z"
        refine Z.tupK (fun t2 H14 nt2 k14 e14 => ?_)
        have emin : (if ((ws.length : Nat) : Int) < (k : Int) then ((ws.length : Nat) : Int) else (k : Int)) = ((min k ws.length : Nat) : Int) := by split <;> omega
        rw [emin] at e14
        refine neF (g := (((min k ws.length : Nat) : Int), 1)) (ex.kp0 k14) (tupT e14) ?_
        rw [decide_eq_true rfl]
        have k104 := k13.trans k14
        have gP : PrB g' := ⟨gL.1, gB.mono (by decide)⟩
        walk_at "z"
        refine ⟨B, ga, ws, k, g', rfl, lstL (k104.get nin0 e10B), by omega, hW, by omega, g10.kp0 k104, gP, fun H15 ba fb k15 eb bL bB bv => ?_⟩
        have k105 := k104.trans k15
        walk_at "z"
        refine ⟨D, ga, ws, k, g', rfl, lstL (k105.get nin0 e10D), by omega, hW, by omega, g10.kp0 k105, gP, fun H16 ba2 fb2 k16 eb2 bL2 bB2 bv2 => ?_⟩
        obtain rfl : fb2 = fb := low_eq bL2 bL (by rw [bv2, bv])
        refine neF (eb.kp0 k16) eb2 ?_
        rw [decide_eq_true rfl]
        have k106 := k105.trans k16
        have bv9 : rv fb2 = sprR (ratW ws) ((ws.map fun w => chF (wI w) g').map rv) := by rw [bv, chF_bR hW gL, best_eq (ratW_pos hW) gT]
        walk_at "z"
        refine ⟨ca, _, rfl, .inl (lstL (k106.get nin0 e10c)), fun cc ncc => ?_⟩
        have k17 : Kp [] H16 (upd H16 cc (.lst (cas.map V.ref))) := Kp.new ncc
        have e17 : upd H16 cc (.lst (cas.map V.ref)) cc = some (.lst (cas.map V.ref)) := upd_same
        generalize upd H16 cc (.lst (cas.map V.ref)) = H17 at k17 e17 ⊢
        have k107 := k106.trans k17
        walk_at "z"
        refine ⟨B, cc, cas, ws, _, rfl, lstL (k107.get nin0 e10B), lstL e17, Fc10.kp0 k107, by rw [List.length_map], by omega, hW, fun c hc => (cC c hc).1, fun H18 sa fs k18 es sL sB sv => ?_⟩
        obtain rfl : fs = fb2 := low_eq sL bL (by rw [sv, bv9])
        have k168 := k16.trans (k17.trans k18)
        walk_at "z"
        refine neF es (eb.kp0 k168) ?_
        rw [decide_eq_true rfl]
        have k108 := k107.trans k18
        walk_at "z"
        refine ⟨D, ca, cas, ws, _, rfl, lstL (k108.get nin0 e10D), lstL (k108.get nin0 e10c), Fc10.kp0 k108, by rw [List.length_map], by omega, hW, fun c hc => (cC c hc).1, fun H19 sa2 fs2 k19 es2 sL2 sB2 sv2 => ?_⟩
        obtain rfl : fs2 = fs := low_eq sL2 bL (by rw [sv2, bv9])
        walk_at "z"
        refine neF es2 ((eb.kp0 k168).kp0 k19) ?_
        rw [decide_eq_true rfl]
        have k109 := k108.trans k19
        have d19 := d10.kp0 k109
        have e19D := k109.get nin0 e10D
        have e19B := k109.get nin0 e10B
        have g19 := g10.kp0 k109
        have b19 : FrAt K H19 ba fs2 := (eb.kp0 k168).kp0 k19
        walk_at "z"
        have naD' : D ≠ a := fun z => naD z.symm
        have naB' : B ≠ a := fun z => naB z.symm
        refine Z.lcr 4 (by rfl) (by decide) (fun O i H' => ∃ os : List Addr, Kp [a] H19 H' ∧ DrawsAt H' a ∧ H' O = some (.lst (os.map V.ref)) ∧ OAt K H' a os ws.length k ∧ os.length = i ∧ ∀ o ∈ os, o ≠ O) ?_ ?_ ?_
        · intro O H20 nO k20 e20
          exact ⟨[], k20.sub (by simp), d19.kp0 k20, e20, fun o ho => (by cases ho), rfl, fun o ho => (by cases ho)⟩
        · rintro O i H20 nO hi ⟨os, k20, d20, e20, ho20, hol, hoO⟩
          have naO : a ≠ O := d19.ne nO
          dsimp only [wipe, List.set]
          walk_at "z"
          refine ⟨rfl, ?_⟩
          walk_at "z"
          refine Z.lenL (lstL (k20.get (nin1 naD') e19D)) ?_
          rw [List.length_map]
          walk_at "z"
          refine ⟨a, ws.length, k, rfl, d20, by omega, hk1, by omega, fun H21 l las cs nl k21 d21 el Fl Cl => ?_⟩
          have e21 := k21.get (nin1 naO.symm) e20
          have nlO : l ≠ O := fun z => by rw [z, e20] at nl; cases nl
          have kO : Kp [O] H21 (upd H21 O (.lst (os.map V.ref ++ [.ref l]))) := Kp.put (by simp)
          refine ⟨_, e21, Z.szl (m := 1000) (by rw [List.length_map]; omega), os ++ [l], (k20.trans k21).mut nO rfl, d21.put naO, by rw [upd_same, List.map_append]; rfl, fun o ho => ?_, by rw [List.length_append]; simp; omega, fun o ho => ?_⟩
          · rcases List.mem_append.mp ho with ho | ho
            · obtain ⟨h1, as, cs, e, F, C⟩ := ho20.kpd k21 d20 o ho
              exact ⟨h1, as, cs, kO.get (nin1 (hoO o ho)) e, F.kpl kO e21, C⟩
            · rw [List.mem_singleton.mp ho]
              exact ⟨(d20.ne nl).symm, las, cs, kO.get (nin1 nlO) el, Fl.kpl kO e21, Cl⟩
          · rcases List.mem_append.mp ho with ho | ho
            · exact hoO o ho
            · rw [List.mem_singleton.mp ho]
              exact nlO
        · rintro O H20 nO ⟨os, k20, d20, e20, ho20, hol, hoO⟩
          have naO : O ≠ a := fun z => (d19.ne nO) z.symm
          walk_at "z"
          refine Z.forr 6 (by rfl) (by decide) (fun i σ' H' => ∃ (y6 y8 y11 y12 y13 y14 : Option V), σ' = [some (.ref c), some (.ref a), some (.ref D), some (.int (k : Int)), some (.ref B), some (.ref ga), y6, some (.ref x), y8, some (.ref ba), some (.ref O), y11, y12, y13, y14, none] ∧ Kp [a] H20 H' ∧ DrawsAt H' a) ⟨_, _, _, _, _, _, rfl, Kp.refl _, d20⟩ ?_ ?_
          · rintro i σ' H21 hi ⟨y6, y8, y11, y12, y13, y14, rfl, k21, d21⟩
            walk_at "z"
            refine ⟨a, 60, rfl, d21, by decide, by decide, fun H22 v22 h220 h221 k22 d22 => ?_⟩
            walk_at "z"
            refine ⟨a, 6, rfl, d22, by decide, by decide, fun H23 v23 h230 h231 k23 d23 => ?_⟩
            walk_at "z"
            refine ⟨v22, 1 + v23, rfl, by omega, Nat.lt_of_lt_of_le (show (1 + v23).natAbs < 2 ^ 3 by omega) (Nat.pow_le_pow_right (by decide) (by decide)), fun H24 pa0 np0 k24 ep0 => ?_⟩
            walk_at "z"
            have p0L := lo_low (p := v22) (q := 1 + v23) (by omega)
            have p0B := lo_B (n := 7) (p := v22) (q := 1 + v23) (by omega) (by omega) (by omega)
            have p0v : 0 ≤ rv (lo v22 (1 + v23)) := by
              rw [rv_lo (by omega), Rat.div_def]
              refine Rat.mul_nonneg (by exact_mod_cast h220) ?_
              have := Rat.inv_pos.mpr (ratPos (show 0 < 1 + v23 by omega))
              grind
            refine Z.seqJ (fun σ' H' => ∃ (pa : Addr) (p : Fr), σ' = [some (.ref c), some (.ref a), some (.ref D), some (.int (k : Int)), some (.ref B), some (.ref ga), y6, some (.ref x), y8, some (.ref ba), some (.ref O), some (.int (i : Int)), some (.ref pa), y13, y14, none] ∧ Kp [a] H20 H' ∧ DrawsAt H' a ∧ FrAt K H' pa p ∧ PrB p ∧ 0 ≤ rv p) ?_ ?_
            · rintro σ' H25 ⟨pa, p, rfl, k25, d25, ep, pP, pv⟩
              have e25D := k25.get (nin1 naD') (k20.get (nin1 naD') e19D)
              have e25B := k25.get (nin1 naB') (k20.get (nin1 naB') e19B)
              walk_at "z"
              refine ⟨B, pa, ws, k, p, rfl, lstL e25B, by omega, hW, by omega, ep, pP, fun H26 fa ff k26 ef fL fB fv => ?_⟩
              walk_at "z"
              refine ⟨D, pa, ws, k, p, rfl, lstL (k26.get nin0 e25D), by omega, hW, by omega, ep.kp0 k26, pP, fun H27 fa2 ff2 k27 ef2 fL2 fB2 fv2 => ?_⟩
              obtain rfl : ff2 = ff := low_eq fL2 fL (by rw [fv2, fv])
              refine neF (ef.kp0 k27) ef2 ?_
              rw [decide_eq_true rfl]
              walk_at "z"
              have b27 : FrAt K H27 ba fs2 := (((b19.kpd k20 d19).kpd k25 d20).kp0 k26).kp0 k27
              refine ⟨ba, fa, fs2, ff2, rfl, b27, ef.kp0 k27, bB.mono (by decide), fB.mono (by decide), ?_⟩
              have hweakB : rv ff2 ≤ rv fs2 := by
                rw [fv2, bv9]
                refine weak pv (by rw [List.length_map, List.length_map]; exact (List.length_map _)) (ratW_pos hW) (fun p hp => ?_) ?_
                · obtain ⟨c, hc, rfl⟩ := List.mem_map.mp hp
                  exact ⟨(rv_pos (cC c hc).1.q).mp (cC c hc).1.p, (cC c hc).2⟩
                · rw [chF_bR hW gL, best_sum (ratW_pos hW) gT]
                  have : min k (ratW ws).length ≤ k := Nat.min_le_left _ _
                  exact_mod_cast this
              rw [fless_iff bL.1 fL.1, decide_eq_false (by grind)]
              walk_at "z"
              have O27 := ((ho20.kpd k25 d20).kp0 k26).kp0 k27
              have e27O := k27.get nin0 (k26.get nin0 (k25.get (nin1 naO) e20))
              have e27D := k27.get nin0 (k26.get nin0 e25D)
              have e27B := k27.get nin0 (k26.get nin0 e25B)
              have k2527 : Kp [a] H20 H27 := k25.trans ((k26.trans k27).sub (by simp))
              have d27 := (d25.kp0 k26).kp0 k27
              refine Z.forl (os.map V.ref) (lstL e27O) (fun j σ' H' => ∃ (y6 y14 : Option V), σ' = [some (.ref c), some (.ref a), some (.ref D), some (.int (k : Int)), some (.ref B), some (.ref ga), y6, some (.ref x), y8, some (.ref ba), some (.ref O), some (.int (i : Int)), some (.ref pa), some (.ref fa), y14, none] ∧ Kp [] H27 H') ⟨_, _, rfl, Kp.refl _⟩ ?_ ?_ ?_
              · rintro j σ' H28 hj ⟨y6, y14, rfl, k28⟩
                exact lstL (k28.get nin0 e27O)
              · rintro j v σ' H28 hv ⟨y6, y14, rfl, k28⟩
                rw [List.getElem?_map] at hv
                cases ho : os[j]? with
                | none => rw [ho] at hv; cases hv
                | some o =>
                  rw [ho] at hv
                  obtain rfl := Option.some.inj hv
                  obtain ⟨hoa, as, cs, eo, Fo, Co⟩ := (O27.kp0 k28) o (List.mem_of_getElem? ho)
                  have hCc : ∀ c ∈ cs, ChB c := fun c hc => (Co.ok c hc).1
                  have hwk : ∀ {p : Fr}, 0 ≤ rv p → pbR (ratW ws) (k : Rat) (rv p) ≤ sprR (ratW ws) (cs.map rv) := fun hp => weak hp (by rw [List.length_map, Co.len]; exact List.length_map _) (ratW_pos hW) (fun p hp => by
                    obtain ⟨c, hc, rfl⟩ := List.mem_map.mp hp
                    exact ⟨(rv_pos (Co.ok c hc).1.q).mp (Co.ok c hc).1.p, (Co.ok c hc).2⟩) Co.sum
                  walk_at "z"
                  refine ⟨o, _, rfl, .inl (lstL eo), fun cc ncc => ?_⟩
                  have k29 : Kp [] H28 (upd H28 cc (.lst (as.map V.ref))) := Kp.new ncc
                  have e29 : upd H28 cc (.lst (as.map V.ref)) cc = some (.lst (as.map V.ref)) := upd_same
                  generalize upd H28 cc (.lst (as.map V.ref)) = H29 at k29 e29 ⊢
                  have k279 := k28.trans k29
                  walk_at "z"
                  refine ⟨B, cc, as, ws, cs, rfl, lstL (k279.get nin0 e27B), lstL e29, Fo.kp0 k29, Co.len.symm, by omega, hW, hCc, fun H30 ta ft k30 et tL tB tv => ?_⟩
                  have k270 := k279.trans k30
                  walk_at "z"
                  refine ⟨D, o, as, ws, cs, rfl, lstL (k270.get nin0 e27D), lstL (k30.get nin0 (k29.get nin0 eo)), (Fo.kp0 k29).kp0 k30, Co.len.symm, by omega, hW, hCc, fun H31 ta2 ft2 k31 et2 tL2 tB2 tv2 => ?_⟩
                  obtain rfl : ft2 = ft := low_eq tL2 tL (by rw [tv2, tv])
                  have k271 := k270.trans k31
                  refine neF (et.kp0 k31) et2 ?_
                  rw [decide_eq_true rfl]
                  walk_at "z"
                  refine ⟨ta, fa, ft2, ff2, rfl, et.kp0 k31, (ef.kp0 k27).kp0 k271, tB.mono (by decide), fB.mono (by decide), ?_⟩
                  rw [fless_iff tL.1 fL.1, decide_eq_false (by
                    have := hwk pv
                    rw [tv, fv]
                    grind)]
                  walk_at "z"
                  refine ⟨ta, ba, ft2, fs2, rfl, et.kp0 k31, b27.kp0 k271, tB.mono (by decide), bB.mono (by decide), ?_⟩
                  rw [fless_iff tL.1 bL.1, decide_eq_false (by
                    have := hwk gn
                    rw [tv, bv]
                    grind)]
                  walk_at "z"
                  exact ⟨_, _, rfl, k271⟩
              · rintro σ' H28 ⟨y6, y14, rfl, k28⟩
                exact ⟨_, _, _, _, _, _, rfl, k2527.trans (k28.sub (by simp)), d27.kp0 k28⟩
            · intro N jn
              walk_at "z"
              have k204 : Kp [a] H20 H24 := k21.trans (k22.trans (k23.trans (k24.sub (by simp))))
              have d24 := d23.kp0 k24
              have g24 : FrAt K H24 ga g' := (g19.kpd k20 d19).kpd k204 d20
              refine Z.ite (fun h2 => ?_) (fun h2 => ?_)
              · walk_at "z"
                refine Z.ixT g24 (fr0 _) ?_
                walk_at "z"
                refine ⟨a, 5, rfl, d24, by decide, by decide, fun H25 v25 h250 h251 k25 d25 => ?_⟩
                have g25 := g24.kpd k25 d24
                walk_at "z"
                refine Z.iC (mul_ok (n := 77) gB.1 (up_B (n := 4) (by omega) (by decide))) ?_
                walk_at "z"
                refine Z.ixT g25 (fr1 _) ?_
                walk_at "z"
                refine Z.iC (.inr (by decide)) ?_
                walk_at "z"
                have gq := gL.1
                have q0 : g'.2 * 10 ≠ 0 := by omega
                have qB : (g'.2 * 10).natAbs < 2 ^ 81 := mul_B (n := 77) (m := 4) gB.2 (by decide)
                have nB : (g'.1 * (8 + v25)).natAbs < 2 ^ 81 := mul_B (n := 77) (m := 4) gB.1 (by omega)
                refine ⟨_, g'.2 * 10, rfl, by omega, up_B qB (by decide), fun H26 pa np k26 ep => ?_⟩
                walk_at "z"
                refine jn _ _ ⟨pa, _, rfl, (k204.trans k25).trans (k26.sub (by simp)), d25.kp0 k26, ep, ⟨(lo_low q0).1, lo_B q0 nB qB⟩, ?_⟩
                rw [rv_lo q0, Rat.div_def]
                refine Rat.mul_nonneg (by exact_mod_cast Int.mul_nonneg g0 (by omega)) ?_
                have := Rat.inv_pos.mpr (ratPos (show 0 < g'.2 * 10 by omega))
                grind
              · walk_at "z"
                exact jn _ _ ⟨pa0, _, rfl, k204, d24, ep0, ⟨p0L.1, p0B.mono (by decide)⟩, p0v⟩
          · rintro σ' H21 ⟨y6, y8, y11, y12, y13, y14, rfl, k21, d21⟩
            walk_at "z"
            exact eqLL (lstL (k21.get (nin1 naB') (k20.get (nin1 naB') e19B))) (lstL (k21.get (nin1 naD') (k20.get (nin1 naD') e19D))) (q _)

set_option maxHeartbeats 4000000 in
theorem all_mk {l : PySem.W.OpenLaw} {w : World} {K : PySem.W.Frag} {h : Heap} {mg : Str → Option Value} {fa : Addr} (X : K.In h) (G : h.Ns mainGlobals mg) (hfa : mg "law" = some (.ref fa))
    {CSamphireError : Addr}
    {CZeroDenominator fZeroDenominator cZeroDenominator ccZeroDenominator : Addr}
    {od1 an1 : Option Addr} {sl1 : Array (Option Value)} {oc1 kV1 dc1 pm1 cd1 ct1 : Value} {f1 : Addr}
    {od2 an2 : Option Addr} {sl2 : Array (Option Value)} {oc2 kV2 dc2 pm2 cd2 ct2 : Value} {f2 : Addr}
    {od3 an3 : Option Addr} {sl3 : Array (Option Value)} {oc3 kV3 dc3 pm3 cd3 ct3 : Value} {f3 : Addr}
    {od4 an4 : Option Addr} {sl4 : Array (Option Value)} {oc4 kV4 dc4 pm4 cd4 ct4 : Value} {f4 : Addr}
    {od5 an5 : Option Addr} {sl5 : Array (Option Value)} {oc5 kV5 dc5 pm5 cd5 ct5 : Value} {f5 : Addr}
    {od6 an6 : Option Addr} {sl6 : Array (Option Value)} {oc6 kV6 dc6 pm6 cd6 ct6 : Value} {f6 : Addr}
    {od7 an7 : Option Addr} {sl7 : Array (Option Value)} {oc7 kV7 dc7 pm7 cd7 ct7 : Value} {f7 : Addr}
    {od8 an8 : Option Addr} {sl8 : Array (Option Value)} {oc8 kV8 dc8 pm8 cd8 ct8 : Value} {f8 : Addr}
    {od9 an9 : Option Addr} {sl9 : Array (Option Value)} {oc9 kV9 dc9 pm9 cd9 ct9 : Value} {f9 : Addr}
    {od10 an10 : Option Addr} {sl10 : Array (Option Value)} {oc10 kV10 dc10 pm10 cd10 ct10 : Value} {f10 : Addr}
    {od11 an11 : Option Addr} {sl11 : Array (Option Value)} {oc11 kV11 dc11 pm11 cd11 ct11 : Value} {f11 : Addr}
    {od12 an12 : Option Addr} {sl12 : Array (Option Value)} {oc12 kV12 dc12 pm12 cd12 ct12 : Value} {f12 : Addr}
    {od13 an13 : Option Addr} {sl13 : Array (Option Value)} {oc13 kV13 dc13 pm13 cd13 ct13 : Value} {f13 : Addr}
    {od14 an14 : Option Addr} {sl14 : Array (Option Value)} {oc14 kV14 dc14 pm14 cd14 ct14 : Value} {f14 : Addr}
    {od15 an15 : Option Addr} {sl15 : Array (Option Value)} {oc15 kV15 dc15 pm15 cd15 ct15 : Value} {f15 : Addr}
    {od16 an16 : Option Addr} {sl16 : Array (Option Value)} {oc16 kV16 dc16 pm16 cd16 ct16 : Value} {f16 : Addr}
    {od17 an17 : Option Addr} {sl17 : Array (Option Value)} {oc17 kV17 dc17 pm17 cd17 ct17 : Value} {f17 : Addr}
    {od18 an18 : Option Addr} {sl18 : Array (Option Value)} {oc18 kV18 dc18 pm18 cd18 ct18 : Value} {f18 : Addr}
    {od19 an19 : Option Addr} {sl19 : Array (Option Value)} {oc19 kV19 dc19 pm19 cd19 ct19 : Value} {f19 : Addr}
    {od20 an20 : Option Addr} {sl20 : Array (Option Value)} {oc20 kV20 dc20 pm20 cd20 ct20 : Value} {f20 : Addr}
    {od21 an21 : Option Addr} {sl21 : Array (Option Value)} {oc21 kV21 dc21 pm21 cd21 ct21 : Value} {f21 : Addr}
    {od22 an22 : Option Addr} {sl22 : Array (Option Value)} {oc22 kV22 dc22 pm22 cd22 ct22 : Value} {f22 : Addr}
    {od23 an23 : Option Addr} {sl23 : Array (Option Value)} {oc23 kV23 dc23 pm23 cd23 ct23 : Value} {f23 : Addr}
    {od24 an24 : Option Addr} {sl24 : Array (Option Value)} {oc24 kV24 dc24 pm24 cd24 ct24 : Value} {f24 : Addr}
    {od25 an25 : Option Addr} {sl25 : Array (Option Value)} {oc25 kV25 dc25 pm25 cd25 ct25 : Value} {f25 : Addr}
    {od26 an26 : Option Addr} {sl26 : Array (Option Value)} {oc26 kV26 dc26 pm26 cd26 ct26 : Value} {f26 : Addr}
    {od27 an27 : Option Addr} {sl27 : Array (Option Value)} {oc27 kV27 dc27 pm27 cd27 ct27 : Value} {f27 : Addr}
    {od28 an28 : Option Addr} {sl28 : Array (Option Value)} {oc28 kV28 dc28 pm28 cd28 ct28 : Value} {f28 : Addr}
    {od29 an29 : Option Addr} {sl29 : Array (Option Value)} {oc29 kV29 dc29 pm29 cd29 ct29 : Value} {f29 : Addr}
    {nmZeroDenominator qZeroDenominator : Str} {NZeroDenominator : Addr} {bsZeroDenominator : List Value} {snZeroDenominator : List Str} {subZeroDenominator : List Value} {abZeroDenominator : Bool} {colZeroDenominator : Option Bool} {ddZeroDenominator : Option Addr} {m0ZeroDenominator m1ZeroDenominator m2ZeroDenominator m3ZeroDenominator m5ZeroDenominator : Option Value} {occZeroDenominator : Value} {cddZeroDenominator : Option Addr} {cvsZeroDenominator : List Value} {cslZeroDenominator : Array (Option Value)} {cclZeroDenominator : Value} {ccdZeroDenominator : Option Addr} {ccsZeroDenominator : Array (Option Value)} {ocZeroDenominator : Value} {odZeroDenominator : Option Addr} {oslZeroDenominator : Array (Option Value)} {docZeroDenominator pmZeroDenominator ctvZeroDenominator : Value}
    {k_ZERO : Addr} {od_ZERO : Option Addr} {nn_ZERO : Nat} {sl_ZERO : Array (Option Value)} {t0_ZERO t1_ZERO : Tok}
    {k_ONE : Addr} {od_ONE : Option Addr} {nn_ONE : Nat} {sl_ONE : Array (Option Value)} {t0_ONE t1_ONE : Tok}
    (a1 : PySem.W.nsIn K mainGlobals "lowest" = some (some (.ref f1)))
    (l1 : K.lookup f1 = some ⟨oc1, od1, .func (PySem.W.fnOf "lowest" "lowest" (defArgs s_lowest) (defBody s_lowest) (defScope s_lowest) .none kV1 dc1 pm1 an1 cd1 ct1), sl1⟩)
    (c1 : PySem.W.codeIn K cd1 "lowest" = true)
    (k1 : PySem.W.keepIn K (.ref f1) = true)
    (a2 : PySem.W.nsIn K mainGlobals "plus" = some (some (.ref f2)))
    (l2 : K.lookup f2 = some ⟨oc2, od2, .func (PySem.W.fnOf "plus" "plus" (defArgs s_plus) (defBody s_plus) (defScope s_plus) .none kV2 dc2 pm2 an2 cd2 ct2), sl2⟩)
    (c2 : PySem.W.codeIn K cd2 "plus" = true)
    (k2 : PySem.W.keepIn K (.ref f2) = true)
    (a3 : PySem.W.nsIn K mainGlobals "minus" = some (some (.ref f3)))
    (l3 : K.lookup f3 = some ⟨oc3, od3, .func (PySem.W.fnOf "minus" "minus" (defArgs s_minus) (defBody s_minus) (defScope s_minus) .none kV3 dc3 pm3 an3 cd3 ct3), sl3⟩)
    (c3 : PySem.W.codeIn K cd3 "minus" = true)
    (k3 : PySem.W.keepIn K (.ref f3) = true)
    (a4 : PySem.W.nsIn K mainGlobals "times" = some (some (.ref f4)))
    (l4 : K.lookup f4 = some ⟨oc4, od4, .func (PySem.W.fnOf "times" "times" (defArgs s_times) (defBody s_times) (defScope s_times) .none kV4 dc4 pm4 an4 cd4 ct4), sl4⟩)
    (c4 : PySem.W.codeIn K cd4 "times" = true)
    (k4 : PySem.W.keepIn K (.ref f4) = true)
    (a5 : PySem.W.nsIn K mainGlobals "over" = some (some (.ref f5)))
    (l5 : K.lookup f5 = some ⟨oc5, od5, .func (PySem.W.fnOf "over" "over" (defArgs s_over) (defBody s_over) (defScope s_over) .none kV5 dc5 pm5 an5 cd5 ct5), sl5⟩)
    (c5 : PySem.W.codeIn K cd5 "over" = true)
    (k5 : PySem.W.keepIn K (.ref f5) = true)
    (a6 : PySem.W.nsIn K mainGlobals "less" = some (some (.ref f6)))
    (l6 : K.lookup f6 = some ⟨oc6, od6, .func (PySem.W.fnOf "less" "less" (defArgs s_less) (defBody s_less) (defScope s_less) .none kV6 dc6 pm6 an6 cd6 ct6), sl6⟩)
    (c6 : PySem.W.codeIn K cd6 "less" = true)
    (k6 : PySem.W.keepIn K (.ref f6) = true)
    (a7 : PySem.W.nsIn K mainGlobals "sum_of" = some (some (.ref f7)))
    (l7 : K.lookup f7 = some ⟨oc7, od7, .func (PySem.W.fnOf "sum_of" "sum_of" (defArgs s_sum_of) (defBody s_sum_of) (defScope s_sum_of) .none kV7 dc7 pm7 an7 cd7 ct7), sl7⟩)
    (c7 : PySem.W.codeIn K cd7 "sum_of" = true)
    (k7 : PySem.W.keepIn K (.ref f7) = true)
    (a8 : PySem.W.nsIn K mainGlobals "common_denominator" = some (some (.ref f8)))
    (l8 : K.lookup f8 = some ⟨oc8, od8, .func (PySem.W.fnOf "common_denominator" "common_denominator" (defArgs s_common_denominator) (defBody s_common_denominator) (defScope s_common_denominator) .none kV8 dc8 pm8 an8 cd8 ct8), sl8⟩)
    (c8 : PySem.W.codeIn K cd8 "common_denominator" = true)
    (k8 : PySem.W.keepIn K (.ref f8) = true)
    (a9 : PySem.W.nsIn K mainGlobals "scaled" = some (some (.ref f9)))
    (l9 : K.lookup f9 = some ⟨oc9, od9, .func (PySem.W.fnOf "scaled" "scaled" (defArgs s_scaled) (defBody s_scaled) (defScope s_scaled) .none kV9 dc9 pm9 an9 cd9 ct9), sl9⟩)
    (c9 : PySem.W.codeIn K cd9 "scaled" = true)
    (k9 : PySem.W.keepIn K (.ref f9) = true)
    (a10 : PySem.W.nsIn K mainGlobals "threshold" = some (some (.ref f10)))
    (l10 : K.lookup f10 = some ⟨oc10, od10, .func (PySem.W.fnOf "threshold" "threshold" (defArgs s_threshold) (defBody s_threshold) (defScope s_threshold) .none kV10 dc10 pm10 an10 cd10 ct10), sl10⟩)
    (c10 : PySem.W.codeIn K cd10 "threshold" = true)
    (k10 : PySem.W.keepIn K (.ref f10) = true)
    (a11 : PySem.W.nsIn K mainGlobals "chance_at" = some (some (.ref f11)))
    (l11 : K.lookup f11 = some ⟨oc11, od11, .func (PySem.W.fnOf "chance_at" "chance_at" (defArgs s_chance_at) (defBody s_chance_at) (defScope s_chance_at) .none kV11 dc11 pm11 an11 cd11 ct11), sl11⟩)
    (c11 : PySem.W.codeIn K cd11 "chance_at" = true)
    (k11 : PySem.W.keepIn K (.ref f11) = true)
    (a12 : PySem.W.nsIn K mainGlobals "as_fractions" = some (some (.ref f12)))
    (l12 : K.lookup f12 = some ⟨oc12, od12, .func (PySem.W.fnOf "as_fractions" "as_fractions" (defArgs s_as_fractions) (defBody s_as_fractions) (defScope s_as_fractions) .none kV12 dc12 pm12 an12 cd12 ct12), sl12⟩)
    (c12 : PySem.W.codeIn K cd12 "as_fractions" = true)
    (k12 : PySem.W.keepIn K (.ref f12) = true)
    (a13 : PySem.W.nsIn K mainGlobals "spread" = some (some (.ref f13)))
    (l13 : K.lookup f13 = some ⟨oc13, od13, .func (PySem.W.fnOf "spread" "spread" (defArgs s_spread) (defBody s_spread) (defScope s_spread) .none kV13 dc13 pm13 an13 cd13 ct13), sl13⟩)
    (c13 : PySem.W.codeIn K cd13 "spread" = true)
    (k13 : PySem.W.keepIn K (.ref f13) = true)
    (a14 : PySem.W.nsIn K mainGlobals "price_bound" = some (some (.ref f14)))
    (l14 : K.lookup f14 = some ⟨oc14, od14, .func (PySem.W.fnOf "price_bound" "price_bound" (defArgs s_price_bound) (defBody s_price_bound) (defScope s_price_bound) .none kV14 dc14 pm14 an14 cd14 ct14), sl14⟩)
    (c14 : PySem.W.codeIn K cd14 "price_bound" = true)
    (k14 : PySem.W.keepIn K (.ref f14) = true)
    (a15 : PySem.W.nsIn K mainGlobals "best_price" = some (some (.ref f15)))
    (l15 : K.lookup f15 = some ⟨oc15, od15, .func (PySem.W.fnOf "best_price" "best_price" (defArgs s_best_price) (defBody s_best_price) (defScope s_best_price) .none kV15 dc15 pm15 an15 cd15 ct15), sl15⟩)
    (c15 : PySem.W.codeIn K cd15 "best_price" = true)
    (k15 : PySem.W.keepIn K (.ref f15) = true)
    (a16 : PySem.W.nsIn K mainGlobals "best_chances" = some (some (.ref f16)))
    (l16 : K.lookup f16 = some ⟨oc16, od16, .func (PySem.W.fnOf "best_chances" "best_chances" (defArgs s_best_chances) (defBody s_best_chances) (defScope s_best_chances) .none kV16 dc16 pm16 an16 cd16 ct16), sl16⟩)
    (c16 : PySem.W.codeIn K cd16 "best_chances" = true)
    (k16 : PySem.W.keepIn K (.ref f16) = true)
    (a17 : PySem.W.nsIn K mainGlobals "_law_mix" = some (some (.ref f17)))
    (l17 : K.lookup f17 = some ⟨oc17, od17, .func (PySem.W.fnOf "_law_mix" "_law_mix" (defArgs s__law_mix) (defBody s__law_mix) (defScope s__law_mix) .none kV17 dc17 pm17 an17 cd17 ct17), sl17⟩)
    (c17 : PySem.W.codeIn K cd17 "_law_mix" = true)
    (k17 : PySem.W.keepIn K (.ref f17) = true)
    (a18 : PySem.W.nsIn K mainGlobals "_law_numbers" = some (some (.ref f18)))
    (l18 : K.lookup f18 = some ⟨oc18, od18, .func (PySem.W.fnOf "_law_numbers" "_law_numbers" (defArgs s__law_numbers) (defBody s__law_numbers) (defScope s__law_numbers) .none kV18 dc18 pm18 an18 cd18 ct18), sl18⟩)
    (c18 : PySem.W.codeIn K cd18 "_law_numbers" = true)
    (k18 : PySem.W.keepIn K (.ref f18) = true)
    (a19 : PySem.W.nsIn K mainGlobals "_law_take" = some (some (.ref f19)))
    (l19 : K.lookup f19 = some ⟨oc19, od19, .func (PySem.W.fnOf "_law_take" "_law_take" (defArgs s__law_take) (defBody s__law_take) (defScope s__law_take) .none kV19 dc19 pm19 an19 cd19 ct19), sl19⟩)
    (c19 : PySem.W.codeIn K cd19 "_law_take" = true)
    (k19 : PySem.W.keepIn K (.ref f19) = true)
    (a20 : PySem.W.nsIn K mainGlobals "_law_low" = some (some (.ref f20)))
    (l20 : K.lookup f20 = some ⟨oc20, od20, .func (PySem.W.fnOf "_law_low" "_law_low" (defArgs s__law_low) (defBody s__law_low) (defScope s__law_low) .none kV20 dc20 pm20 an20 cd20 ct20), sl20⟩)
    (c20 : PySem.W.codeIn K cd20 "_law_low" = true)
    (k20 : PySem.W.keepIn K (.ref f20) = true)
    (a21 : PySem.W.nsIn K mainGlobals "_law_plus" = some (some (.ref f21)))
    (l21 : K.lookup f21 = some ⟨oc21, od21, .func (PySem.W.fnOf "_law_plus" "_law_plus" (defArgs s__law_plus) (defBody s__law_plus) (defScope s__law_plus) .none kV21 dc21 pm21 an21 cd21 ct21), sl21⟩)
    (c21 : PySem.W.codeIn K cd21 "_law_plus" = true)
    (k21 : PySem.W.keepIn K (.ref f21) = true)
    (a22 : PySem.W.nsIn K mainGlobals "_law_times" = some (some (.ref f22)))
    (l22 : K.lookup f22 = some ⟨oc22, od22, .func (PySem.W.fnOf "_law_times" "_law_times" (defArgs s__law_times) (defBody s__law_times) (defScope s__law_times) .none kV22 dc22 pm22 an22 cd22 ct22), sl22⟩)
    (c22 : PySem.W.codeIn K cd22 "_law_times" = true)
    (k22 : PySem.W.keepIn K (.ref f22) = true)
    (a23 : PySem.W.nsIn K mainGlobals "_law_less" = some (some (.ref f23)))
    (l23 : K.lookup f23 = some ⟨oc23, od23, .func (PySem.W.fnOf "_law_less" "_law_less" (defArgs s__law_less) (defBody s__law_less) (defScope s__law_less) .none kV23 dc23 pm23 an23 cd23 ct23), sl23⟩)
    (c23 : PySem.W.codeIn K cd23 "_law_less" = true)
    (k23 : PySem.W.keepIn K (.ref f23) = true)
    (a24 : PySem.W.nsIn K mainGlobals "_law_minus" = some (some (.ref f24)))
    (l24 : K.lookup f24 = some ⟨oc24, od24, .func (PySem.W.fnOf "_law_minus" "_law_minus" (defArgs s__law_minus) (defBody s__law_minus) (defScope s__law_minus) .none kV24 dc24 pm24 an24 cd24 ct24), sl24⟩)
    (c24 : PySem.W.codeIn K cd24 "_law_minus" = true)
    (k24 : PySem.W.keepIn K (.ref f24) = true)
    (a25 : PySem.W.nsIn K mainGlobals "_law_bound" = some (some (.ref f25)))
    (l25 : K.lookup f25 = some ⟨oc25, od25, .func (PySem.W.fnOf "_law_bound" "_law_bound" (defArgs s__law_bound) (defBody s__law_bound) (defScope s__law_bound) .none kV25 dc25 pm25 an25 cd25 ct25), sl25⟩)
    (c25 : PySem.W.codeIn K cd25 "_law_bound" = true)
    (k25 : PySem.W.keepIn K (.ref f25) = true)
    (a26 : PySem.W.nsIn K mainGlobals "_law_spread" = some (some (.ref f26)))
    (l26 : K.lookup f26 = some ⟨oc26, od26, .func (PySem.W.fnOf "_law_spread" "_law_spread" (defArgs s__law_spread) (defBody s__law_spread) (defScope s__law_spread) .none kV26 dc26 pm26 an26 cd26 ct26), sl26⟩)
    (c26 : PySem.W.codeIn K cd26 "_law_spread" = true)
    (k26 : PySem.W.keepIn K (.ref f26) = true)
    (a27 : PySem.W.nsIn K mainGlobals "_law_chances" = some (some (.ref f27)))
    (l27 : K.lookup f27 = some ⟨oc27, od27, .func (PySem.W.fnOf "_law_chances" "_law_chances" (defArgs s__law_chances) (defBody s__law_chances) (defScope s__law_chances) .none kV27 dc27 pm27 an27 cd27 ct27), sl27⟩)
    (c27 : PySem.W.codeIn K cd27 "_law_chances" = true)
    (k27 : PySem.W.keepIn K (.ref f27) = true)
    (a28 : PySem.W.nsIn K mainGlobals "_law_kept" = some (some (.ref f28)))
    (l28 : K.lookup f28 = some ⟨oc28, od28, .func (PySem.W.fnOf "_law_kept" "_law_kept" (defArgs s__law_kept) (defBody s__law_kept) (defScope s__law_kept) .none kV28 dc28 pm28 an28 cd28 ct28), sl28⟩)
    (c28 : PySem.W.codeIn K cd28 "_law_kept" = true)
    (k28 : PySem.W.keepIn K (.ref f28) = true)
    (a29 : PySem.W.nsIn K mainGlobals "law" = some (some (.ref f29)))
    (l29 : K.lookup f29 = some ⟨oc29, od29, .func (PySem.W.fnOf "law" "law" (defArgs s_law) (defBody s_law) (defScope s_law) .none kV29 dc29 pm29 an29 cd29 ct29), sl29⟩)
    (c29 : PySem.W.codeIn K cd29 "law" = true)
    (k29 : PySem.W.keepIn K (.ref f29) = true)
    (aCSamphireError : PySem.W.nsIn K mainGlobals "SamphireError" = some (some (.ref CSamphireError)))
    (aCZeroDenominator : PySem.W.nsIn K mainGlobals "ZeroDenominator" = some (some (.ref CZeroDenominator)))
    (iCZeroDenominator : PySem.W.findIn K (.ref CZeroDenominator) "__init__" = some (some (.ref fZeroDenominator)))
    (tIZeroDenominator : PySem.W.typeIn K (.ref fZeroDenominator) = some (.type "function"))
    (lkZeroDenominator : K.lookup fZeroDenominator = some ⟨ocZeroDenominator, odZeroDenominator, .func ((NF_ZeroDenominator ccZeroDenominator cZeroDenominator).fd docZeroDenominator pmZeroDenominator ctvZeroDenominator), oslZeroDenominator⟩)
    (hcZeroDenominator : PySem.W.codeIn K (.ref cZeroDenominator) "ZeroDenominator.__init__" = true)
    (xLZeroDenominator : K.lookup CZeroDenominator = some (excClassObj nmZeroDenominator qZeroDenominator CZeroDenominator NZeroDenominator bsZeroDenominator [.ref CSamphireError, .type "ValueError", .type "Exception", .type "BaseException", .type "object"] true snZeroDenominator subZeroDenominator abZeroDenominator colZeroDenominator ddZeroDenominator m0ZeroDenominator m1ZeroDenominator m2ZeroDenominator m3ZeroDenominator m5ZeroDenominator "ValueError.__new__"))
    (saZeroDenominator : PySem.W.findIn K (.ref CZeroDenominator) "__setattr__" = some (some (.builtin "object.__setattr__")))
    (sBZeroDenominator : PySem.W.subIn K (.ref CZeroDenominator) (.type "BaseException") = some true)
    (tCZeroDenominator : PySem.W.typeIn K (.ref CZeroDenominator) = some (.type "type"))
    (kCZeroDenominator : PySem.W.keepIn K (.ref CZeroDenominator) = true)
    (coZeroDenominator : K.lookup cZeroDenominator = some ⟨occZeroDenominator, cddZeroDenominator, .fields cvsZeroDenominator.toArray, cslZeroDenominator⟩)
    (flZeroDenominator : (match cvsZeroDenominator with | _ :: _ :: .str file _ :: _ => (l.prog.main.file : Str) == file | _ => false) = true)
    (ceZeroDenominator : K.lookup ccZeroDenominator = some ⟨cclZeroDenominator, ccdZeroDenominator, .cell (some (.ref CZeroDenominator)), ccsZeroDenominator⟩)
    (mrZeroDenominator : PySem.W.mroIn K CZeroDenominator (.ref CZeroDenominator) = some true)
    (sVZeroDenominator : PySem.W.subIn K (.ref CZeroDenominator) (.type "ValueError") = some true)
    (anZeroDenominator : PySem.W.nsIn K PySem.cStatics "thirdparty.any" = some none)
    (suZeroDenominator : PySem.W.ks_superIn K CZeroDenominator CZeroDenominator "__init__" = some (some (.builtin "ValueError.__init__")))
    (tpZeroDenominator : (l.prog.main.scope.names.lookup ("super" : Str)).isSome = false)
    (hgZeroDenominator : PySem.W.findIn K (.ref CZeroDenominator) "__getattribute__" = some (some (.builtin "BaseException.__getattribute__")))
    (hkZeroDenominator : PySem.W.findIn K (.ref CZeroDenominator) "__getattr__" = some none)
    (hdZeroDenominator : PySem.W.hasDictIn K CZeroDenominator = true)
    (haZeroDenominator : PySem.W.findIn K (.ref CZeroDenominator) "__class__" = some (some (.builtin "object.__class__")))
    (hnZeroDenominator : PySem.W.specialIn K (.builtin "object.__class__") "__get__" = some (some (.builtin "getset_descriptor.__get__")))
    (htZeroDenominator : PySem.W.takesIn K (.builtin "object.__class__") = some true)
    (hmZeroDenominator : PySem.W.mroIn K CZeroDenominator (.type "object") = some true)
    (icZeroDenominator : PySem.W.isClsIn K CZeroDenominator = true)
    (sCZeroDenominator : PySem.W.subIn K (.ref CZeroDenominator) (.ref CZeroDenominator) = some true)
    (z_abs : PySem.W.nsIn K mainGlobals "abs" = some none)
    (z_int : PySem.W.nsIn K mainGlobals "int" = some none)
    (z_len : PySem.W.nsIn K mainGlobals "len" = some none)
    (z_list : PySem.W.nsIn K mainGlobals "list" = some none)
    (z_max : PySem.W.nsIn K mainGlobals "max" = some none)
    (z_min : PySem.W.nsIn K mainGlobals "min" = some none)
    (z_range : PySem.W.nsIn K mainGlobals "range" = some none)
    (z_sorted : PySem.W.nsIn K mainGlobals "sorted" = some none)
    (z_sum : PySem.W.nsIn K mainGlobals "sum" = some none)
    (z_super : PySem.W.nsIn K mainGlobals "super" = some none)
    (z_zip : PySem.W.nsIn K mainGlobals "zip" = some none)
    (v_ZERO : PySem.W.nsIn K mainGlobals "ZERO" = some (some (.ref k_ZERO)))
    (l_ZERO : K.lookup k_ZERO = some ⟨.type "tuple", od_ZERO, .seq #[.int (0) t0_ZERO, .int (1) t1_ZERO] nn_ZERO, sl_ZERO⟩)
    (v_ONE : PySem.W.nsIn K mainGlobals "ONE" = some (some (.ref k_ONE)))
    (l_ONE : K.lookup k_ONE = some ⟨.type "tuple", od_ONE, .seq #[.int (1) t0_ONE, .int (1) t1_ONE] nn_ONE, sl_ONE⟩)
    (g_gcd : PySem.W.nsIn K mainGlobals "gcd" = some (some (.builtin "math.gcd")))
    (g_lcm : PySem.W.nsIn K mainGlobals "lcm" = some (some (.builtin "math.lcm"))) :
    ∃ fd : FuncData, (∀ (s : Shared) (v : Value), BindsTo s fd ⟨[v], []⟩ [("script", v)]) ∧ ∀ base : Heap, K.In base → base.Ns mainGlobals mg → FnOk l.prog w K mg base CX0 7 fa fd ["script"] (spLaw K) := by
  have e : f29 = fa := by
    have e := hfa.symm.trans (PySem.W.mg_of X G a29)
    cases e
    rfl
  subst e
  let t : T l.prog K mg := {
    a_lowest := f1, fd_lowest := _, F_lowest := fun_mk (st := s_lowest) l1 c1 k1, b_lowest := (fun_mk (st := s_lowest) l1 c1 k1).binds (ps := ["p", "q"]) (fun _ _ _ _ _ _ us hl => match us, hl with | [_, _], _ => rfl),
    g_lowest := PySem.W.mg_of X G a1,
    a_plus := f2, fd_plus := _, F_plus := fun_mk (st := s_plus) l2 c2 k2, b_plus := (fun_mk (st := s_plus) l2 c2 k2).binds (ps := ["a", "b"]) (fun _ _ _ _ _ _ us hl => match us, hl with | [_, _], _ => rfl),
    g_plus := PySem.W.mg_of X G a2,
    a_minus := f3, fd_minus := _, F_minus := fun_mk (st := s_minus) l3 c3 k3, b_minus := (fun_mk (st := s_minus) l3 c3 k3).binds (ps := ["a", "b"]) (fun _ _ _ _ _ _ us hl => match us, hl with | [_, _], _ => rfl),
    g_minus := PySem.W.mg_of X G a3,
    a_times := f4, fd_times := _, F_times := fun_mk (st := s_times) l4 c4 k4, b_times := (fun_mk (st := s_times) l4 c4 k4).binds (ps := ["a", "b"]) (fun _ _ _ _ _ _ us hl => match us, hl with | [_, _], _ => rfl),
    g_times := PySem.W.mg_of X G a4,
    a_over := f5, fd_over := _, F_over := fun_mk (st := s_over) l5 c5 k5, b_over := (fun_mk (st := s_over) l5 c5 k5).binds (ps := ["a", "b"]) (fun _ _ _ _ _ _ us hl => match us, hl with | [_, _], _ => rfl),
    g_over := PySem.W.mg_of X G a5,
    a_less := f6, fd_less := _, F_less := fun_mk (st := s_less) l6 c6 k6, b_less := (fun_mk (st := s_less) l6 c6 k6).binds (ps := ["a", "b"]) (fun _ _ _ _ _ _ us hl => match us, hl with | [_, _], _ => rfl),
    g_less := PySem.W.mg_of X G a6,
    a_sum_of := f7, fd_sum_of := _, F_sum_of := fun_mk (st := s_sum_of) l7 c7 k7, b_sum_of := (fun_mk (st := s_sum_of) l7 c7 k7).binds (ps := ["fractions"]) (fun _ _ _ _ _ _ us hl => match us, hl with | [_], _ => rfl),
    g_sum_of := PySem.W.mg_of X G a7,
    a_common_denominator := f8, fd_common_denominator := _, F_common_denominator := fun_mk (st := s_common_denominator) l8 c8 k8, b_common_denominator := (fun_mk (st := s_common_denominator) l8 c8 k8).binds (ps := ["fractions"]) (fun _ _ _ _ _ _ us hl => match us, hl with | [_], _ => rfl),
    g_common_denominator := PySem.W.mg_of X G a8,
    a_scaled := f9, fd_scaled := _, F_scaled := fun_mk (st := s_scaled) l9 c9 k9, b_scaled := (fun_mk (st := s_scaled) l9 c9 k9).binds (ps := ["fractions", "factor"]) (fun _ _ _ _ _ _ us hl => match us, hl with | [_, _], _ => rfl),
    g_scaled := PySem.W.mg_of X G a9,
    a_threshold := f10, fd_threshold := _, F_threshold := fun_mk (st := s_threshold) l10 c10 k10, b_threshold := (fun_mk (st := s_threshold) l10 c10 k10).binds (ps := ["weights", "size"]) (fun _ _ _ _ _ _ us hl => match us, hl with | [_, _], _ => rfl),
    g_threshold := PySem.W.mg_of X G a10,
    a_chance_at := f11, fd_chance_at := _, F_chance_at := fun_mk (st := s_chance_at) l11 c11 k11, b_chance_at := (fun_mk (st := s_chance_at) l11 c11 k11).binds (ps := ["weight", "bar"]) (fun _ _ _ _ _ _ us hl => match us, hl with | [_, _], _ => rfl),
    g_chance_at := PySem.W.mg_of X G a11,
    a_as_fractions := f12, fd_as_fractions := _, F_as_fractions := fun_mk (st := s_as_fractions) l12 c12 k12, b_as_fractions := (fun_mk (st := s_as_fractions) l12 c12 k12).binds (ps := ["weights"]) (fun _ _ _ _ _ _ us hl => match us, hl with | [_], _ => rfl),
    g_as_fractions := PySem.W.mg_of X G a12,
    a_spread := f13, fd_spread := _, F_spread := fun_mk (st := s_spread) l13 c13 k13, b_spread := (fun_mk (st := s_spread) l13 c13 k13).binds (ps := ["weights", "chances"]) (fun _ _ _ _ _ _ us hl => match us, hl with | [_, _], _ => rfl),
    g_spread := PySem.W.mg_of X G a13,
    a_price_bound := f14, fd_price_bound := _, F_price_bound := fun_mk (st := s_price_bound) l14 c14 k14, b_price_bound := (fun_mk (st := s_price_bound) l14 c14 k14).binds (ps := ["weights", "size", "price"]) (fun _ _ _ _ _ _ us hl => match us, hl with | [_, _, _], _ => rfl),
    g_price_bound := PySem.W.mg_of X G a14,
    a_best_price := f15, fd_best_price := _, F_best_price := fun_mk (st := s_best_price) l15 c15 k15, b_best_price := (fun_mk (st := s_best_price) l15 c15 k15).binds (ps := ["weights", "size"]) (fun _ _ _ _ _ _ us hl => match us, hl with | [_, _], _ => rfl),
    g_best_price := PySem.W.mg_of X G a15,
    a_best_chances := f16, fd_best_chances := _, F_best_chances := fun_mk (st := s_best_chances) l16 c16 k16, b_best_chances := (fun_mk (st := s_best_chances) l16 c16 k16).binds (ps := ["weights", "size"]) (fun _ _ _ _ _ _ us hl => match us, hl with | [_, _], _ => rfl),
    g_best_chances := PySem.W.mg_of X G a16,
    a__law_mix := f17, fd__law_mix := _, F__law_mix := fun_mk (st := s__law_mix) l17 c17 k17, b__law_mix := (fun_mk (st := s__law_mix) l17 c17 k17).binds (ps := ["number", "k"]) (fun _ _ _ _ _ _ us hl => match us, hl with | [_, _], _ => rfl),
    g__law_mix := PySem.W.mg_of X G a17,
    a__law_numbers := f18, fd__law_numbers := _, F__law_numbers := fun_mk (st := s__law_numbers) l18 c18 k18, b__law_numbers := (fun_mk (st := s__law_numbers) l18 c18 k18).binds (ps := ["script", "count"]) (fun _ _ _ _ _ _ us hl => match us, hl with | [_, _], _ => rfl),
    g__law_numbers := PySem.W.mg_of X G a18,
    a__law_take := f19, fd__law_take := _, F__law_take := fun_mk (st := s__law_take) l19 c19 k19, b__law_take := (fun_mk (st := s__law_take) l19 c19 k19).binds (ps := ["row", "bound"]) (fun _ _ _ _ _ _ us hl => match us, hl with | [_, _], _ => rfl),
    g__law_take := PySem.W.mg_of X G a19,
    a__law_low := f20, fd__law_low := _, F__law_low := fun_mk (st := s__law_low) l20 c20 k20, b__law_low := (fun_mk (st := s__law_low) l20 c20 k20).binds (ps := ["p", "q"]) (fun _ _ _ _ _ _ us hl => match us, hl with | [_, _], _ => rfl),
    g__law_low := PySem.W.mg_of X G a20,
    a__law_plus := f21, fd__law_plus := _, F__law_plus := fun_mk (st := s__law_plus) l21 c21 k21, b__law_plus := (fun_mk (st := s__law_plus) l21 c21 k21).binds (ps := ["one", "other"]) (fun _ _ _ _ _ _ us hl => match us, hl with | [_, _], _ => rfl),
    g__law_plus := PySem.W.mg_of X G a21,
    a__law_times := f22, fd__law_times := _, F__law_times := fun_mk (st := s__law_times) l22 c22 k22, b__law_times := (fun_mk (st := s__law_times) l22 c22 k22).binds (ps := ["one", "other"]) (fun _ _ _ _ _ _ us hl => match us, hl with | [_, _], _ => rfl),
    g__law_times := PySem.W.mg_of X G a22,
    a__law_less := f23, fd__law_less := _, F__law_less := fun_mk (st := s__law_less) l23 c23 k23, b__law_less := (fun_mk (st := s__law_less) l23 c23 k23).binds (ps := ["one", "other"]) (fun _ _ _ _ _ _ us hl => match us, hl with | [_, _], _ => rfl),
    g__law_less := PySem.W.mg_of X G a23,
    a__law_minus := f24, fd__law_minus := _, F__law_minus := fun_mk (st := s__law_minus) l24 c24 k24, b__law_minus := (fun_mk (st := s__law_minus) l24 c24 k24).binds (ps := ["one", "other"]) (fun _ _ _ _ _ _ us hl => match us, hl with | [_, _], _ => rfl),
    g__law_minus := PySem.W.mg_of X G a24,
    a__law_bound := f25, fd__law_bound := _, F__law_bound := fun_mk (st := s__law_bound) l25 c25 k25, b__law_bound := (fun_mk (st := s__law_bound) l25 c25 k25).binds (ps := ["weights", "size", "price"]) (fun _ _ _ _ _ _ us hl => match us, hl with | [_, _, _], _ => rfl),
    g__law_bound := PySem.W.mg_of X G a25,
    a__law_spread := f26, fd__law_spread := _, F__law_spread := fun_mk (st := s__law_spread) l26 c26 k26, b__law_spread := (fun_mk (st := s__law_spread) l26 c26 k26).binds (ps := ["weights", "chances"]) (fun _ _ _ _ _ _ us hl => match us, hl with | [_, _], _ => rfl),
    g__law_spread := PySem.W.mg_of X G a26,
    a__law_chances := f27, fd__law_chances := _, F__law_chances := fun_mk (st := s__law_chances) l27 c27 k27, b__law_chances := (fun_mk (st := s__law_chances) l27 c27 k27).binds (ps := ["row", "many", "size"]) (fun _ _ _ _ _ _ us hl => match us, hl with | [_, _, _], _ => rfl),
    g__law_chances := PySem.W.mg_of X G a27,
    a__law_kept := f28, fd__law_kept := _, F__law_kept := fun_mk (st := s__law_kept) l28 c28 k28, b__law_kept := (fun_mk (st := s__law_kept) l28 c28 k28).binds (ps := ["weights", "price"]) (fun _ _ _ _ _ _ us hl => match us, hl with | [_, _], _ => rfl),
    g__law_kept := PySem.W.mg_of X G a28,
    a_law := f29, fd_law := _, F_law := fun_mk (st := s_law) l29 c29 k29, b_law := (fun_mk (st := s_law) l29 c29 k29).binds (ps := ["script"]) (fun _ _ _ _ _ _ us hl => match us, hl with | [_], _ => rfl),
    g_law := PySem.W.mg_of X G a29,
    C_SamphireError := CSamphireError, mg_SamphireError := PySem.W.mg_of X G aCSamphireError,
    C_ZeroDenominator := CZeroDenominator, a_ZeroDenominator_init := fZeroDenominator, c_ZeroDenominator := cZeroDenominator, cc_ZeroDenominator := ccZeroDenominator, doc_ZeroDenominator := docZeroDenominator, pm_ZeroDenominator := pmZeroDenominator, ctv_ZeroDenominator := ctvZeroDenominator, oc_ZeroDenominator := ocZeroDenominator, od_ZeroDenominator := odZeroDenominator, osl_ZeroDenominator := oslZeroDenominator, lk_ZeroDenominator := lkZeroDenominator, hc_ZeroDenominator := hcZeroDenominator,
    x_ZeroDenominator := Sup.excT_mk xLZeroDenominator rfl saZeroDenominator sBZeroDenominator tCZeroDenominator kCZeroDenominator coZeroDenominator flZeroDenominator ceZeroDenominator mrZeroDenominator sVZeroDenominator (PySem.W.mg_none_of X G z_super) anZeroDenominator suZeroDenominator tpZeroDenominator (PySem.W.mg_of X G aCZeroDenominator) iCZeroDenominator tIZeroDenominator ⟨hgZeroDenominator, hkZeroDenominator, sBZeroDenominator, hdZeroDenominator, haZeroDenominator, hnZeroDenominator, htZeroDenominator, hmZeroDenominator⟩ icZeroDenominator sCZeroDenominator,
    bx_ZeroDenominator := .all (fun us hl => match us, hl with | [_], _ => rfl),
    z_abs := PySem.W.mg_none_of X G z_abs,
    z_int := PySem.W.mg_none_of X G z_int,
    z_len := PySem.W.mg_none_of X G z_len,
    z_list := PySem.W.mg_none_of X G z_list,
    z_max := PySem.W.mg_none_of X G z_max,
    z_min := PySem.W.mg_none_of X G z_min,
    z_range := PySem.W.mg_none_of X G z_range,
    z_sorted := PySem.W.mg_none_of X G z_sorted,
    z_sum := PySem.W.mg_none_of X G z_sum,
    z_super := PySem.W.mg_none_of X G z_super,
    z_zip := PySem.W.mg_none_of X G z_zip,
    k_ZERO := k_ZERO, g_ZERO := PySem.W.mg_of X G v_ZERO, q_ZERO := fun H => .inr ⟨_, _, _, l_ZERO, rfl, rfl, (show 2 ≤ sizeLine by decide), (.cons ⟨_, rfl⟩ (.cons ⟨_, rfl⟩ .nil))⟩,
    k_ONE := k_ONE, g_ONE := PySem.W.mg_of X G v_ONE, q_ONE := fun H => .inr ⟨_, _, _, l_ONE, rfl, rfl, (show 2 ≤ sizeLine by decide), (.cons ⟨_, rfl⟩ (.cons ⟨_, rfl⟩ .nil))⟩,
    g_gcd := PySem.W.mg_of X G g_gcd,
    g_lcm := PySem.W.mg_of X G g_lcm }
  exact ⟨t.fd_law, fun s v => .of_eq rfl, fun base _ _ => ok_law t⟩

end K53
open PySem PySem.W PyProof.Rows in
set_option maxRecDepth 100000 in
set_option maxHeartbeats 0 in
theorem PySem.Challenge.cw_samphire_k53_whole_no_lesser_spread_holds : PySem.Challenge.rw_samphire_k53_whole_no_lesser_spread.Holds := by
  w_on; o_law; k_head; (case hw => w_witness2)
  k_fill
  refine L2.walk_ofB (l := PySem.Challenge.rw_samphire_k53_whole_no_lesser_spread) (n := 63) (k := 7) (x := "script") (CX := fun w => L2.CX0) (sp := fun w => K53.spLaw _) rfl (by decide) rfl ⟨rfl, by decide, by decide⟩ (fun w h Y => PySem.W.kIn_of Y) ?F (fun _ H a ns hl hb _ hS => ⟨a, ns, rfl, hS, hl, hb, fun _ => rfl⟩) (fun _ _ _ _ _ h => h)
  case F =>
    intro w mg fa h KX G hmg
    refine' K53.all_mk KX G hmg ?a1 ?l1 ?c1 ?k1 ?a2 ?l2 ?c2 ?k2 ?a3 ?l3 ?c3 ?k3 ?a4 ?l4 ?c4 ?k4 ?a5 ?l5 ?c5 ?k5 ?a6 ?l6 ?c6 ?k6 ?a7 ?l7 ?c7 ?k7 ?a8 ?l8 ?c8 ?k8 ?a9 ?l9 ?c9 ?k9 ?a10 ?l10 ?c10 ?k10 ?a11 ?l11 ?c11 ?k11 ?a12 ?l12 ?c12 ?k12 ?a13 ?l13 ?c13 ?k13 ?a14 ?l14 ?c14 ?k14 ?a15 ?l15 ?c15 ?k15 ?a16 ?l16 ?c16 ?k16 ?a17 ?l17 ?c17 ?k17 ?a18 ?l18 ?c18 ?k18 ?a19 ?l19 ?c19 ?k19 ?a20 ?l20 ?c20 ?k20 ?a21 ?l21 ?c21 ?k21 ?a22 ?l22 ?c22 ?k22 ?a23 ?l23 ?c23 ?k23 ?a24 ?l24 ?c24 ?k24 ?a25 ?l25 ?c25 ?k25 ?a26 ?l26 ?c26 ?k26 ?a27 ?l27 ?c27 ?k27 ?a28 ?l28 ?c28 ?k28 ?a29 ?l29 ?c29 ?k29 ?aCSamphireError ?aCZeroDenominator ?iCZeroDenominator ?tIZeroDenominator ?lkZeroDenominator ?hcZeroDenominator ?xLZeroDenominator ?saZeroDenominator ?sBZeroDenominator ?tCZeroDenominator ?kCZeroDenominator ?coZeroDenominator ?flZeroDenominator ?ceZeroDenominator ?mrZeroDenominator ?sVZeroDenominator ?anZeroDenominator ?suZeroDenominator ?tpZeroDenominator ?hgZeroDenominator ?hkZeroDenominator ?hdZeroDenominator ?haZeroDenominator ?hnZeroDenominator ?htZeroDenominator ?hmZeroDenominator ?icZeroDenominator ?sCZeroDenominator ?z_abs ?z_int ?z_len ?z_list ?z_max ?z_min ?z_range ?z_sorted ?z_sum ?z_super ?z_zip ?v_ZERO ?l_ZERO ?v_ONE ?l_ONE ?g_gcd ?g_lcm
    (case aCSamphireError => k_is)
    (case aCZeroDenominator => k_is)
    (case a1 => k_is)
    (case l1 => k_is)
    (case c1 => k_is)
    (case k1 => k_is)
    (case a2 => k_is)
    (case l2 => k_is)
    (case c2 => k_is)
    (case k2 => k_is)
    (case a3 => k_is)
    (case l3 => k_is)
    (case c3 => k_is)
    (case k3 => k_is)
    (case a4 => k_is)
    (case l4 => k_is)
    (case c4 => k_is)
    (case k4 => k_is)
    (case a5 => k_is)
    (case l5 => k_is)
    (case c5 => k_is)
    (case k5 => k_is)
    (case a6 => k_is)
    (case l6 => k_is)
    (case c6 => k_is)
    (case k6 => k_is)
    (case a7 => k_is)
    (case l7 => k_is)
    (case c7 => k_is)
    (case k7 => k_is)
    (case a8 => k_is)
    (case l8 => k_is)
    (case c8 => k_is)
    (case k8 => k_is)
    (case a9 => k_is)
    (case l9 => k_is)
    (case c9 => k_is)
    (case k9 => k_is)
    (case a10 => k_is)
    (case l10 => k_is)
    (case c10 => k_is)
    (case k10 => k_is)
    (case a11 => k_is)
    (case l11 => k_is)
    (case c11 => k_is)
    (case k11 => k_is)
    (case a12 => k_is)
    (case l12 => k_is)
    (case c12 => k_is)
    (case k12 => k_is)
    (case a13 => k_is)
    (case l13 => k_is)
    (case c13 => k_is)
    (case k13 => k_is)
    (case a14 => k_is)
    (case l14 => k_is)
    (case c14 => k_is)
    (case k14 => k_is)
    (case a15 => k_is)
    (case l15 => k_is)
    (case c15 => k_is)
    (case k15 => k_is)
    (case a16 => k_is)
    (case l16 => k_is)
    (case c16 => k_is)
    (case k16 => k_is)
    (case a17 => k_is)
    (case l17 => k_is)
    (case c17 => k_is)
    (case k17 => k_is)
    (case a18 => k_is)
    (case l18 => k_is)
    (case c18 => k_is)
    (case k18 => k_is)
    (case a19 => k_is)
    (case l19 => k_is)
    (case c19 => k_is)
    (case k19 => k_is)
    (case a20 => k_is)
    (case l20 => k_is)
    (case c20 => k_is)
    (case k20 => k_is)
    (case a21 => k_is)
    (case l21 => k_is)
    (case c21 => k_is)
    (case k21 => k_is)
    (case a22 => k_is)
    (case l22 => k_is)
    (case c22 => k_is)
    (case k22 => k_is)
    (case a23 => k_is)
    (case l23 => k_is)
    (case c23 => k_is)
    (case k23 => k_is)
    (case a24 => k_is)
    (case l24 => k_is)
    (case c24 => k_is)
    (case k24 => k_is)
    (case a25 => k_is)
    (case l25 => k_is)
    (case c25 => k_is)
    (case k25 => k_is)
    (case a26 => k_is)
    (case l26 => k_is)
    (case c26 => k_is)
    (case k26 => k_is)
    (case a27 => k_is)
    (case l27 => k_is)
    (case c27 => k_is)
    (case k27 => k_is)
    (case a28 => k_is)
    (case l28 => k_is)
    (case c28 => k_is)
    (case k28 => k_is)
    (case a29 => k_is)
    (case l29 => k_is)
    (case c29 => k_is)
    (case k29 => k_is)
    (case iCZeroDenominator => k_is)
    (case tIZeroDenominator => k_is)
    (case lkZeroDenominator => k_is)
    (case hcZeroDenominator => k_is)
    (case xLZeroDenominator => k_is)
    (case saZeroDenominator => k_is)
    (case sBZeroDenominator => k_is)
    (case tCZeroDenominator => k_is)
    (case kCZeroDenominator => k_is)
    (case coZeroDenominator => k_is)
    (case flZeroDenominator => first | rfl | decide +kernel)
    (case ceZeroDenominator => k_is)
    (case mrZeroDenominator => first | rfl | k_is)
    (case sVZeroDenominator => k_is)
    (case anZeroDenominator => k_is)
    (case suZeroDenominator => ks_is)
    (case tpZeroDenominator => first | rfl | decide +kernel)
    (case hgZeroDenominator => k_is)
    (case hkZeroDenominator => k_is)
    (case hdZeroDenominator => k_is)
    (case haZeroDenominator => k_is)
    (case hnZeroDenominator => k_is)
    (case htZeroDenominator => k_is)
    (case hmZeroDenominator => k_is)
    (case icZeroDenominator => k_is)
    (case sCZeroDenominator => first | rfl | k_is)
    (case z_abs => k_is)
    (case z_int => k_is)
    (case z_len => k_is)
    (case z_list => k_is)
    (case z_max => k_is)
    (case z_min => k_is)
    (case z_range => k_is)
    (case z_sorted => k_is)
    (case z_sum => k_is)
    (case z_super => k_is)
    (case z_zip => k_is)
    (case v_ZERO => k_is)
    (case l_ZERO => k_is)
    (case v_ONE => k_is)
    (case l_ONE => k_is)
    (case g_gcd => k_is)
    (case g_lcm => k_is)
