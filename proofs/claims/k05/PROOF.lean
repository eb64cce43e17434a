import PyProof.Rows.All
import Wide.All
import OpenK.AllK
import Wide.FinOn
import HandS.ForMost
import HandS.ForExc
import HandS.EndBits
import HandS.Wide
import HandS.IsInst
import HandS.ExcInit
import HandS.Nested
import KE.KExcSuper
import HandS.ExcIs
import HandS.ExcField
import HandS.Gcd
import HandS.Rev
import HandS.Walk
import HandS.Style
import HandS.FStr
import HandS.TryOnly
import KE.GoesEnumKw
import HandS.Text
import HandS.SortInts
import HandS.More
import KE.DataMinMax
import HandS.ClsMeth
import HandS.WordsExc
import HandS.Deep
import HandS.StrMore
import HandS.TryMany
import KE.SortData
import KE.SortKeyHeap
import HandS.RevRange
import HandS.Lambda
import HandS.EndTab
import PyProof.Rows.TupSub
import HandS.SortKw
import KE.KSortKey
import PySem.Challenge.RW_samphire_k05_whole_any_text_is_refused_o
set_option Elab.async false
set_option linter.all false
set_option maxRecDepth 100000

/-! ### an own exception whose __init__ begins with super().__init__(..) -/
namespace Sup
open PySem PySem.Spec PyProof.Rows L2 NdefX
/-- what the written part says of such a class (at C), of its __init__ (at f; its code at c, its cell of the class at cc) -/
structure SupC (P : Program) (K : PySem.W.Frag) (mg : Str → Option Value) (C f c cc : Addr) : Prop where
  T : OexC K C
  cd : ∃ cd, PySem.W.clsIn K C = some cd
  code : ∃ occ cdd vs sl file tf, K.lookup c = some ⟨occ, cdd, .fields vs, sl⟩ ∧ vs[2]? = some (.str file tf) ∧ ((P.main.file : Str) == file) = true
  cell : ∃ cl cld sl, K.lookup cc = some ⟨cl, cld, .cell (some (.ref C)), sl⟩
  sub : PySem.W.mroIn K C (.ref C) = some true
  subV : PySem.W.subIn K (.ref C) (.type "ValueError") = some true
  zs : mg "super" = none
  any : PySem.W.nsIn K PySem.cStatics "thirdparty.any" = some none
  sup : PySem.W.ks_superIn K C C "__init__" = some (some (.builtin "ValueError.__init__"))
  top : (P.main.scope.names.lookup ("super" : Str)).isSome = false
section
variable {CX : CXT} {P : Program} {w : World} {K : PySem.W.Frag} {mg : Str → Option Value} {base : Heap} {N ps : List Str} {F : NF} {f C cc : Addr} {k : Nat} {sp : Sp}
/-- the body's first statement -/
abbrev supSt (arg : Expr) (p0 p1 p2 p3 p4 : Pos) : Stmt := .Expr (.Call (.Attribute (.Call (.Name "super" p0) [] [] p1) "__init__" p2) [arg] [] p3) p4
theorem callW {M : Model} {A : Around} {E : Value → Shared → Prop} {s : Shared} {i : String} {u x : Addr} {pos : Pos} {env : Env} {e : Expr} {Q : Value → Shared → Prop} (he : starEach [e] env = (false, eval e env) :: starEach [] env)
    (h : wpAny M A (spliced (backTo pos (starEach [e] env))) (fun vs s₁ => PySem.W.KxsAt i u x s₁.heap ∧ wpAny M A (call (.ref u) vs) Q E s₁) E s) : wpAny M A (callWith pos (.ref u) [] (backTo pos (starEach [e] env)) []) Q E s := by
  rw [he] at h ⊢
  refine PySem.W.kxs_callWith (i := i) (x := x) rfl ?_
  exact PySem.Calls.evalArgs_plain h
theorem fn_super {oc : Value} {od : Option Addr} {osl : Array (Option Value)} {doc pm ctv : Value} {arg : Expr} {rest : List Stmt} {p0 p1 p2 p3 p4 : Pos} {p : Str} {ps' : List Str}
    (T : SupC P K mg C f F.c cc) (lk : K.lookup f = some ⟨oc, od, .func (F.fd doc pm ctv), osl⟩) (hcl : F.cl = [(("__class__" : Str), cc)]) (hcd : PySem.W.codeIn K (.ref F.c) F.qual = true) (S : NScope N ps ["__class__"] F.scope) (hps : ps = p :: ps')
    (hpar : ∃ ar, (F.params.posonlyargs ++ F.params.args).head? = some ar ∧ ar.arg = p) (hsu : F.scope.names.lookup ("super" : Str) = some .globalImplicit) (hbd : F.body = supSt arg p0 p1 p2 p3 p4 :: rest)
    (hsw : ∀ L : Addr, swapsWith (.Call (.Attribute (.Call (.Name "super" p0) [] [] p1) "__init__" p2) [arg] [] p3) none p4.line (envF F f L) = pure false)
    (hev : ∀ L : Addr, ∃ pl, eval (.Call (.Attribute (.Call (.Name "super" p0) [] [] p1) "__init__" p2) [arg] [] p3) (envF F f L) = (do
        let ov ← attributeBase (.Call (.Name "super" p0) [] [] p1) "__init__" (envF F f L) (eval (.Call (.Name "super" p0) [] [] p1) (envF F f L))
        standAt p2.atName
        let (f', first) ← holding [ov] (getMethod ov "__init__" pl)
        callWith p3 f' first (backTo p3 (starEach [arg] (envF F f L))) []))
    (hst : ∀ L : Addr, starEach [arg] (envF F f L) = (false, eval arg (envF F f L)) :: starEach [] (envF F f L))
    (len : ∀ vs H Q E, sp vs H Q E → vs.length = ps.length)
    (hbody : ∀ (A : Around) (outer : List Env) (s : Shared) (H : Hp) (vs : List V) (Q : VK) (E : XK), Room k (A.deeper (envF F f s.heap.objs.size)) → sp vs H Q E →
      ∃ a vs' ta t, vs = .ref a :: vs' ∧ H a = some (exo a C none) ∧ PA (ncx CX P w K mg base N F f A outer s H E) [arg] ta ∧ PSs (ncx CX P w K mg base N F f A outer s H E) rest t ∧
        ta (startF N vs [none]) H (fun ws H1 => ws.length ≤ 1000 ∧ H1 a = some (exo a C none) ∧ t { nx := fun _ H' => Q .non H', rt := Q } (startF N vs [none]) H1)) :
    FnOk P w K mg base CX (k + 1) f (F.fd doc pm ctv) ps sp := by
  refine ⟨len, fun A outer s H args us vs Q E hr e0 hb r hsp => ?_⟩
  have KX : K.In s.heap := e0.mod.kin.keeps fun b o e => (e0.bs b o e).1
  have hl := len _ _ _ _ hsp
  have lim : s.heap.NoLimit := e0.mod.nolimit.keeps fun b o e => (e0.bs b o e).1
  refine codeAny_call_function hr.depth (KX _ _ lk) rfl S.co S.gen rfl (PySem.W.codeRec_of KX hcd) (hb _ _ _ _ ?_)
  refine wpAny_newFunctionEnv S.nocell (fun ⟨n, _⟩ hy => S.par n (List.of_mem_zip hy).1) (fun h₁ hns hsb => ⟨lim.fresh _ hsb, ?_⟩) S.kind
  show codeAny _ _ (.func F.body (envF F f s.heap.objs.size)) _ _
  refine PySem.ks_codeAny_funcAt ?_
  have kp : ∀ b o, s.heap.get? b = some o → h₁.get? b = some o := fun b o e => hsb.extBut b o (Nat.ne_of_lt (Heap.lt_size e)) (Heap.get?_push_of_some _ e)
  obtain ⟨a, vs', ta, t, hvs, ha, hta, ht, hq⟩ := hbody A outer s H vs Q E (hr.deeper _) hsp
  obtain ⟨cl, cld, csl, hcell⟩ := T.cell
  have hbc : base.get? cc = some ⟨cl, cld, .cell (some (.ref C)), csl⟩ := e0.mod.kin _ _ hcell
  have hlook : ∀ {y : Str} {c : Addr}, F.cl.lookup y = some c → y = "__class__" ∧ c = cc := fun {y c} e => by
    rw [hcl] at e
    by_cases hy : y = "__class__"
    · subst hy
      rw [show List.lookup ("__class__" : Str) [(("__class__" : Str), cc)] = some cc by simp [List.lookup]] at e
      exact ⟨rfl, (Option.some.inj e).symm⟩
    · have hb : (y == ("__class__" : Str)) = false := by simpa using hy
      rw [show List.lookup y [(("__class__" : Str), cc)] = none by simp [List.lookup, hb]] at e
      cases e
  have hlk : F.cl.lookup ("__class__" : Str) = some cc := by rw [hcl]; simp [List.lookup]
  have CA : CellsAt F.cl ["__class__"] [none] s.heap H := {
    len := rfl
    all := fun y c e => by
      obtain ⟨_, rfl⟩ := hlook e
      exact ⟨(e0.bs _ _ hbc).2, _, ⟨_, (e0.bs _ _ hbc).1, rfl⟩⟩
    inj := fun x y c e1 e2 => (hlook e1).1.trans (hlook e2).1.symm
    has := fun i y e => by
      match i, e with
      | 0, e =>
        have ey : ("__class__" : Str) = y := Option.some.inj e
        subst ey
        exact ⟨cc, hlk, fun v hv => by simp at hv⟩ }
  have I : Inv (ncx CX P w K mg base N F f A outer s H E) [] (startF N vs [none]) H { s with heap := h₁, toks := s.toks + (ps.zip us).length } := inv_startN S hr.hd e0 hl r CA hns kp
  have kI : K.In h₁ := KX.keeps kp
  have hN0 : N[0]? = some p := by
    have q := S.pre
    rw [hps] at q
    have z : (N.take ((p :: ps').length + 1))[0]? = some p := by
      have z := congrArg (fun l : List Str => l[0]?) q
      exact z
    rw [List.getElem?_take_of_lt (by simp)] at z
    exact z
  have hs0 : (startF N vs [none])[0]? = some (some (.ref a)) := by rw [hvs]; rfl
  have hploc : F.scope.names.lookup p = some .local := S.par p (by rw [hps]; exact List.mem_cons_self)
  obtain ⟨m, hnm, hlm⟩ := id I.loc
  obtain ⟨u0, ru0, hu0⟩ := hlm 0 p (.ref a) hN0 hs0 (.inl hploc)
  have eu0 : u0 = Value.ref a := ru0
  subst eu0
  have hself : m p = some (.ref a) := by
    rcases hu0 with ⟨_, z⟩ | ⟨z, _⟩
    · exact z
    · have z' : F.scope.names.lookup p = some .cell ∨ F.scope.names.lookup p = some .free := z
      rw [hploc] at z'
      rcases z' with z' | z' <;> cases z'
  obtain ⟨occ, cdd, cvs, csl2, file, tf, hcode, hvs2, hfile⟩ := T.code
  obtain ⟨cdD, hcdD⟩ := T.cd
  have hD : ∃ oD, h₁.get? C = some oD ∧ oD.data = .cls cdD := by
    have hD := hcdD
    unfold PySem.W.clsIn at hD
    split at hD
    · rename_i c d cd' sl ho
      cases hD
      exact ⟨_, kI _ _ ho, rfl⟩
    · cases hD
  obtain ⟨oD, hD1, hD2⟩ := hD
  obtain ⟨nm, q, N', bs, bm, sn, sub, ab, col, dd, k0, k1, k2, k3, k5, hC, hbm⟩ := T.T.cls
  obtain ⟨ar, har1, har2⟩ := hpar
  have hkc : F.scope.names.lookup ("__class__" : Str) = some .free := S.frk _ (by simp)
  obtain ⟨mb, hb1, hb2⟩ := I.mod.blt
  rw [hbd]
  obtain ⟨pl, he⟩ := hev s.heap.objs.size
  refine PySem.ks_wpAt_execs_cons (PySem.ks_wpAt_Expr_any (PySem.ks_wpAt_MethodCall (pl := pl) (PySem.ks_wpAt_super_base (fd := F.fd doc pm ctv) hsu hkc (by decide) rfl (kI _ _ lk) rfl har1 rfl (kI _ _ hcode) rfl hvs2 hfile T.top ?_) he) I.quiet (hsw _))
  -- the names
  refine PySem.W.ks_loadName_global S.kind hsu (Calls.loadGlobal_builtin (by exact I.mod.glob.keeps I.bk) T.zs (by exact hb1.keeps I.bk) ((hb2 _ (by decide)).trans (by decide +kernel)) ⟨rfl, ?_⟩)
  refine wpAny_loadName_free S.kind hkc hlk ⟨_, kI _ _ hcell, rfl⟩ ?_
  refine wpAny_loadName_local S.kind (by rw [har2]; exact hploc) hnm (by rw [har2]; exact hself) ?_
  refine PySem.ks_wpAny_isType_cls hD1 hD2 ⟨rfl, ?_⟩
  obtain ⟨t1, hox⟩ := exo_at I.hok ha
  refine PySem.ks_wpAny_call_super hD1 hD2 hox rfl (fun c e => by cases e) (PySem.W.looks_mroIn kI T.sub) (fun h' hso k' => ?_)
  have I2 : Inv (ncx CX P w K mg base N F f A outer s H E) [] (startF N vs [none]) H { s with heap := h', toks := s.toks + (ps.zip us).length } := I.kept (t' := s.toks + (ps.zip us).length) k'
  have kI2 : K.In h' := kI.keeps k'
  have hox2 : h'.get? a = some ({ cls := .ref C, dict := none, data := .fields #[.ref t1, .none, .none, .none, .bool false, .none] } : Obj) := k' _ _ hox
  have IA : PySem.W.InstAt h' a ({ cls := .ref C, dict := none, data := .fields #[.ref t1, .none, .none, .none, .bool false, .none] } : Obj) C none := ⟨hox2, rfl, rfl, trivial⟩
  have hal : PySem.W.alongIn K "__init__" ((cdD.mro.dropWhile (· != .ref C)).drop 1) = some (some (.builtin "ValueError.__init__")) := by
    have z := T.sup
    unfold PySem.W.ks_superIn at z
    rw [hcdD] at z
    exact z
  refine PySem.W.kxs_getMethod PySem.W.kxs_ValueError hso (PySem.W.looks_opaque kI2 T.any) (l₀ := cdD.mro) (fun A Q E s k q => wpAny_bind ((PySem.W.looks_clsIn kI2 hcdD) A _ E s k (wpAny_pure q))) rfl kI2 hal (IA.type.andThen (PySem.W.looks_subIn kI2 T.subV)) (PySem.W.ks_ne kI2 IA hcdD) (by decide) ?_
  -- the bound __init__ at u
  have ku : ∀ b o, h'.get? b = some o → (h'.push (PySem.W.kxs_mw "ValueError.__init__" a)).get? b = some o := fun b o e => Heap.get?_push_of_some _ e
  have I3 : Inv (ncx CX P w K mg base N F f A outer s H E) [] (startF N vs [none]) H { s with heap := h'.push (PySem.W.kxs_mw "ValueError.__init__" a), toks := s.toks + (ps.zip us).length + 1 } := I2.kept (t' := s.toks + (ps.zip us).length + 1) ku
  have hu : (h'.push (PySem.W.kxs_mw "ValueError.__init__" a)).get? h'.objs.size = some (PySem.W.kxs_mw "ValueError.__init__" a) := Heap.get?_push_at rfl rfl
  have I4 : Inv (ncx CX P w K mg base N F f A outer s H E) [(h'.objs.size, PySem.W.kxs_mw "ValueError.__init__" a)] (startF N vs [none]) H { s with heap := h'.push (PySem.W.kxs_mw "ValueError.__init__" a), toks := s.toks + (ps.zip us).length + 1 } := I3.pins_of fun p hp => by
    have hp1 := List.mem_singleton.mp hp
    subst hp1
    exact ⟨hu, I2.hok.fresh (Nat.le_refl _), fun z => absurd (z ▸ I2.lt) (Nat.lt_irrefl _), I2.nofs (Nat.le_refl _), fun v z => by cases z⟩
  refine callW (i := "ValueError.__init__") (x := a) (hst _) ?_
  refine thn (hta.run p3 _ _ _ H _ I4 hq) fun ws' s5 ⟨ws, H5, I5, r5, hlen, ha5, ht5⟩ => ?_
  have hu5 : s5.heap.get? h'.objs.size = some (PySem.W.kxs_mw "ValueError.__init__" a) := (I5.pin _ (List.mem_append_right _ (List.mem_singleton.mpr rfl))).1
  refine ⟨hu5, ?_⟩
  obtain ⟨t5, hox5⟩ := exo_at I5.hok ha5
  have hws : ws'.length ≤ sizeLine := by
    rw [← Paired.length r5, sizeLine_eq]
    omega
  have I6 : Inv (ncx CX P w K mg base N F f A outer s H E) [] (startF N vs [none]) H5 s5 := I5.pins_of fun p hp => absurd hp (by simp)
  obtain ⟨h5, g5, d5, k5', os5⟩ := s5
  have hC5 := I5.kIn _ _ hC
  show wpAny _ _ (call (.ref h'.objs.size) ws') _ _ _
  refine wpAny_call (codeAny_of_tree ?_)
  show wpAny _ _ (callAny (.ref h'.objs.size) ⟨ws', []⟩) _ _ _
  simp only [callAny]
  refine wpAny_bind (wpAny_load hu5 ?_)
  simp only [PySem.W.kxs_mw, show (Value.type "method-wrapper" == Value.type "method" || Value.type "method-wrapper" == Value.type "builtin_function_or_method" || Value.type "method-wrapper" == Value.type "method-wrapper") = true by decide, if_true]
  refine PySem.W.KFB.if_so (by decide) ?_
  refine wpAny_bind (PySem.W.check_bound_init PySem.F.excBase_ValueError.toExcCallFacts hC5 hox5 rfl ?_)
  refine wpAny_bind (wpAny_pure (wpAny_pure ?_))
  refine ⟨plainId_quiet PySem.F.excBase_ValueError.init.plain _, codeAny_builtin PySem.F.excBase_ValueError.initEntry ?_⟩
  refine PySem.W.exc_init_tree (cls := .ref C) (t0 := t5) (dv := none) (c2 := .none) (c3 := .none) (b4 := .bool false) hox5 hws (fun h6 k6 e6 _ => ?_)
  have J := I6.write (t' := k5') (x := a) (e := a) (o := exo a C none) (by rw [ha5]; exact True.intro) (.inl rfl) k6 ⟨_, e6⟩ (exo_ok e6)
  have eu : upd H5 a (exo a C none) = H5 := by
    funext b
    by_cases hb : b = a
    · rw [hb, upd_same, ha5]
    · rw [upd_ne hb]
  rw [eu] at J
  refine PySem.wpAt_of_wpAny (wpAny_mono (ht.run [] _ (startF N vs [none]) H5 _ J ht5) (fun fl s' hs => ?_) fun e s' hs => hs)
  have fin : ∀ {σ' : L2.St} {H' : Hp} {v : V} {u : Value}, Inv (ncx CX P w K mg base N F f A outer s H E) [] σ' H' s' → L2.RelV v u → Q v H' → CE outer P w H s Q u s' :=
    fun {σ' H' v u} J rv q => ⟨v, H', J.os, J.bare, J.base, J.hok, rv, q⟩
  cases fl with
  | ret u =>
    obtain ⟨v, σ', H', J, rv, q⟩ := hs
    exact fin J rv q
  | next =>
    obtain ⟨σ', H', J, q⟩ := hs
    exact fin (v := V.non) (u := Value.none) J rfl q
  | brk =>
    obtain ⟨_, _, _, q⟩ := hs
    exact False.elim q
  | cont =>
    obtain ⟨_, _, _, q⟩ := hs
    exact False.elim q
end
/-! ### an exception without fields, made -/
section
variable {X : Cx}
theorem mk_endN {pins : List (Addr × Obj)} {σ : L2.St} {H1 H2 : Hp} {Q : XK} {hp hp2 h2 : Heap} {g1 g2 : Array GenState} {d1 d2 : Drawn} {t1 t2 : Nat} {os1 os2 : OsState} {a C : Addr} (T : Raises X (.ref C)) (I1 : Inv X pins σ H1 ⟨hp, g1, d1, t1, os1⟩)
    (ha : hp.objs.size ≤ a) (k : ∀ b o, hp.get? b = some o → hp2.get? b = some o) (un : Un (frs X.stack) [] (upd H1 a (exo a C none)) H2 hp2 h2) (hok : HOk X.prog X.w H2 h2) (ho : os2 = os1) (hb : AllBare g2)
    (ea : H2 a = some (exo a C none)) (q : Q (.ref C) none (del H2 a)) : MkP X pins σ Q (.ref a) ⟨h2, g2, d2, t2, os2⟩ := by
  obtain ⟨t0, hoe⟩ := exo_at hok ea
  have hn : H1 a = none := I1.hok.fresh ha
  obtain ⟨G, g1', g2'⟩ := restrict h2 fun b => decide (b ≠ a)
  have gk : ∀ b, b ≠ a → G.get? b = h2.get? b := fun b hb => g1' b (decide_eq_true hb)
  have ge : G.get? a = none := g2' a (by simp)
  have nha : ∀ {b : Addr} {o : Obj}, hp.get? b = some o → b ≠ a := fun {b o} z => Nat.ne_of_lt (Nat.lt_of_lt_of_le (Heap.lt_size z) ha)
  have up : ∀ {b : Addr}, b ≠ a → H1 b = none → upd H1 a (exo a C none) b = none := fun {b} hb n => by rw [upd_ne hb]; exact n
  have U : Un (frs X.stack) [] H1 (del H2 a) hp G := {
    keep := fun b o z n hf hx => by
      rw [gk b (nha z)]
      exact un.keep b o (k b o z) (up (nha z) n) hf hx
    slot := fun b o z n hf hx => by
      rw [gk b (nha z)]
      exact un.slot b o (k b o z) (up (nha z) n) hf hx
    free := fun b o z n hx => by
      rw [del_ne (nha z)]
      exact un.free b o (k b o z) (up (nha z) n) hx
    there := fun b o z hx => by
      rw [gk b (nha z)]
      exact un.there b o (k b o z) hx
    tups := fun b xs z => by
      rw [del_ne (ne_of_none z hn)]
      exact un.tups b xs (by rw [upd_ne (ne_of_none z hn)]; exact z)
    frzs := fun b o v z => by
      rw [del_ne (ne_of_none z hn)]
      exact un.frzs b o v (by rw [upd_ne (ne_of_none z hn)]; exact z)
    tbls := fun b ps z => by
      rw [del_ne (ne_of_none z hn)]
      exact un.tbls b ps (by rw [upd_ne (ne_of_none z hn)]; exact z) }
  have hok3 : HOk X.prog X.w (del H2 a) G := fun b o z => by
    have hba : b ≠ a := fun e => by
      rw [e, del_same] at z
      cases z
    rw [del_ne hba] at z
    have noa : ∀ {c : Addr}, H2 c = some (.own b) → c ≠ a := fun {c} hc => at_ne ea hc exo_own
    exact (hok b o z).stay (fun c v hc y => by
        have hca : c ≠ a := by
          rcases hc with hc | hc
          · rw [hc]
            exact hba
          · exact noa hc
        rw [gk c hca]
        exact y)
      (fun c hc => by rw [del_ne (noa hc)]; exact hc) (fun c xs hc => by rw [del_ne (at_ne ea hc exo_tup)]; exact hc)
  have J : Inv X pins σ (del H2 a) ⟨G, g2, d2, t2, os2⟩ := I1.call' (ch := []) ho U hok3 hb (fun b z => absurd z (by simp))
  refine ⟨a, _, _, ⟨G, g2, d2, t2, os2⟩, _, .ref C, none, rfl, J, fun b o z => ?_, ge, hoe, ⟨rfl, rfl⟩, rfl, rfl, del_same, rfl, hb, T, q⟩
  by_cases hba : b = a
  · rw [hba, ge] at z
    cases z
  · exact (gk b hba).symm.trans z
/-- C(), C's own __init__ keeping sp and making no field -/
def tMkN (C : Addr) (sp : Sp) : L2.St → Hp → XK → Prop := fun _ H Q => ∀ a, H a = none → sp [.ref a] (upd H a (exo a C none)) (fun v H2 => v = .non ∧ H2 a = some (exo a C none) ∧ Q (.ref C) none (del H2 a)) (fun _ _ _ => False)
theorem pmk_oexN {CX : CXT} {x : Str} {C fI : Addr} {k : Nat} {fd : FuncData} {ps : List Str} {sp : Sp} {p pos : Pos} (T : OexC X.K C) (iC : PySem.W.findIn X.K (.ref C) "__init__" = some (some (.ref fI))) (tI : PySem.W.typeIn X.K (.ref fI) = some (.type "function"))
    (F1 : FnOk X.prog X.w X.K X.mg X.base CX k fI fd ps sp) (hr : Room (k + 1) X.A) (hb : Binds X.K fd ps []) (hx : Passes CX X (fun _ _ _ => False)) (hg : Gl X x) (hm : X.mg x = some (.ref C))
    (hdb : (x == ("__debug__" : Str)) = false := by decide) : PMk X (.Call (.Name x p) [] [] pos) (tMkN C sp) := by
  intro pins s σ H1 Q I1 q1
  obtain ⟨nm, q, N, bs, bm, sn, sub, ab, col, dd, k0, k1, k2, k3, k5, hC, hbm⟩ := T.cls
  refine wpAny_Call_Name_kw (ld_glob I1 hg hm ?_ hdb)
  refine PySem.W.callWith_K0 I1.kIn T.kC ?_
  show wpAny _ _ (call (.ref C) []) _ _ _
  obtain ⟨hp, g, dr, tk, os⟩ := s
  have hsz : hp.objs.size ≤ hp.objs.size + 1 := Nat.le_succ _
  have hn : H1 (hp.objs.size + 1) = none := I1.hok.fresh hsz
  have hq := q1 (hp.objs.size + 1) hn
  have kk : ∀ b o, hp.get? b = some o → ((hp.push (PySem.W.kdv_tup [])).push (PySem.HandSPX.excO C hp.objs.size)).get? b = some o := fun b o e => Heap.get?_push_of_some _ (Heap.get?_push_of_some _ e)
  have hget : ((hp.push (PySem.W.kdv_tup [])).push (PySem.HandSPX.excO C hp.objs.size)).get? (hp.objs.size + 1) = some (PySem.HandSPX.excO C hp.objs.size) := by heap_get
  have I2 : Inv X pins σ (upd H1 (hp.objs.size + 1) (exo (hp.objs.size + 1) C none)) ⟨(hp.push (PySem.W.kdv_tup [])).push (PySem.HandSPX.excO C hp.objs.size), g, dr, tk, os⟩ :=
    I1.laid (t' := tk) (a := hp.objs.size + 1) (o := exo (hp.objs.size + 1) C none) (h' := (hp.push (PySem.W.kdv_tup [])).push (PySem.HandSPX.excO C hp.objs.size)) kk hsz (exo_ok hget)
  have r2 : Vals [V.ref (hp.objs.size + 1)] [Value.ref (hp.objs.size + 1)] := .cons rfl .nil
  have hl : ([Value.ref (hp.objs.size + 1)] ++ []).length = ps.length := by
    have e := r2.length
    rw [F1.len _ _ _ _ hq] at e
    exact e.symm
  refine wpAny_call (PySem.HandSPX.call_own PySem.F.excBase_ValueError (fun Y => PySem.HandSPX.refsVE_contains Y bm hbm) (I1.kIn _ _ hC) (PySem.W.looks_findIn I1.kIn iC) (fun self => PySem.W.bind_fn I1.kIn self tI) (Nat.zero_le _)
    (codeAny_mono (F1.run _ X.stack _ _ ⟨[Value.ref (hp.objs.size + 1)], []⟩ [Value.ref (hp.objs.size + 1)] _ _ (fun _ _ _ => False) (hr.make C [] []) (I2.env0.make C [] []) (hb _ [Value.ref (hp.objs.size + 1)] I2.kIn hl) r2 hq) fun r s' hq' => ?_))
  cases r with
  | error er => exact hx pins σ _ _ er s' I2 hq'
  | ok fl =>
    cases fl with
    | ret u =>
      obtain ⟨v, H2, os2, bare2, un2, hok2, rv, ev, ea, q2⟩ := hq'
      subst ev
      obtain ⟨h2, g2, d2, t2, os'⟩ := s'
      exact ⟨rv, mk_endN (raises_own T.exC T.tyC) I1 hsz kk un2 hok2 os2 bare2 ea q2⟩
    | next => exact False.elim hq'
    | brk => exact False.elim hq'
    | cont => exact False.elim hq'
end
/-! ### a call of a local name that holds a def, which may raise -/
section
variable {X : Cx} {CX : CXT} {k i : Nat} {f : Addr} {fd : FuncData} {ps : List Str} {sp : Sp} {E : L2.St → XK} {x : Str} {p pos : Pos} {e : Expr} {es : List Expr} {t : TA}
def tCallLS (i : Nat) (f : Addr) (sp : Sp) (E : L2.St → XK) (t : TA) : TE := fun σ H Q => σ[i]? = some (some (.ref f)) ∧ t σ H fun vs H1 => sp vs H1 Q (E σ)
theorem pe_callLS (F : FnOk X.prog X.w X.K X.mg X.base CX k f fd ps sp) (hr : Room k X.A) (hN : X.N[i]? = some x) (hv : Vis X.env.scope x) (hk : PySem.W.keepIn X.K (.ref f) = true) (hb : Binds X.K fd ps []) (hx : ∀ σ, PassesAt CX X σ (E σ)) (ha : PA X (e :: es) t)
    (hdb : (x == ("__debug__" : Str)) = false := by decide) (hcd : (x == ("__classdict__" : Str)) = false := by decide)
    (he : starEach (e :: es) X.env = (false, eval e X.env) :: starEach es X.env := by rfl) (hpl : (backTo pos (starEach es X.env)).any (·.1) = false := by rfl) : PE X (.Call (.Name x p) (e :: es) [] pos) (tCallLS i f sp E t) := by
  refine ⟨fun pins s σ H Q I h => ?_⟩
  obtain ⟨hs, ht⟩ := h
  refine wpAny_Call_Name_kw (thn ((pe_var (pos := p) hN hv hdb hcd).run pins s σ H (fun v H1 => v = .ref f ∧ H1 = H) I ⟨.ref f, hs, rfl, rfl⟩) fun u s1 ⟨v, H1, I1, r1, q1⟩ => ?_)
  obtain ⟨rfl, rfl⟩ := q1
  cases r1
  refine PySem.W.callWith_K (h₀ := X.base) I.ok.mod.kin hk (thn (ha.run pos pins s1 σ _ _ I1 ht) fun us s2 ⟨vs, H2, I2, r, q⟩ => ⟨I2.kIn, ?_⟩) he hpl
  exact run_fnS F hr hb (hx σ) I2 r q
end
/-! ### isinstance of a caught error of an own class without fields -/
def rIsX (K : PySem.W.Frag) (a : Addr) (cls : Value) (d : Option Addr) : List V → Hp → VK → Prop := fun xs H Q => ∃ (D : Addr) (c : V) (cv : Value) (b : Bool), cls = .ref D ∧ d = none ∧ ExcC K D ∧ xs = [.ref a, c] ∧ (∀ u, L2.RelV c u → u = cv) ∧ PySem.W.kitOne K (.ref D) cv = some b ∧ Q (.bl b) H
theorem call_isX {X : Cx} {a : Addr} {oe : Obj} {cls : Value} {d : Option Addr} {pn : List (Addr × Obj)} (hz : Zc cls d oe) (hf : ∃ vs, oe.data = .fields vs) : CallR (X.suite a ((a, oe) :: pn)) (.builtin "isinstance") (rIsX X.K a cls d) := by
  intro pins s σ H xs us Q I r h
  obtain ⟨D, c, cv, b, rfl, rfl, C, rfl, hc, e, q⟩ := h
  exact call_isE C hz hf pins s σ H [.ref a, c] us Q I r ⟨c, cv, b, rfl, hc, e, q⟩
/-! ### what a law's text says of an own exception -/
/-- ExcT C f c cc: the class at C over SamphireError .. over ValueError, with its own __init__ at f -/
structure ExcT (P : Program) (K : PySem.W.Frag) (mg : Str → Option Value) (name : Str) (C f c cc : Addr) : Prop where
  S : SupC P K mg C f c cc
  g : mg name = some (.ref C)
  iC : PySem.W.findIn K (.ref C) "__init__" = some (some (.ref f))
  tI : PySem.W.typeIn K (.ref f) = some (.type "function")
  is : ExcC K C
  te : PySem.W.exmOne K (.ref C) (.ref C) = some true
theorem ExcT.xf {P : Program} {K : PySem.W.Frag} {mg : Str → Option Value} {name : Str} {C f c cc : Addr} (T : ExcT P K mg name C f c cc) : XfC K C := ⟨T.is.hg, T.is.hk, T.is.hs, T.is.hd⟩
/-- the file that a code object tells -/
def flIs (cvs : List Value) (f : Str) : Bool := match cvs with | _ :: _ :: .str file _ :: _ => f == file | _ => false
/-- what k_is finds, put together -/
theorem excT_mk {P : Program} {K : PySem.W.Frag} {mg : Str → Option Value} {name : Str} {C f c cc : Addr} {nm q : Str} {N : Addr} {bs bm : List Value} {sn : List Str} {sub : List Value} {ab : Bool} {col : Option Bool} {dd : Option Addr} {m0 m1 m2 m3 m5 : Option Value}
    {occ : Value} {cdd : Option Addr} {cvs : List Value} {csl : Array (Option Value)} {ccl : Value} {ccd : Option Addr} {ccs : Array (Option Value)}
    (xL : K.lookup C = some (excClassObj nm q C N bs bm true sn sub ab col dd m0 m1 m2 m3 m5 "ValueError.__new__")) (rv : PySem.HandSPX.refsVE bm = true)
    (sa : PySem.W.findIn K (.ref C) "__setattr__" = some (some (.builtin "object.__setattr__"))) (sB : PySem.W.subIn K (.ref C) (.type "BaseException") = some true) (tC : PySem.W.typeIn K (.ref C) = some (.type "type")) (kC : PySem.W.keepIn K (.ref C) = true)
    (code : K.lookup c = some ⟨occ, cdd, .fields cvs.toArray, csl⟩) (hfile : flIs cvs P.main.file = true)
    (cell : K.lookup cc = some ⟨ccl, ccd, .cell (some (.ref C)), ccs⟩) (mro : PySem.W.mroIn K C (.ref C) = some true) (sV : PySem.W.subIn K (.ref C) (.type "ValueError") = some true) (zs : mg "super" = none)
    (any : PySem.W.nsIn K PySem.cStatics "thirdparty.any" = some none) (sup : PySem.W.ks_superIn K C C "__init__" = some (some (.builtin "ValueError.__init__"))) (top : (P.main.scope.names.lookup ("super" : Str)).isSome = false)
    (g : mg name = some (.ref C)) (iC : PySem.W.findIn K (.ref C) "__init__" = some (some (.ref f))) (tI : PySem.W.typeIn K (.ref f) = some (.type "function")) (is : ExcC K C) (isc : PySem.W.isClsIn K C = true) (sC : PySem.W.subIn K (.ref C) (.ref C) = some true) : ExcT P K mg name C f c cc where
  S := {
    T := ⟨⟨nm, q, N, bs, bm, sn, sub, ab, col, dd, m0, m1, m2, m3, m5, xL, rv⟩, sa, sB, tC, kC⟩
    cd := ⟨_, by unfold PySem.W.clsIn; rw [xL] <;> rfl⟩
    code := by
      match cvs, code, hfile with
      | a :: b :: .str file tf :: r, code, hfile => exact ⟨_, _, _, _, file, tf, code, rfl, hfile⟩
    cell := ⟨_, _, _, cell⟩
    sub := mro
    subV := sV
    zs := zs
    any := any
    sup := sup
    top := top }
  g := g
  iC := iC
  tI := tI
  is := is
  te := PySem.W.exm_ref sB is.hd tC sC
end Sup

/-! ### list(reversed(a list)) -/
namespace RL
open PySem PySem.Spec PyProof.Rows RT L2
section
variable {prog : Program} {w : World} {A : Around} {E : Value → Shared → Prop} {s : Shared}
theorem extend_rev {R : Result → Shared → Prop} {S it l : Addr} {items : Array Value} {res : Value} {c₀ : Nat} (hh : A.handled = none) (hit : s.heap.IsRevIter it l ((items.size : Int) - 1)) (hl : s.heap.IsList l items) (hne : l ≠ it) (hSi : S ≠ it) (hSl : S ≠ l) (hn : items.size ≤ sizeLine)
    (hS : s.heap.get? S = some { cls := .type "list", data := .seq #[] c₀ })
    (hR : ∀ s' acc' c', Moved (S :: [it]) (fun a b => b = a) s s' → s'.heap.get? S = some { cls := .type "list", dict := none, data := .seq acc' c', slots := #[] } → ItemsOf (fun i v => items[items.size - 1 - i]? = some v) acc' items.size → R (.ok (.ret res)) s') :
    wpAny (model prog w) A.in1 (Builtin.List.listExtendWith (.ref S) (.ref it) res)
      (fun fin s' => match fin with | .done f => R (.ok f) s' | .again c' => c'.quiet = true ∧ codeAny (model prog w) A c' R s') (fun e s' => R (.error e) s') s := by
  have W := (Walks.listRev (prog := prog) (w := w) (A := A.in1) hh it l hne items).toS
  have hSf : S ∉ [it, l] := by simp only [List.mem_cons, List.not_mem_nil, or_false, not_or]; exact ⟨hSi, hSl⟩
  have hT : s.TypeIs (.ref it) "list_reverseiterator" := Heap.IsRevIter.typeIs hit
  have h1 : Builtin.List.listSameRef (.ref S) (.ref it) = false := by simp [Builtin.List.listSameRef, hSi]
  unfold Builtin.List.listExtendWith
  refine wpAny_bind (wpAny_typeOf hT ?_)
  rw [if_neg (by rw [h1]; decide)]
  refine wpAny_bind (wpAny_pyIter_revIter hit ?_)
  refine wpAny_bind (wpAny_holding ?_)
  unfold Builtin.List.listLengthHint
  refine wpAny_bind (wpAny_specialOf hT nolen_lri ?_)
  show wpAny _ A.in1 (specialOf (Value.ref it) (Str.ofString "__length_hint__") >>= _) _ _ _
  refine wpAny_bind (wpAny_specialOf hT hint_lri ?_)
  generalize hid : ("list_reverseiterator.__length_hint__" : String) = id0
  wp_delta
  rw [show splitId id0 = some ("list_reverseiterator", "__length_hint__") from by subst hid; decide +kernel]
  subst hid
  refine wpAny_bind (wpAny_isInstance (b := true) hT (by rw [isSubtype_type]; kernel_rfl) ?_)
  refine wpAny_pure ?_
  rw [if_neg (by decide)]
  have e0 : ((items.size : Nat) : Int) - 1 - ((0 : Nat) : Int) = (items.size : Int) - 1 := by omega
  refine wpAny_pure ⟨plainId_quiet F.plain_extend_loop _, codeAny_extend_loopS W hn _ hSf _ items.size 0 _ _ _ rfl (Nat.zero_le _) ⟨Nat.zero_le _, by rw [e0]; exact hit, hl⟩ hS (ItemsOf.nil _) fun s' acc' c' hm hS' hacc => ?_⟩
  exact hR s' acc' c' hm hS' hacc
theorem init_rev {R : Result → Shared → Prop} {S it l : Addr} {items : Array Value} (hh : A.handled = none) (hit : s.heap.IsRevIter it l ((items.size : Int) - 1)) (hl : s.heap.IsList l items) (hne : l ≠ it) (hSi : S ≠ it) (hSl : S ≠ l) (hn : items.size ≤ sizeLine)
    (hS : s.heap.get? S = some { cls := .type "list", data := .seq #[] })
    (hR : ∀ (h' : Heap) (tk : Nat) (acc : Array Value) (c' : Nat), (∀ b o, b ≠ S → b ≠ it → s.heap.get? b = some o → h'.get? b = some o) → h'.get? S = some { cls := .type "list", dict := none, data := .seq acc c', slots := #[] } → ItemsOf (fun i v => items[items.size - 1 - i]? = some v) acc items.size → R (.ok (.ret .none)) { s with heap := h', toks := tk }) :
    wpAny (model prog w) A.in1 (Builtin.«list.__init__» ⟨[.ref S, .ref it], []⟩)
      (fun fin s' => match fin with | .done f => R (.ok f) s' | .again c' => c'.quiet = true ∧ codeAny (model prog w) A c' R s') (fun e s' => R (.error e) s') s := by
  show wpAny _ A.in1 (do let old ← Builtin.List.listItems (.ref S); Builtin.List.listUpdate (.ref S) (fun _ => #[]); letGo old.toList.reverse; Builtin.List.listExtendWith (.ref S) (.ref it) .none) _ _ s
  refine wpAny_bind ?_
  unfold Builtin.List.listItems
  refine wpAny_bind (wpAny_seqItems hS rfl (wpAny_pure ?_))
  show wpAny _ A.in1 (updateSeq S (fun _ => #[]) >>= fun _ => letGo (#[] : Array Value).toList.reverse >>= fun _ => Builtin.List.listExtendWith (.ref S) (.ref it) .none) _ _ s
  refine wpAny_bind (wpAny_updateSeq hS rfl ?_)
  have hS₂ := Heap.get?_update_self (Obj.mapSeq (fun _ => (#[] : Array Value))) hS rfl
  have oth : ∀ b o, b ≠ S → s.heap.get? b = some o → (s.heap.update S (Obj.mapSeq (fun _ => (#[] : Array Value)))).get? b = some o :=
    fun b o hb e => (Heap.get?_update_other _ _ (Ne.symm hb)).trans e
  refine wpAny_bind (wpAny_letGo ?_)
  refine extend_rev (s := { s with heap := s.heap.update S (Obj.mapSeq (fun _ => (#[] : Array Value))) }) hh (hit.at fun o e => oth it o hSi.symm e) (by obtain ⟨o, ho, x⟩ := hl; exact ⟨o, oth l o hSl.symm ho, x⟩) hne hSi hSl hn hS₂ fun s' acc' c' hm hS' hacc => ?_
  rw [Moved.eq_with hm]
  exact hR s'.heap s'.toks acc' c' (fun b o hb hb2 e => hm.heap b o (by simp [hb, hb2]) (oth b o hb e)) hS' hacc
theorem call_list_rev {it l : Addr} {items : Array Value} {Q : Value → Shared → Prop} (hh : A.handled = none) (hit : s.heap.IsRevIter it l ((items.size : Int) - 1)) (hl : s.heap.IsList l items) (hne : l ≠ it) (hn : items.size ≤ sizeLine)
    (hQ : ∀ (h' : Heap) (tk : Nat) (acc : Array Value) (c' : Nat), (∀ b o, b ≠ it → s.heap.get? b = some o → h'.get? b = some o) → h'.get? s.heap.objs.size = some { cls := .type "list", dict := none, data := .seq acc c', slots := #[] } → ItemsOf (fun i v => items[items.size - 1 - i]? = some v) acc items.size → Q (.ref s.heap.objs.size) { s with heap := h', toks := tk }) :
    wpAny (model prog w) A (call (.type "list") [.ref it]) Q E s := by
  refine callType_codes (Q₁ := fun obj s₁ => obj = .ref s.heap.objs.size ∧ s₁ = { s with heap := s.heap.push { cls := .type "list", data := .seq #[] } }) F.called_list (F.typeCall_list_1 _) F.entry_list_init
    (code_list_new _ ⟨rfl, rfl⟩) fun obj s₁ h₁ => ?_
  obtain ⟨rfl, rfl⟩ := h₁
  have hS : (s.heap.push { cls := .type "list", data := .seq #[] }).get? s.heap.objs.size = some { cls := .type "list", data := .seq #[] } := Heap.get?_push_size _ rfl
  obtain ⟨oi, hoi, _⟩ := id hit
  obtain ⟨ol, hol, _⟩ := id hl
  refine ⟨⟨_, hS, rfl⟩, F.args_list_init_2 _ _, init_rev (A := A.in1) (s := { s with heap := s.heap.push { cls := .type "list", data := .seq #[] } }) hh (hit.at fun o e => Heap.get?_push_of_some _ e) (hl.push _) hne (Nat.ne_of_gt (Heap.lt_size hoi)) (Nat.ne_of_gt (Heap.lt_size hol)) hn hS fun h' tk acc c' hk hS' hacc => ?_⟩
  exact ⟨rfl, hQ h' tk acc c' (fun b o hb e => hk b o (Nat.ne_of_lt (Heap.lt_size e)) hb (Heap.get?_push_of_some _ e)) hS' hacc⟩
end
section
variable {X : Cx}
/-- list(reversed(xs)): a new list -/
def tListRev (K : PySem.W.Frag) (te : TE) : TE := fun σ H Q => te σ H fun x H1 => ∃ a xs, x = .ref a ∧ SqL K H1 a xs ∧ ∀ p, H1 p = none → Q (.ref p) (upd H1 p (.lst xs.reverse))
theorem pe_listRev {e : Expr} {te : TE} {p p2 pos pos2 : Pos} (hc : X.calm = true) (hg : Gl X "list") (hm : X.mg "list" = none) (hg2 : Gl X "reversed") (hm2 : X.mg "reversed" = none) (he : PE X e te)
    (hs : starEach [e] X.env = (false, eval e X.env) :: starEach [] X.env := by rfl)
    (hs2 : starEach [.Call (.Name "reversed" p2) [e] [] pos2] X.env = (false, eval (.Call (.Name "reversed" p2) [e] [] pos2) X.env) :: starEach [] X.env := by rfl) :
    PE X (.Call (.Name "list" p) [.Call (.Name "reversed" p2) [e] [] pos2] [] pos) (tListRev X.K te) := by
  refine ⟨fun pins s σ H Q I h => ?_⟩
  refine Call_ (ld_blt I hg hm boot_list (PyProof.Rows.callWith_type1 (args_cons (Call_ (ld_blt I hg2 hm2 PyProof.Rows.boot_reversed (PyProof.Rows.callWith_type1 (args_cons (thn (he.run pins s σ H _ I h) fun u s1 ⟨v, H1, I1, r1, q1⟩ => args_nil ?_) hs) hs rfl))) hs2) hs2 rfl))
  obtain ⟨a, xs, ev, hq, q⟩ := q1
  subst ev
  obtain rfl : u = Value.ref a := r1
  obtain ⟨its, rv, p', hz⟩ := I1.list hq
  refine call_reversed_list p'.isList (args_nil ?_)
  have k0 : ∀ b o, s1.heap.get? b = some o → (s1.heap.push (revObj a ((its.toArray.size : Int) - 1))).get? b = some o := fun b o e => Heap.get?_push_of_some _ e
  have hl := p'.isList
  obtain ⟨ol, hol, _⟩ := id hl
  have hne : a ≠ s1.heap.objs.size := Nat.ne_of_lt (Heap.lt_size hol)
  have hn : its.toArray.size ≤ sizeLine := by rw [List.size_toArray, ← rv.length]; exact hz
  refine call_list_rev (s := { s1 with heap := s1.heap.push (revObj a ((its.toArray.size : Int) - 1)) }) (I1.ok.hd hc) ⟨_, Heap.get?_push_size _ rfl, rfl, rfl⟩ (hl.push _) hne hn fun h' tk acc c' hk hS' hi => ?_
  have hle : s1.heap.objs.size ≤ (s1.heap.push (revObj a ((its.toArray.size : Int) - 1))).objs.size := by simp [Heap.push]
  have ea : acc.toList.toArray = acc := by simp
  exact ⟨.ref (s1.heap.push (revObj a ((its.toArray.size : Int) - 1))).objs.size, upd H1 (s1.heap.push (revObj a ((its.toArray.size : Int) - 1))).objs.size (.lst xs.reverse), I1.laid (t' := tk) (fun c o e => hk c o (Nat.ne_of_lt (Heap.lt_size e)) (k0 c o e)) hle (show ObjOk X.prog X.w _ _ _ (.lst xs.reverse) from ⟨by rw [List.length_reverse]; exact hz, acc.toList, c', vals_rev rv hi, by rw [ea]; exact hS'⟩), rfl, q _ (I1.hok.fresh hle)⟩
end
end RL
/-! ### xs.extend(a tuple) -/
namespace RL
open PySem PySem.Spec PyProof.Rows RT L2
theorem meets_extend_tup (l : Addr) (items : Array Value) (n : Nat) (b : Addr) (items2 : Array Value) (n2 : Nat) (o : Obj) (hc : o.cls = .type "tuple") (hd : o.data = .seq items2 n2) (hs1 : items.size + items2.size ≤ sizeLine) :
    Meets (Builtin.«list.extend» ⟨[.ref l, .ref b], []⟩) (fun _ R s => s.heap.get? l = some { cls := .type "list", dict := none, data := .seq items n, slots := #[] } ∧ s.heap.get? b = some o ∧ R (.ok (.ret Value.none)) { s with heap := s.heap.update l (Obj.mapSeq fun x => x ++ items2), toks := s.toks }) :=
  .of_wp fun prog w A R s h => by
    obtain ⟨hl, hb, h⟩ := h
    show wpAny _ _ (Builtin.List.listExtendWith (.ref l) (.ref b) .none) _ _ _
    unfold Builtin.List.listExtendWith
    refine wpAny_bind (wpAny_typeOf ⟨o, hb, hc⟩ ?_)
    have h1 : (Builtin.List.listSameRef (.ref l) (.ref b) || Value.type "tuple" == Value.type "list" || Value.type "tuple" == Value.type "tuple") = true := by simp
    simp only [h1, if_true]
    refine wpAny_bind ?_
    unfold Builtin.List.listItems
    refine wpAny_bind (wpAny_seqItems hb hd (wpAny_pure ?_))
    refine wpAny_bind ?_
    refine wpAny_bind (wpAny_seqItems hl rfl (wpAny_pure ?_))
    have hlong : ¬ (!items.isEmpty && Builtin.List.listTooLong (items.size + items2.size)) = true := by
      rw [notLongL hs1, Bool.and_false]
      exact Bool.false_ne_true
    rw [if_neg hlong]
    show wpAny _ _ (updateSeq l (· ++ items2) >>= fun _ => ret .none) _ _ s
    refine wpAny_bind (wpAny_updateSeq hl rfl (hz := by omega) (_hz' := by rw [Array.size_append]; omega) ?_)
    exact wpAny_pure ⟨_, rfl, h⟩
section
variable {X : Cx}
def rExtT : V → List V → Hp → VK → Prop := fun x vs H Q => ∃ l b xs zs, x = .ref l ∧ vs = [.ref b] ∧ H l = some (.lst xs) ∧ H b = some (.tup zs) ∧ xs.length + zs.length ≤ sizeLine ∧ Q .non (upd H l (.lst (xs ++ zs)))
theorem mt_extendT : MtM X "list.extend" rExtT := by
  intro pins s σ H x vs v us Q I rx rv h
  obtain ⟨l, b, xs, zs, rfl, rfl, hH, hB, hz, q⟩ := h
  cases rx
  obtain ⟨u, rfl, ru⟩ := rv.one
  cases ru
  obtain ⟨z, its, n, r, hl, e⟩ := I.lstM hH
  obtain ⟨its2, r2, ⟨o, ho, hc, n2, hd⟩, hz2⟩ := I.tuple (SqT.of hB)
  have hl2 := r2.length
  refine call_meets PySem.F.slot_list_extend ⟨_, e, rfl⟩ PySem.F.entry_list_extend (PySem.F.args_list_extend_2 _ _)
    (meets_extend_tup l its.toArray n b its2.toArray n2 o hc hd (by rw [List.size_toArray, List.size_toArray]; omega)) ⟨e, ho, ?_⟩
  refine ⟨.non, _, I.lset (its' := its ++ its2) hH e (by simp) (r.append r2) ?_, rfl, q⟩
  rw [List.length_append]
  omega
end
end RL
/-! ### enumerate(a list, start=k) -/
namespace RL
open PySem PySem.Spec PyProof.Rows L2
section
variable {M : Model} {A : Around} {E : Value → Shared → Prop} {s : Shared} {env : Env}
theorem callWith_type_kwB {pos : Pos} {T : String} {first : List Value} {args : List (Bool × Sem Value)} {keywords : List (Option Str × Sem Value)} {Q : Value → Shared → Prop}
    (hplain : args.any (·.1) = false) (hkw : keywords.any (·.1.isNone) = false)
    (h : wpAny M A (evalArgs (.type T) true args keywords) (fun a s₁ => wpAny M A (call (.type T) (first ++ a.pos) a.kw) Q E s₁) E s) :
    wpAny M A (callWith pos (.type T) first args keywords) Q E s := by
  unfold callWith
  refine wpAny_bind (wpAny_holding (wpAny_mono h (fun a s₁ h₁ => wpAny_bind (wpAny_standAt ?_)) fun _ _ x => x))
  simp only [hplain, hkw, Bool.or_false]
  refine wpAny_bind (wpAny_pure ?_)
  exact wpAny_bind (wpAny_mono h₁ (fun r s₂ hr => wpAny_bind (wpAny_holding (wpAny_point (wpAny_pure hr)))) fun _ _ x => x)
theorem callWith_type_kw {pos : Pos} {T : String} {e : Expr} {rest : List Expr} {kws : List Keyword} {Q : Value → Shared → Prop}
    (h : wpAny M A (spliced (backTo pos (starEach (e :: rest) env))) (fun vs s₁ => wpAny M A (evalAll ((backToKw pos (keywordEach kws env)).map (·.2)))
      (fun kvs s₂ => wpAny M A (call (.type T) vs (((backToKw pos (keywordEach kws env)).filterMap (·.1)).zip kvs)) Q E s₂) E s₁) E s)
    (he : backTo pos (starEach (e :: rest) env) = (false, eval e env) :: backTo pos (starEach rest env))
    (hplain : (backTo pos (starEach (e :: rest) env)).any (·.1) = false)
    (hall : (backToKw pos (keywordEach kws env)).all (·.1.isSome) = true)
    (hkw : (backToKw pos (keywordEach kws env)).any (·.1.isNone) = false) :
    wpAny M A (callWith pos (.type T) [] (backTo pos (starEach (e :: rest) env)) (backToKw pos (keywordEach kws env))) Q E s := by
  refine callWith_type_kwB hplain hkw ?_
  rw [he] at h ⊢
  exact evalArgs_kwB hall h
end
/-- the list at a as it stands at each turn, each item in a new pair, counted from k -/
def IteS (K : PySem.W.Frag) (a : Addr) (k : Int) : It :=
  ⟨fun i H => ∃ (xs : List V) (x : V), SqL K H a xs ∧ xs[i]? = some x, fun i H v H' => ∃ T x, v = .ref T ∧ H T = none ∧ H' = upd H T (.tup [.int (k + (i : Nat)), x]) ∧ ∀ xs, SqL K H a xs → xs[i]? = some x, fun i H => ∃ xs : List V, SqL K H a xs ∧ xs.length = i⟩
theorem turn_enumS {P : Program} {w : World} {K : PySem.W.Frag} {elts : List Expr} {kk : Nat} {tpos : Pos} (a e it : Addr) (k : Int) :
    Turn P w K (.Tuple elts kk tpos) (IteS K a k) [e, it] e (fun i h => (∃ old, IsEnum h e it (k + ((i : Nat) : Int)) old) ∧ h.IsListIter it a i ∧ e ≠ it ∧ e ≠ a ∧ a ≠ it) where
  mem := by simp
  obj := fun i h st b hb => by
    obtain ⟨⟨old, he⟩, ⟨o, ho, hc, hd⟩, _⟩ := st
    have e' : b = e ∨ b = it := by simpa using hb
    rcases e' with z | z
    · rw [z]; exact ⟨_, he, fun v q => nomatch q⟩
    · rw [z]; exact ⟨o, ho, fun v q => by rw [hd] at q; cases q⟩
  keep := fun i h h' st k => let ⟨⟨old, he⟩, hi, hne⟩ := st; ⟨⟨old, k e (by simp) _ he⟩, hi.at fun o q => k it (by simp) o q, hne⟩
  item := by
    intro X hP hw hK hc i pins s σ H E I hf st hg
    subst hP hw hK
    obtain ⟨⟨old, he⟩, hit, hne, hea, hai⟩ := st
    obtain ⟨xs, x, hq, hx⟩ := hg
    obtain ⟨its, rv, p, hz⟩ := I.list hq
    obtain ⟨u, hu, ru⟩ := rv.get hx
    have hel : e < s.heap.objs.size := Heap.lt_size he
    have hil : it < s.heap.objs.size := by obtain ⟨_, q, _⟩ := hit; exact Heap.lt_size q
    have D := Draws.list (prog := X.prog) (w := X.w) (A := X.A.in1) (I.ok.hd hc) it a hai its.toArray
    have hlt : i < its.toArray.size := by
      have := (List.getElem?_eq_some_iff.mp hu).1
      simpa using this
    refine wpAny_pyNext_enum_itemC D he ⟨hit, p.isList⟩ hlt hne (by simp [hne, hea]) fun u' h' tk hu' ho hst' hT hsz hk => ?_
    have euu : u' = u := by
      have z : its.toArray[i]? = some u := by simpa using hu
      rw [z] at hu'
      exact (Option.some.inj hu').symm
    subst euu
    refine ⟨_, rfl, wpAny_letOwnedTupleGo_enum (s := { s with heap := h', toks := tk + 1 }) ho fun h'' he' sb => ?_⟩
    have hT2 : h''.get? s.heap.objs.size = some { cls := .type "tuple", data := .seq #[.int (k + (i : Nat)) tk, u'] } := (sb.2 _ (Nat.ne_of_gt hel)).trans hT
    have new : ObjOk X.prog X.w (upd H s.heap.objs.size (.tup [.int (k + (i : Nat)), x])) h'' s.heap.objs.size (.tup [.int (k + (i : Nat)), x]) :=
      ⟨by show 2 ≤ sizeLine; decide, [.int (k + (i : Nat)) tk, u'], .cons ⟨_, rfl⟩ (.cons ru .nil), ⟨_, hT2, rfl, _, rfl⟩⟩
    have I1 : Inv X pins σ (upd H s.heap.objs.size (.tup [.int (k + (i : Nat)), x])) { s with heap := h'', toks := tk + 1 } :=
      I.turnedNew (ch := [e, it]) (fun b ob hb q => (sb.2 b (fun z => hb (by simp [z]))).trans (hk b ob (fun z => hb (by simp [z])) (fun z => hb (by simp [z])) q)) hf (Nat.le_refl _) new
    refine ⟨.ref s.heap.objs.size, _, I1, rfl, ⟨_, x, rfl, I.hok.fresh (Nat.le_refl _), rfl, fun ys hy => by rw [I.list_inj hy hq]; exact hx⟩, ⟨⟨u', ?_⟩, hst'.1.at fun o q => (sb.2 it (Ne.symm hne)).trans q, hne, hea, hai⟩, fun b hb => ?_⟩
    · have e1 : k + ((i + 1 : Nat) : Int) = k + (i : Int) + 1 := by omega
      rw [e1]; exact he'
    · have hb' : b < s.heap.objs.size := by
        have e' : b = e ∨ b = it := by simpa using hb
        rcases e' with z | z
        · rw [z]; exact hel
        · rw [z]; exact hil
      rw [upd_ne (Nat.ne_of_lt hb')]
      exact (hf b hb).1
  done := by
    intro X hP hw hK hc i pins s σ H E I hf st hg
    subst hP hw hK
    obtain ⟨⟨old, he⟩, hit, hne, hea, hai⟩ := st
    obtain ⟨xs, hq, hx⟩ := hg
    obtain ⟨its, rv, p, hz⟩ := I.list hq
    obtain ⟨f0, f1, f2, f3, f4, f5⟩ := hf it (by simp)
    have hl := rv.length
    have D := Draws.list (prog := X.prog) (w := X.w) (A := X.A.in1) (I.ok.hd hc) it a hai its.toArray
    have en : i = its.toArray.size := by rw [List.size_toArray]; omega
    subst en
    exact wpAny_pyNext_enum_endD D he ⟨hit, p.isList⟩ fun h' eb => ⟨rfl, I.turned (t' := s.toks) (fun b o hb q => eb b o hb q) f0 f1 f3 f4 f5⟩
  self := fun A i s Q E st h => let ⟨⟨_, he⟩, _⟩ := st; wpAny_pyIter_enum he h
def iEnumS (K : PySem.W.Frag) (ta : TA) (tk : TA) : TI := fun σ H R => ta σ H fun vs H1 => tk σ H1 fun zs H2 => ∃ a xs k, vs = [.ref a] ∧ zs = [.int k] ∧ -(2 ^ 63) ≤ k ∧ k < 2 ^ 63 ∧ SqL K H2 a xs ∧ R (IteS K a k) H2
theorem pi_enumS {X : Cx} {e e2 : Expr} {ta tk : TA} {p pos tpos kp : Pos} {elts : List Expr} {kk : Nat} (hg : Gl X "enumerate") (hm : X.mg "enumerate" = none) (ha : PA X [e] ta) (hkw : PK X [⟨some ("start" : Str), e2, kp⟩] tk)
    (he : backTo pos (starEach [e] X.env) = (false, eval e X.env) :: backTo pos (starEach [] X.env) := by rfl) (hpl : (backTo pos (starEach [e] X.env)).any (·.1) = false := by rfl)
    (hall : (backToKw pos (keywordEach [⟨some ("start" : Str), e2, kp⟩] X.env)).all (·.1.isSome) = true := by rfl) (hnone : (backToKw pos (keywordEach [⟨some ("start" : Str), e2, kp⟩] X.env)).any (·.1.isNone) = false := by rfl)
    (hks : (backToKw pos (keywordEach [⟨some ("start" : Str), e2, kp⟩] X.env)).filterMap (·.1) = [("start" : Str)] := by rfl) :
    PI X (.Tuple elts kk tpos) (.Call (.Name "enumerate" p) [e] [⟨some ("start" : Str), e2, kp⟩] pos) (iEnumS X.K ta tk) := by
  refine ⟨fun pins s σ H R I h => ?_⟩
  refine wpAny_Call_Name_kw (ld_blt I hg hm boot_enumerate (callWith_type_kw (thn (ha.run pos pins s σ H _ I h) fun us s0 ⟨vs, H0, I0, r0, q0⟩ => thn (hkw.run pos pins s0 σ H0 _ I0 q0) fun ws s1 ⟨zs, H1, I1, r2, q1⟩ => ?_) he hpl hall hnone))
  rw [hks]
  obtain ⟨a, xs, k, ex, ez, hk0, hk1, hq, q⟩ := q1
  subst ex ez
  cases r0 with
  | cons r rr =>
    cases rr
    cases r
    cases r2 with
    | cons r3 rr3 =>
      cases rr3
      obtain ⟨t, rfl⟩ := r3
      obtain ⟨its, rv, p', hz⟩ := I1.list hq
      have hal : a < s1.heap.objs.size := by obtain ⟨_, z, _⟩ := p'.isList; exact Heap.lt_size z
      refine enum_begins_start (begins_list a its.toArray) p'.isList hk0 hk1 fun h' he' hit hsz hk => wpAny_pyIter_enum he' ?_
      have I2 : Inv X pins σ H1 { s1 with heap := h' } := I1.kept (t' := s1.toks) hk
      refine ⟨s1.heap.objs.size + 1, [s1.heap.objs.size + 1, s1.heap.objs.size], _, _, H1, rfl, I2, turn_enumS a (s1.heap.objs.size + 1) s1.heap.objs.size k, ⟨⟨.none, ?_⟩, ⟨_, hit, rfl, ?_⟩, Nat.succ_ne_self _, Nat.ne_of_gt (Nat.lt_succ_of_lt hal), Nat.ne_of_lt hal⟩, fun b hb => ?_, q⟩
      · rw [show k + ((0 : Nat) : Int) = k by omega]
        exact he'
      · rfl
      · have e' : b = s1.heap.objs.size + 1 ∨ b = s1.heap.objs.size := by simpa using hb
        have hle : s1.heap.objs.size ≤ b := by
          rcases e' with z | z
          · rw [z]; exact Nat.le_add_right _ _
          · rw [z]; exact Nat.le_refl _
        exact I1.fpOk hle (I1.hok.fresh hle)
end RL
/-! ### a text times an int -/
namespace RL
open PySem PySem.Spec PyProof.Rows L2
def repS (z : Str) (k : Nat) : Str := ⟨(List.replicate k z.cps).foldl (· ++ ·) #[]⟩
theorem foldl_size : ∀ (l : List (Array Nat)) (a : Array Nat), (l.foldl (· ++ ·) a).toList = a.toList ++ (l.map Array.toList).flatten
  | [], a => by simp
  | x :: r, a => by
    rw [List.foldl_cons, foldl_size r (a ++ x), Array.toList_append, List.map_cons, List.flatten_cons, List.append_assoc]
theorem repS_tl (z : Str) (k : Nat) : TL.tl (repS z k) = (List.replicate k z.cps.toList).flatten := by
  show ((List.replicate k z.cps).foldl (· ++ ·) #[]).toList = _
  rw [foldl_size, List.map_replicate]
  rfl
theorem repS_len (z : Str) (k : Nat) : (repS z k).length = k * z.length := by
  show (repS z k).cps.size = _
  rw [← Array.length_toList]
  have h := repS_tl z k
  unfold TL.tl at h
  rw [h]
  simp [List.length_flatten]
  rfl
def rMulS : R2 := fun x y H Q => ∃ (z : Str) (k : Nat), x = .str z ∧ y = .int (k : Int) ∧ 2 ≤ k ∧ k ≤ 100000 ∧ 1 ≤ z.length ∧ z.length ≤ 100 ∧ Q (.str (repS z k)) H
theorem op_mulS {X : Cx} : OpR X (binaryOp .Mult) rMulS := by
  intro pins s σ H x y v u Q I rx ry h
  obtain ⟨z, k, rfl, rfl, hk, hk2, hz, hz2, q⟩ := h
  obtain ⟨t, rfl⟩ := rx
  obtain ⟨t', rfl⟩ := ry
  have hle : z.length * k ≤ 10000000 := by
    have h1 : z.length * k ≤ 100 * k := Nat.mul_le_mul_right k hz2
    omega
  have hno : ((((k : Nat) : Int) == 1) || z.length == 0) = false := by
    have h1 : (((k : Nat) : Int) == 1) = false := by
      apply beq_false_of_ne
      omega
    have h2 : (z.length == 0) = false := by
      apply beq_false_of_ne
      omega
    rw [h1, h2]; rfl
  refine PySem.P.mul_str ?_ ?_ ?_ ?_
  · have h1 : ¬ (k : Int) < -(2 ^ 63 : Int) := by omega
    have h2 : ¬ (k : Int) ≥ 2 ^ 63 := by omega
    rw [decide_eq_false h1, decide_eq_false h2]; rfl
  · intro _ _
    have h3 : (1000 : Int) ≤ (2 ^ 63 - 1) / (k : Int) := by
      rw [Int.le_ediv_iff_mul_le (by omega)]
      omega
    omega
  · intro _ _
    rw [Int.toNat_natCast]
    have hs : 10000000 ≤ sizeLine := by decide
    unfold Builtin.Str.tooLong
    exact decide_eq_false (by omega)
  · rw [if_neg (by omega), if_neg (by rw [hno]; decide)]
    rw [Int.toNat_natCast]
    have hl := repS_len z k
    have hs : 10000000 ≤ sizeLine := by decide
    have hc : k * z.length = z.length * k := Nat.mul_comm _ _
    refine ⟨?_, ⟨.str (repS z k), H, I.tok _, ⟨_, rfl⟩, q⟩⟩
    show (repS z k).length ≤ sizeLine
    omega
end RL

/-! ### Z: single steps of readings, for walking by with_reducible refine -/
namespace Z
open PySem L2
/-- all but what stands at M is as it was -/
def Kp (M : List Addr) (H H' : Hp) : Prop := ∀ b o, b ∉ M → H b = some o → H' b = some o
theorem Kp.refl {M : List Addr} (H : Hp) : Kp M H H := fun _ _ _ h => h
theorem Kp.trans {M : List Addr} {H H1 H2 : Hp} (a : Kp M H H1) (b : Kp M H1 H2) : Kp M H H2 := fun c o n h => b c o n (a c o n h)
theorem Kp.new {M : List Addr} {H : Hp} {p : Addr} {o : HO} (h : H p = none) : Kp M H (upd H p o) := fun b u _ e => by
  rw [upd_ne (ne_of_none e h)]
  exact e
theorem Kp.put {M : List Addr} {H : Hp} {p : Addr} {o : HO} (h : p ∈ M) : Kp M H (upd H p o) := fun b u n e => by
  rw [upd_ne (fun q => n (by rw [q]; exact h))]
  exact e
theorem Kp.sub {M M' : List Addr} {H H' : Hp} (a : Kp M H H') (h : ∀ x, x ∈ M → x ∈ M') : Kp M' H H' := fun b o n e => a b o (fun z => n (h b z)) e
theorem Kp.same {H H' : Hp} (a : Kp [] H H') : Same H H' := fun b o e => a b o (by simp) e
theorem Kp.of_same {M : List Addr} {H H' : Hp} (a : Same H H') : Kp M H H' := fun b o _ e => a b o e
theorem Kp.none {M : List Addr} {H H' : Hp} (a : Kp M H H') {p : Addr} (n : p ∉ M) (h : H' p = Option.none) : H p = Option.none := by
  cases q : H p with
  | none => rfl
  | some o =>
    rw [a p o n q] at h
    cases h
/-- what was not there may be forgotten from M -/
theorem Kp.drop {M : List Addr} {H H' : Hp} {p : Addr} (a : Kp (p :: M) H H') (h : H p = Option.none) : Kp M H H' := fun b o n e => a b o (by
  intro z
  rcases List.mem_cons.mp z with z | z
  · rw [z, h] at e
    cases e
  · exact n z) e
theorem Kp.get {M : List Addr} {H H' : Hp} (a : Kp M H H') {b : Addr} {o : HO} (n : b ∉ M) (e : H b = some o) : H' b = some o := a b o n e
theorem Kp.seq {M : List Addr} {K : PySem.W.Frag} {H H' : Hp} (e : Kp M H H') {a : Addr} {xs : List V} (n : a ∉ M) (h : SqL K H a xs) : SqL K H' a xs := by
  rcases h with (h | ⟨o, h⟩) | h
  · exact .inl (.inl (e _ _ n h))
  · exact .inl (.inr ⟨o, e _ _ n h⟩)
  · exact .inr h
theorem Kp.tup {M : List Addr} {K : PySem.W.Frag} {H H' : Hp} (e : Kp M H H') {a : Addr} {xs : List V} (n : a ∉ M) (h : SqT K H a xs) : SqT K H' a xs := by
  rcases h with (h | ⟨o, h⟩) | h
  · exact .inl (.inl (e _ _ n h))
  · exact .inl (.inr ⟨o, e _ _ n h⟩)
  · exact .inr h
/-- what H0 does not know may change -/
theorem Kp.mut {M : List Addr} {H0 H H' : Hp} {l : Addr} {o : HO} (a : Kp M H0 H) (h : H0 l = Option.none) (e : H' = upd H l o) : Kp M H0 H' := fun b u n z => by
  rw [e, upd_ne (ne_of_none z h)]
  exact a b u n z
theorem Kp.then1 {M : List Addr} {H0 H H' : Hp} {l : Addr} (a : Kp M H0 H) (b : Kp [l] H H') (h : H0 l = Option.none) : Kp M H0 H' := fun c o n e => b c o (by
  intro z
  rw [List.mem_singleton.mp z, h] at e
  cases e) (a c o n e)
/-- a new instance and its dict -/
theorem Kp.made {M : List Addr} {H : Hp} {x dx : Addr} {o u : HO} (nx : H x = Option.none) (nd : H dx = Option.none) : Kp M H (upd (upd H dx u) x o) := fun c o n e => by
  rw [upd_ne (ne_of_none e nx), upd_ne (ne_of_none e nd)]
  exact e
theorem none2 {H : Hp} {x dx l : Addr} {o u : HO} (h : upd (upd H dx u) x o l = Option.none) : H l = Option.none := by
  unfold upd at h
  split at h
  · cases h
  · split at h
    · cases h
    · exact h
theorem nin1 {a b : Addr} (h : b ≠ a) : b ∉ [a] := by simpa using h
theorem nin0 {b : Addr} : b ∉ ([] : List Addr) := by simp
theorem lstL {K : PySem.W.Frag} {H : Hp} {a : Addr} {xs : List V} (h : H a = some (.lst xs)) : SqL K H a xs := .inl (.inl h)
theorem tupT {K : PySem.W.Frag} {H : Hp} {a : Addr} {xs : List V} (h : H a = some (.tup xs)) : SqT K H a xs := .inl (.inl h)

theorem cxK {CX : CXT} {P : Program} {w : World} {K : PySem.W.Frag} {mg : Str → Option Value} {base : Heap} {N : List Str} {qual : Str} {scope : Scope} {f : Addr} {cd : Value} {A : Around} {outer : List Env} {s : Shared} {H : Hp} {E : XK} : (cxOf CX P w K mg base N qual scope f cd A outer s H E).K = K := rfl
/-! named readings of rules -/
def rLenN (K : PySem.W.Frag) : List V → Hp → VK → Prop := fun xs H Q => ∃ p ys, xs = [.ref p] ∧ (SqL K H p ys ∨ SqT K H p ys) ∧ Q (.int ys.length) H
theorem c_len {X : Cx} : CallR X (.builtin "len") (rLenN X.K) := call_len_seq
def rListN (K : PySem.W.Frag) : List V → Hp → VK → Prop := fun xs H Q => ∃ p ys, xs = [.ref p] ∧ (SqL K H p ys ∨ SqT K H p ys) ∧ ∀ l, H l = none → Q (.ref l) (upd H l (.lst ys))
theorem c_list {X : Cx} : CallR X (.type "list") (rListN X.K) := call_list_of
def rTupN (K : PySem.W.Frag) : List V → Hp → VK → Prop := fun xs H Q => ∃ p ys, xs = [.ref p] ∧ ((SqL K H p ys ∧ ∀ l, H l = none → Q (.ref l) (upd H l (.tup ys))) ∨ (SqT K H p ys ∧ Q (.ref p) H))
theorem c_tuple {X : Cx} : CallR X (.type "tuple") (rTupN X.K) := call_tuple_of
def rInt1 : List V → Hp → VK → Prop := fun xs H Q => (∃ i, xs = [.int i] ∧ Q (.int i) H) ∨ ∃ k, xs = [.bl k] ∧ Q (.int (if k then 1 else 0)) H
theorem c_int {X : Cx} : CallR X (.type "int") rInt1 := call_int1
def rAbs : List V → Hp → VK → Prop := fun xs H Q => ∃ i, xs = [.int i] ∧ Q (.int (if i < 0 then -i else i)) H
theorem c_abs {X : Cx} : CallR X (.builtin "abs") rAbs := call_abs
def rIsN : R2 := fun x y H Q => y = .non ∧ Q (.bl (decide (x = .non))) H
theorem o_isN {X : Cx} : OpR X (compareOp .Is) rIsN := op_isN
def rNotN : R2 := fun x y H Q => y = .non ∧ Q (.bl (!decide (x = .non))) H
theorem o_notN {X : Cx} : OpR X (compareOp .IsNot) rNotN := op_notN
def rAddS : R2 := fun x y H Q => ∃ i j, x = .str i ∧ y = .str j ∧ i.length + j.length ≤ sizeLine ∧ Q (.str (i ++ j)) H
theorem o_addS {X : Cx} : OpR X (binaryOp .Add) rAddS := op_add_str
def rInSg : R2 := fun x y H Q => ∃ (c : Nat) (z : Str), x = .str ⟨#[c]⟩ ∧ y = .str z ∧ Q (.bl (decide (c ∈ z.cps.toList))) H
theorem o_inSg {X : Cx} : OpR X (compareOp .In) rInSg := op_in_sign
def rNinSg : R2 := fun x y H Q => ∃ (c : Nat) (z : Str), x = .str ⟨#[c]⟩ ∧ y = .str z ∧ Q (.bl (!decide (c ∈ z.cps.toList))) H
theorem o_ninSg {X : Cx} : OpR X (compareOp .NotIn) rNinSg := op_notIn_sign
/-- // by a divisor of any sign -/
def CDivA (_ j : Int) : Prop := j ≠ 0 ∧ j.natAbs.log2 < 9000
theorem op_fdivA {X : Cx} : OpR X (binaryOp .FloorDiv) (rI CDivA fun i j => .int (i.fdiv j)) := opI fun i j _ _ _ _ _ hc q => PyProof.Rows.floordiv_int hc.1 q (.inl (PyProof.noPylong_of_log2 hc.2))
theorem divA {i j : Int} {b : Nat} (h : j ≠ 0) (hb : j.natAbs < 2 ^ b) (h0 : 0 < b) (h9 : b ≤ 9000) : CDivA i j := ⟨h, Nat.lt_of_lt_of_le (PySem.Flt.log2_lt_of h0 hb) h9⟩
def rLenS : List V → Hp → VK → Prop := fun xs H Q => ∃ x : Str, xs = [.str x] ∧ x.cps.size ≤ 10000000 ∧ Q (.int (x.cps.size : Nat)) H
theorem c_lens {X : Cx} : CallR X (.builtin "len") rLenS := fun pins s σ H xs us Q I r h => call_len pins s σ H xs us Q I r (by obtain ⟨x, rfl, hz, q⟩ := h; exact ⟨.str x, _, rfl, ⟨Nat.le_trans hz (by decide), rfl⟩, q⟩)
def rPopQ : V → List V → Hp → VK → Prop := rPop
section
variable {σ : St} {H : Hp} {Q : VK} {v x y : V} {ta tb tc te : TE} {tA : TT} {D : Ends} {t u ts : TS} {r : R2} {K : PySem.W.Frag} {i : Nat} {A B : Prop}
/-! values -/
theorem var (h : σ[i]? = some (some v)) (q : Q v H) : tVar i σ H Q := ⟨v, h, q⟩
theorem cst (q : Q v H) : tC v σ H Q := q
theorem op (h : ta σ H fun x H1 => tb σ H1 fun y H2 => r x y H2 Q) : tOp r ta tb σ H Q := h
theorem un {r : V → Hp → VK → Prop} (h : ta σ H fun x H1 => r x H1 Q) : tUn r ta σ H Q := h
theorem i0 {g : Int → Int → V} {a b : Int} (q : Q (g a b) H) : rI0 g (.int a) (.int b) H Q := ⟨a, b, rfl, rfl, q⟩
theorem iC {C : Int → Int → Prop} {g : Int → Int → V} {a b : Int} (c : C a b) (q : Q (g a b) H) : rI C g (.int a) (.int b) H Q := ⟨a, b, rfl, rfl, c, q⟩
theorem iU {g : Int → V} {a : Int} (q : Q (g a) H) : rU g (.int a) H Q := ⟨a, rfl, q⟩
theorem eqII {a b : Int} (q : Q (.bl (decide (a = b))) H) : rEq (.int a) (.int b) H Q := ⟨rfl, by
  have e : decide (V.int a = V.int b) = decide (a = b) := by simp
  rw [e]; exact q⟩
theorem neII {a b : Int} (q : Q (.bl (!decide (a = b))) H) : rNe (.int a) (.int b) H Q := ⟨rfl, by
  have e : decide (V.int a = V.int b) = decide (a = b) := by simp
  rw [e]; exact q⟩
theorem eqSS {a b : Str} (q : Q (.bl (decide (a = b))) H) : rEq (.str a) (.str b) H Q := ⟨rfl, by
  have e : decide (V.str a = V.str b) = decide (a = b) := by simp
  rw [e]; exact q⟩
theorem neSS {a b : Str} (q : Q (.bl (!decide (a = b))) H) : rNe (.str a) (.str b) H Q := ⟨rfl, by
  have e : decide (V.str a = V.str b) = decide (a = b) := by simp
  rw [e]; exact q⟩
theorem eqBB {a b : Bool} (q : Q (.bl (decide (a = b))) H) : rEq (.bl a) (.bl b) H Q := ⟨rfl, by
  have e : decide (V.bl a = V.bl b) = decide (a = b) := by simp
  rw [e]; exact q⟩
theorem neBB {a b : Bool} (q : Q (.bl (!decide (a = b))) H) : rNe (.bl a) (.bl b) H Q := ⟨rfl, by
  have e : decide (V.bl a = V.bl b) = decide (a = b) := by simp
  rw [e]; exact q⟩
theorem bl {b : Bool} {q : Bool → Hp → Prop} (h : q b H) : ∃ k, V.bl b = .bl k ∧ q k H := ⟨b, rfl, h⟩
theorem bl' {b : Bool} {q : Bool → Prop} (h : q b) : ∃ k, V.bl b = .bl k ∧ q k := ⟨b, rfl, h⟩
theorem test {Q : Bool → Hp → Prop} (h : te σ H fun x H' => ∃ k, x = .bl k ∧ Q k H') : tTest te σ H Q := h
theorem tbb {Q : Bool → Hp → Prop} (h : te σ H fun x H' => ∃ k, x = .bl k ∧ Q k H') : tB te σ H Q := h
theorem tand {a b : TT} {Q : Bool → Hp → Prop} (h : a σ H fun c H1 => if c = true then b σ H1 Q else Q false H1) : tAnd a b σ H Q := h
theorem tor {a b : TT} {Q : Bool → Hp → Prop} (h : a σ H fun c H1 => if c = true then Q true H1 else b σ H1 Q) : tOr a b σ H Q := h
theorem tnot {a : TT} {Q : Bool → Hp → Prop} (h : a σ H fun c H1 => Q (!c) H1) : tNot a σ H Q := h
theorem tyes {Q : Bool → Hp → Prop} (h : Q true H) : tYes σ H Q := h
theorem andV (h : ta σ H fun x H1 => ∃ c, x = .bl c ∧ if c = true then tb σ H1 Q else Q (.bl false) H1) : tAndV ta tb σ H Q := h
theorem orV (h : ta σ H fun x H1 => ∃ c, x = .bl c ∧ if c = true then Q (.bl true) H1 else tb σ H1 Q) : tOrV ta tb σ H Q := h
theorem notV (h : ta σ H fun x H1 => ∃ c, x = .bl c ∧ Q (.bl (!c)) H1) : tNotV ta σ H Q := h
theorem ifE (h : tA σ H fun c H1 => if c = true then ta σ H1 Q else tb σ H1 Q) : L2.tIf tA ta tb σ H Q := h
theorem chain {r r' : R2} (h : ta σ H fun x H1 => tb σ H1 fun y H2 => r x y H2 fun z H3 => ∃ k, z = .bl k ∧ (if k = true then tc σ H3 fun w' H4 => r' y w' H4 Q else Q (.bl false) H3)) : tChain r r' ta tb tc σ H Q := h
/-! branches -/
theorem ite {p : Prop} [Decidable p] (h1 : p → A) (h2 : ¬p → B) : if decide p = true then A else B := by
  by_cases h : p
  · rw [decide_eq_true h, if_pos rfl]; exact h1 h
  · rw [decide_eq_false h, if_neg Bool.false_ne_true]; exact h2 h
theorem iteN {p : Prop} [Decidable p] (h1 : ¬p → A) (h2 : p → B) : if (!decide p) = true then A else B := by
  by_cases h : p
  · rw [decide_eq_true h]; exact h2 h
  · rw [decide_eq_false h]; exact h1 h
theorem iteB {b : Bool} (h1 : b = true → A) (h2 : b = false → B) : if b = true then A else B := by
  cases b with
  | true => exact h1 rfl
  | false => exact h2 rfl
theorem yes {p : Prop} [Decidable p] (h : p) (q : A) : if decide p = true then A else B := by rw [decide_eq_true h, if_pos rfl]; exact q
theorem no {p : Prop} [Decidable p] (h : ¬p) (q : B) : if decide p = true then A else B := by rw [decide_eq_false h, if_neg Bool.false_ne_true]; exact q
theorem yesN {p : Prop} [Decidable p] (h : ¬p) (q : A) : if (!decide p) = true then A else B := by rw [decide_eq_false h]; exact q
theorem noN {p : Prop} [Decidable p] (h : p) (q : B) : if (!decide p) = true then A else B := by rw [decide_eq_true h]; exact q
theorem yesB (q : A) : if true = true then A else B := q
theorem noNB (q : B) : if (!true) = true then A else B := q
theorem yesNB (q : A) : if (!false) = true then A else B := q
theorem noB (q : B) : if false = true then A else B := q
/-! calls -/
theorem nil {Q : List V → Hp → Prop} (q : Q [] H) : tNil σ H Q := q
theorem cons {Q : List V → Hp → Prop} {tr : TA} (h : ta σ H fun x H1 => tr σ H1 fun xs H2 => Q (x :: xs) H2) : tCons ta tr σ H Q := h
theorem cb {r : List V → Hp → VK → Prop} {a : TA} (h : a σ H fun vs H1 => r vs H1 Q) : tCB r a σ H Q := h
theorem call {sp : Sp} {dvs : List V} {E : XK} {a : TA} (h : a σ H fun vs H1 => sp (vs ++ dvs) H1 Q E) : tCall sp dvs E a σ H Q := h
theorem meth {C : Addr} {m : Str} {sp : Sp} {dvs : List V} {E : XK} {a : TA} (h : ta σ H fun x H1 => ∃ p dx fs, x = .ref p ∧ H1 p = some (.ins C dx fs) ∧ fs.lookup m = none ∧ a σ H1 fun vs H2 => sp (x :: (vs ++ dvs)) H2 Q E) : tMeth C m sp dvs E ta a σ H Q := h
theorem fld {f : Str} (h : ta σ H fun x H1 => ∃ a C dx fs v, x = .ref a ∧ H1 a = some (.ins C dx fs) ∧ Cls K C ∧ NoAttr K C f ∧ fs.lookup f = some v ∧ Q v H1) : tFld K ta f σ H Q := h
theorem int1 {a : Int} (q : Q (.int a) H) : rInt1 [.int a] H Q := .inl ⟨a, rfl, q⟩
theorem intb {b : Bool} (q : Q (.int (if b then 1 else 0)) H) : rInt1 [.bl b] H Q := .inr ⟨b, rfl, q⟩
theorem abs1 {a : Int} (q : Q (.int (if a < 0 then -a else a)) H) : rAbs [.int a] H Q := ⟨a, rfl, q⟩
theorem isN (q : Q (.bl (decide (x = .non))) H) : rIsN x .non H Q := ⟨rfl, q⟩
theorem notN (q : Q (.bl (!decide (x = .non))) H) : rNotN x .non H Q := ⟨rfl, q⟩
theorem addS {a b : Str} (h : a.length + b.length ≤ sizeLine) (q : Q (.str (a ++ b)) H) : rAddS (.str a) (.str b) H Q := ⟨a, b, rfl, rfl, h, q⟩
theorem inSg {c : Nat} {z : Str} (q : Q (.bl (decide (c ∈ z.cps.toList))) H) : rInSg (.str ⟨#[c]⟩) (.str z) H Q := ⟨c, z, rfl, rfl, q⟩
theorem ninSg {c : Nat} {z : Str} (q : Q (.bl (!decide (c ∈ z.cps.toList))) H) : rNinSg (.str ⟨#[c]⟩) (.str z) H Q := ⟨c, z, rfl, rfl, q⟩
/-- a new object -/
theorem new {o : HO} (h : ∀ p, H p = none → Q (.ref p) (upd H p o)) : ∀ p, H p = none → Q (.ref p) (upd H p o) := h
def TupN (Q : VK) (xs : List V) (H1 : Hp) : Prop := xs.length ≤ sizeLine ∧ ∀ p, H1 p = none → Q (.ref p) (upd H1 p (.tup xs))
def LstN (Q : VK) (xs : List V) (H1 : Hp) : Prop := xs.length ≤ sizeLine ∧ ∀ p, H1 p = none → Q (.ref p) (upd H1 p (.lst xs))
theorem tup {a : TA} (h : a σ H (TupN Q)) : tTup a σ H Q := h
theorem lst {a : TA} (h : a σ H (LstN Q)) : tLst a σ H Q := h
/-- a new object, the heap behind it a letter -/
theorem mk {o : HO} {H0 : Hp} {R : Addr → Hp → Prop} (h : ∀ p H1, H0 p = none → Kp [] H0 H1 → H1 p = some o → R p H1) : ∀ p, H0 p = none → R p (upd H0 p o) := fun p n => h p _ n (Kp.new n) upd_same
theorem tupK {xs : List V} (q : ∀ p H1, H p = none → Kp [] H H1 → H1 p = some (.tup xs) → Q (.ref p) H1) (h : xs.length ≤ 100000 := by simp) : TupN Q xs H := ⟨Nat.le_trans h (by decide), mk q⟩
theorem lstK {xs : List V} (q : ∀ p H1, H p = none → Kp [] H H1 → H1 p = some (.lst xs) → Q (.ref p) H1) (h : xs.length ≤ 100000 := by simp) : LstN Q xs H := ⟨Nat.le_trans h (by decide), mk q⟩
theorem sz {n m : Nat} (h : n ≤ m) (hm : m ≤ 10000000 := by decide) : n ≤ sizeLine := Nat.le_trans h (Nat.le_trans hm (by decide))
theorem szl {n m : Nat} (h : n ≤ m) (hm : m ≤ 10000000 := by decide) : n < sizeLine := Nat.lt_of_le_of_lt (Nat.le_trans h hm) (by decide)
/-! subscripts -/
theorem ixL {p : Addr} {xs : List V} {j : Int} (h : SqL K H p xs) (e : atI xs j = some v) (q : Q v H) : rIxL K (.ref p) (.int j) H Q := ⟨p, xs, j, v, rfl, rfl, h, e, q⟩
theorem ixT {p : Addr} {xs : List V} {j : Int} (h : SqT K H p xs) (e : atI xs j = some v) (q : Q v H) : rIxT K (.ref p) (.int j) H Q := ⟨p, xs, j, v, rfl, rfl, h, e, q⟩
theorem setL {p : Addr} {xs : List V} {k : Int} {j : Nat} {v : V} {q : Hp → Prop} (h : H p = some (.lst xs)) (e : ixN xs.length k = some j) (hq : q (upd H p (.lst (xs.set j v)))) : rSetL (.ref p) (.int k) v H q := ⟨p, xs, k, j, rfl, rfl, h, e, hq⟩
theorem gsub {to ti : TE} {t : TSet} {Q : St → Hp → Prop} (h : to σ H fun o H1 => ti σ H1 fun i H2 => t o i v H2 fun H3 => Q σ H3) : gSub to ti t v σ H Q := h
/-! statements -/
/-- a statement whose ways join ahead of the rest -/
def tSeqJ (t u : TS) : TS := tSeq t u
theorem pss_consJ {X : Cx} {st : Stmt} {rest : List Stmt} {t u : TS} (h1 : PS X st t) (h2 : PSs X rest u) : PSs X (st :: rest) (tSeqJ t u) := pss_cons h1 h2
theorem seqJ (J : St → Hp → Prop) (h2 : ∀ σ H, J σ H → u D σ H) (h1 : ∀ N : St → Hp → Prop, (∀ σ H, J σ H → N σ H) → t { D with nx := N } σ H) : tSeqJ t u D σ H := h1 (u D) h2
theorem seqJ' (h : tSeq t u D σ H) : tSeqJ t u D σ H := h
theorem seq (h : t { D with nx := u D } σ H) : tSeq t u D σ H := h
theorem asg {g : TG} (h : te σ H fun x H1 => g x σ H1 D.nx) : tAsg te g D σ H := h
theorem gname {Q : St → Hp → Prop} {σ' : St} (e : σ.set i (some v) = σ') (h : Q σ' H) : gName i v σ H Q := by
  subst e; exact h
def ParK (i j : Nat) (D : Ends) (σ : St) (vs : List V) (H1 : Hp) : Prop := ∃ v w, vs = [v, w] ∧ D.nx ((σ.set i (some v)).set j (some w)) H1
theorem par {i j : Nat} {a : TA} (h : a σ H (ParK i j D σ)) : tPar i j a D σ H := h
theorem par2 {i j : Nat} {v w : V} {σ' : St} (e : (σ.set i (some v)).set j (some w) = σ') (h : D.nx σ' H) : ParK i j D σ [v, w] H := ⟨v, w, rfl, by rw [e]; exact h⟩
theorem aug {ti : TIp} {x : V} (e : σ[i]? = some (some x)) (h : te σ H fun y H1 => ti x y H1 fun z H2 => D.nx (σ.set i (some z)) H2) : tAug i te ti D σ H := ⟨x, e, h⟩
theorem ipI' {f : Int → Int → Int} {a b : Int} (q : Q (.int (f a b)) H) : ipI f (.int a) (.int b) H Q := ⟨a, b, rfl, rfl, q⟩
theorem ifs {c : TT} (h : c σ H fun b H1 => if b = true then t D σ H1 else u D σ H1) : tIfS c t u D σ H := h
theorem ret (h : te σ H D.rt) : tRet te D σ H := h
theorem retN (h : D.rt .non H) : tRetN D σ H := h
theorem next (h : D.nx σ H) : tNext D σ H := h
theorem brk (h : D.bk σ H) : tBreak D σ H := h
theorem drop (h : te σ H fun _ H1 => D.nx σ H1) : tDrop te D σ H := h
theorem bm {T : String} {r : V → List V → Hp → VK → Prop} {to : TE} {a : TA} (h : to σ H fun x H1 => tyV K T x H1 ∧ a σ H1 fun xs H2 => r x xs H2 Q) : tBM K T r to a σ H Q := h
theorem bm0 {T : String} {r : V → List V → Hp → VK → Prop} {to : TE} (h : to σ H fun x H1 => tyV K T x H1 ∧ r x [] H1 Q) : tBM0 K T r to σ H Q := h
theorem app {l : Addr} {xs : List V} {y : V} (h : H l = some (.lst xs)) (z : xs.length < sizeLine) (q : Q .non (upd H l (.lst (xs ++ [y])))) : rAppend (.ref l) [y] H Q := ⟨l, xs, y, rfl, rfl, h, z, q⟩
theorem tyL {p : Addr} {xs : List V} (h : H p = some (.lst xs)) : tyV K "list" (.ref p) H := .inl ⟨rfl, _, SqL.of h⟩
theorem sfld {tv : TE} {f : Str} (h : tv σ H fun y H1 => ta σ H1 fun x H2 => ∃ a C dx fs, x = .ref a ∧ H2 a = some (.ins C dx fs) ∧ Cls K C ∧ NoAttr K C f ∧ fs.length < 1000 ∧ D.nx σ (upd H2 a (.ins C dx (putF f y fs)))) : sFld K ta tv f D σ H := h
theorem sfldaug {tv : TE} {rd : V → V → Hp → VK → Prop} {f : Str} (h : ta σ H fun x H1 => ∃ a C dx fs v, x = .ref a ∧ H1 a = some (.ins C dx fs) ∧ Cls K C ∧ NoAttr K C f ∧ fs.lookup f = some v ∧ tv σ H1 fun y H2 => rd v y H2 fun z H3 => ∃ dx' fs', H3 a = some (.ins C dx' fs') ∧ fs'.length < 1000 ∧ D.nx σ (upd H3 a (.ins C dx' (putF f z fs')))) : sFldAug K ta tv rd f D σ H := h
theorem radd {a b : Int} (q : Q (.int (a + b)) H) : rAdd (.int a) (.int b) H Q := ⟨a, b, rfl, rfl, q⟩
theorem make {C : Addr} {sp : Sp} {dvs : List V} {E : XK} {a : TA} (h : a σ H fun vs H1 => ∀ x dx, H1 x = none → H1 dx = none → dx ≠ x → sp (.ref x :: (vs ++ dvs)) (upd (upd H1 dx (.own x)) x (.ins C dx [])) (fun v H2 => v = .non ∧ Q (.ref x) H2) E) : tMake C sp dvs E a σ H Q := h
/-- while -/
def WhB (W : Nat → St → Hp → Prop) (m : Nat) (tb : TS) (D : Ends) (σ : St) (H1 : Hp) : Prop := ∃ N : St → Hp → Prop, (∀ σ' H', N σ' H' → ∃ m', m' < m ∧ W m' σ' H') ∧ tb { D with nx := N, ct := N, bk := D.nx } σ H1
theorem whb {W : Nat → St → Hp → Prop} {m : Nat} {tb : TS} (h : tb { D with nx := fun σ' H' => ∃ m', m' < m ∧ W m' σ' H', ct := fun σ' H' => ∃ m', m' < m ∧ W m' σ' H', bk := D.nx } σ H) : WhB W m tb D σ H := ⟨_, fun _ _ z => z, h⟩
theorem wh {c : TT} {tb : TS} (W : Nat → St → Hp → Prop) (m : Nat) (h0 : W m σ H) (hs : ∀ m σ H, W m σ H → c σ H fun b H1 => if b = true then WhB W m tb D σ H1 else D.nx σ H1) : tWhile c tb D σ H := ⟨W, ⟨m, h0⟩, hs⟩
/-- calls by values -/
theorem sumL {a : Addr} {ns : List Int} (h : SqL K H a (ns.map V.int)) (q : Q (.int ns.sum) H) : rSum K [.ref a] H Q := ⟨a, ns, rfl, h, q⟩
theorem gcd {a b : Int} (q : Q (.int ((Nat.gcd a.natAbs b.natAbs : Nat) : Int)) H) : rGcd [.int a, .int b] H Q := ⟨a, b, rfl, q⟩
theorem mkN {C : Addr} {sp : Sp} {Q : XK} (h : ∀ a, H a = none → sp [.ref a] (upd H a (exo a C none)) (fun v H2 => v = .non ∧ H2 a = some (exo a C none) ∧ Q (.ref C) none (del H2 a)) (fun _ _ _ => False)) : Sup.tMkN C sp σ H Q := h
theorem gtup {n : Nat} {t : TGs} {a : Addr} {xs : List V} {Q : St → Hp → Prop} (h : SqT K H a xs) (e : xs.length = n) (q : t xs σ H Q) : gTup K n t (.ref a) σ H Q := ⟨a, xs, rfl, h, e, q⟩
theorem gcons {t : TG} {u : TGs} {v : V} {r : List V} {Q : St → Hp → Prop} (q : t v σ H fun σ' H' => u r σ' H' Q) : gCons t u (v :: r) σ H Q := ⟨v, r, rfl, q⟩
theorem gnil {Q : St → Hp → Prop} (q : Q σ H) : gNil [] σ H Q := ⟨rfl, q⟩
theorem lenL {a : Addr} {xs : List V} (h : SqL K H a xs) (q : Q (.int xs.length) H) : rLenN K [.ref a] H Q := ⟨a, xs, rfl, .inl h, q⟩
theorem lenT {a : Addr} {xs : List V} (h : SqT K H a xs) (q : Q (.int xs.length) H) : rLenN K [.ref a] H Q := ⟨a, xs, rfl, .inr h, q⟩
theorem listL {a : Addr} {xs : List V} (h : SqL K H a xs) (q : ∀ p H1, H p = none → Kp [] H H1 → H1 p = some (.lst xs) → Q (.ref p) H1) : rListN K [.ref a] H Q := ⟨a, xs, rfl, .inl h, mk q⟩
theorem isi {A B : String} {x : V} {b : Bool} (ht : TyX K H x (.type A)) (hk : kitB A B = some b) (q : Q (.bl b) H) : rIsi K [x, .ty B] H Q := ⟨x, _, _, _, b, rfl, .ty _, ht, kit_ty hk, q⟩
theorem isiI {B : String} {a : Int} {b : Bool} (hk : kitB "int" B = some b) (q : Q (.bl b) H) : rIsi K [.int a, .ty B] H Q := isi (.base (.int _)) hk q
theorem atM {ns : List Int} {j : Nat} {x : Int} (h : ns[j]? = some x) : atI (ns.map V.int) (j : Int) = some (.int x) := atI_nat (by rw [List.getElem?_map, h]; rfl)
theorem ixN_nat {n j : Nat} (hj : j < n) : ixN n (j : Int) = some j := by
  unfold ixN
  rw [if_pos (by omega), if_pos (by omega)]
  simp
/-- a comprehension, a loop over range(n), over a list -/
def ForK (g : TG) (tb : TS) (D : Ends) (σ : St) (J : It) (H1 : Hp) : Prop := ∃ W : Nat → Nat → St → Hp → Prop, (∃ m, W 0 m σ H1) ∧ ∀ i m σ H, W i m σ H →
  (J.stop i H ∧ D.nx σ H) ∨ (J.go i H ∧ ∃ N : St → Hp → Prop, (∀ σ' H', N σ' H' → ∃ m', m' < m ∧ W (i + 1) m' σ' H') ∧ ∀ x H', J.yld i H x H' → g x σ H' fun σ2 H2 => tb { D with nx := N, ct := N, bk := D.nx } σ2 H2)
def LcK (g : TG) (tt : TT) (te : TE) (vs : List Nat) (σ : St) (Q : VK) (J : It) (H1 : Hp) : Prop := ∀ D, H1 D = none → ∃ W : Nat → Nat → Hp → Prop, (∃ m, W 0 m (upd H1 D (.lst []))) ∧ ∀ i m H, W i m H →
      (J.stop i H ∧ Q (.ref D) H) ∨ (J.go i H ∧ ∃ Nx : Hp → Prop, (∀ H', Nx H' → ∃ m', m' < m ∧ W (i + 1) m' H') ∧ ∀ x H', J.yld i H x H' → g x (wipe σ vs) H' fun σ2 H2 => wipe σ2 vs = wipe σ vs ∧ tt σ2 H2 fun b H3 => if b = true then te σ2 H3 fun y H4 => ∃ acc, H4 D = some (.lst acc) ∧ acc.length < sizeLine ∧ Nx (upd H4 D (.lst (acc ++ [y]))) else Nx H3)
def Rng1K (R : It → Hp → Prop) (vs : List V) (H1 : Hp) : Prop := ∃ j : Int, vs = [.int j] ∧ -(2 ^ 62) ≤ j ∧ j < 2 ^ 62 ∧ R (Itr 0 j.toNat) H1
def ListK (K : PySem.W.Frag) (R : It → Hp → Prop) (x : V) (H1 : Hp) : Prop := ∃ a, x = .ref a ∧ (∃ xs, SqL K H1 a xs) ∧ R (Itl K a) H1
theorem lc {wi : TI} {g : TG} {tt : TT} {vs : List Nat} (h : wi σ H (LcK g tt te vs σ Q)) : tLc wi g tt te vs σ H Q := h
theorem rng1 {a : TA} {R : It → Hp → Prop} (h : a σ H (Rng1K R)) : iRng1 a σ H R := h
theorem ilist {R : It → Hp → Prop} (h : ta σ H (ListK K R)) : iList K ta σ H R := h
theorem for_ {wi : TI} {g : TG} {tb : TS} (h : wi σ H (ForK g tb D σ)) : tFor wi g tb D σ H := h
/-- what one turn of a comprehension asks -/
def LcT (g : TG) (tt : TT) (te : TE) (vs : List Nat) (σ : St) (D : Addr) (P : Hp → Prop) (x : V) (H1 : Hp) : Prop := g x (wipe σ vs) H1 fun σ2 H2 => wipe σ2 vs = wipe σ vs ∧ tt σ2 H2 fun b H3 => if b = true then te σ2 H3 fun y H4 => ∃ acc, H4 D = some (.lst acc) ∧ acc.length < sizeLine ∧ P (upd H4 D (.lst (acc ++ [y]))) else P H3
theorem lcr {g : TG} {tt : TT} {vs : List Nat} {e : Int} (n : Nat) (he : e = (n : Int)) (hb : n < 4611686018427387904) (Pv : Addr → Nat → Hp → Prop) (h0 : ∀ D H1, H D = none → Kp [] H H1 → H1 D = some (.lst []) → Pv D 0 H1)
    (hs : ∀ D i H1, H D = none → i < n → Pv D i H1 → g (.int (i : Int)) (wipe σ vs) H1 fun σ2 H2 => wipe σ2 vs = wipe σ vs ∧ tt σ2 H2 fun b H3 => if b = true then te σ2 H3 fun y H4 => ∃ acc, H4 D = some (.lst acc) ∧ acc.length < sizeLine ∧ Pv D (i + 1) (upd H4 D (.lst (acc ++ [y]))) else Pv D (i + 1) H3)
    (hd : ∀ D H1, H D = none → Pv D n H1 → Q (.ref D) H1) : Rng1K (LcK g tt te vs σ Q) [.int e] H := by
  subst he
  refine ⟨(n : Int), rfl, by omega, by omega, fun D hD => ?_⟩
  rw [show ((n : Int)).toNat = n by simp]
  refine lc_range (lo := 0) (n := n) (Pv D) (h0 D _ hD (Kp.new hD) upd_same) (fun i H1 hi p => ?_) fun H1 p => hd D H1 hD p
  rw [show (0 : Int) + (i : Int) = (i : Int) by omega]
  exact hs D i H1 hD hi p
theorem lcl {g : TG} {tt : TT} {vs : List Nat} {a : Addr} (xs : List V) (hS : SqL K H a xs) (Pv : Addr → Nat → Hp → Prop) (h0 : ∀ D H1, H D = none → Kp [] H H1 → H1 D = some (.lst []) → Pv D 0 H1)
    (hl : ∀ D i H1, H D = none → i ≤ xs.length → Pv D i H1 → SqL K H1 a xs)
    (hs : ∀ D i x H1, H D = none → xs[i]? = some x → Pv D i H1 → g x (wipe σ vs) H1 fun σ2 H2 => wipe σ2 vs = wipe σ vs ∧ tt σ2 H2 fun b H3 => if b = true then te σ2 H3 fun y H4 => ∃ acc, H4 D = some (.lst acc) ∧ acc.length < sizeLine ∧ Pv D (i + 1) (upd H4 D (.lst (acc ++ [y]))) else Pv D (i + 1) H3)
    (hd : ∀ D H1, H D = none → Pv D xs.length H1 → Q (.ref D) H1) : ListK K (LcK g tt te vs σ Q) (.ref a) H :=
  ⟨a, rfl, ⟨xs, hS⟩, fun D hD => lc_list (K := K) (a := a) (xs := xs) (Pv D) (h0 D _ hD (Kp.new hD) upd_same) (fun i H1 hi p => hl D i H1 hD hi p) (fun i x H1 hx p => hs D i x H1 hD hx p) fun H1 p => hd D H1 hD p⟩
/-- over a tuple -/
def TupK (K : PySem.W.Frag) (R : It → Hp → Prop) (x : V) (H1 : Hp) : Prop := ∃ a, x = .ref a ∧ (∃ xs, SqT K H1 a xs) ∧ R (Itt K a) H1
theorem itup {R : It → Hp → Prop} (h : ta σ H (TupK K R)) : iTup K ta σ H R := h
theorem lct {g : TG} {tt : TT} {vs : List Nat} {a : Addr} (xs : List V) (hS : SqT K H a xs) (Pv : Addr → Nat → Hp → Prop) (h0 : ∀ D H1, H D = none → Kp [] H H1 → H1 D = some (.lst []) → Pv D 0 H1)
    (hl : ∀ D i H1, H D = none → i ≤ xs.length → Pv D i H1 → SqT K H1 a xs)
    (hs : ∀ D i x H1, H D = none → xs[i]? = some x → Pv D i H1 → g x (wipe σ vs) H1 fun σ2 H2 => wipe σ2 vs = wipe σ vs ∧ tt σ2 H2 fun b H3 => if b = true then te σ2 H3 fun y H4 => ∃ acc, H4 D = some (.lst acc) ∧ acc.length < sizeLine ∧ Pv D (i + 1) (upd H4 D (.lst (acc ++ [y]))) else Pv D (i + 1) H3)
    (hd : ∀ D H1, H D = none → Pv D xs.length H1 → Q (.ref D) H1) : TupK K (LcK g tt te vs σ Q) (.ref a) H :=
  ⟨a, rfl, ⟨xs, hS⟩, fun D hD => lc_tup (K := K) (a := a) (xs := xs) (Pv D) (h0 D _ hD (Kp.new hD) upd_same) (fun i H1 hi p => hl D i H1 hD hi p) (fun i x H1 hx p => hs D i x H1 hD hx p) fun H1 p => hd D H1 hD p⟩
theorem allL {a : Addr} {bs : List Bool} (h : SqL K H a (bs.map V.bl)) (q : Q (.bl (bs.all id)) H) : rAll K [.ref a] H Q := ⟨a, bs, rfl, h, q⟩
theorem anyL {a : Addr} {bs : List Bool} (h : SqL K H a (bs.map V.bl)) (q : Q (.bl (bs.any id)) H) : rAny K [.ref a] H Q := ⟨a, bs, rfl, h, q⟩
theorem forr {g : TG} {tb : TS} {e : Int} (n : Nat) (he : e = (n : Int)) (hb : n < 4611686018427387904) (Pv : Nat → St → Hp → Prop) (h0 : Pv 0 σ H)
    (hs : ∀ i σ H, i < n → Pv i σ H → g (.int (i : Int)) σ H fun σ2 H2 => tb { D with nx := Pv (i + 1), ct := Pv (i + 1), bk := D.nx } σ2 H2) (hd : ∀ σ H, Pv n σ H → D.nx σ H) : Rng1K (ForK g tb D σ) [.int e] H := by
  subst he
  refine ⟨(n : Int), rfl, by omega, by omega, ?_⟩
  rw [show ((n : Int)).toNat = n by simp]
  refine for_range (lo := 0) (n := n) Pv h0 (fun i σ H1 hi p => ?_) hd
  rw [show (0 : Int) + (i : Int) = (i : Int) by omega]
  exact hs i σ H1 hi p
theorem forl {g : TG} {tb : TS} {a : Addr} (xs : List V) (hS : SqL K H a xs) (Pv : Nat → St → Hp → Prop) (h0 : Pv 0 σ H) (hl : ∀ i σ H, i ≤ xs.length → Pv i σ H → SqL K H a xs)
    (hs : ∀ i x σ H, xs[i]? = some x → Pv i σ H → g x σ H fun σ2 H2 => tb { D with nx := Pv (i + 1), ct := Pv (i + 1), bk := D.nx } σ2 H2) (hd : ∀ σ H, Pv xs.length σ H → D.nx σ H) : ListK K (ForK g tb D σ) (.ref a) H :=
  ⟨a, rfl, ⟨xs, hS⟩, for_list (K := K) (a := a) (xs := xs) Pv h0 hl hs hd⟩
/-! texts -/
def StrK (R : It → Hp → Prop) (v : V) (H1 : Hp) : Prop := ∃ x, v = .str x ∧ R (Its x) H1
theorem istr {R : It → Hp → Prop} (h : ta σ H (StrK R)) : iStr ta σ H R := h
theorem fors {g : TG} {tb : TS} {x : Str} (Pv : Nat → St → Hp → Prop) (h0 : Pv 0 σ H)
    (hs : ∀ i c σ H, x.cps[i]? = some c → Pv i σ H → g (.str ⟨#[c]⟩) σ H fun σ2 H2 => tb { D with nx := Pv (i + 1), ct := Pv (i + 1), bk := D.nx } σ2 H2) (hd : ∀ σ H, Pv x.cps.size σ H → D.nx σ H) : StrK (ForK g tb D σ) (.str x) H :=
  ⟨x, rfl, for_it walk_str Pv h0 (fun _ _ _ _ _ => trivial) (fun i v σ H H' hi p y => by obtain ⟨rfl, c, hc, rfl⟩ := y; exact hs i c σ _ hc p) hd⟩
theorem lcs {g : TG} {tt : TT} {vs : List Nat} {x : Str} (Pv : Addr → Nat → Hp → Prop) (h0 : ∀ D H1, H D = none → Kp [] H H1 → H1 D = some (.lst []) → Pv D 0 H1)
    (hs : ∀ D i c H1, H D = none → x.cps[i]? = some c → Pv D i H1 → g (.str ⟨#[c]⟩) (wipe σ vs) H1 fun σ2 H2 => wipe σ2 vs = wipe σ vs ∧ tt σ2 H2 fun b H3 => if b = true then te σ2 H3 fun y H4 => ∃ acc, H4 D = some (.lst acc) ∧ acc.length < sizeLine ∧ Pv D (i + 1) (upd H4 D (.lst (acc ++ [y]))) else Pv D (i + 1) H3)
    (hd : ∀ D H1, H D = none → Pv D x.cps.size H1 → Q (.ref D) H1) : StrK (LcK g tt te vs σ Q) (.str x) H :=
  ⟨x, rfl, fun D hD => lc_it walk_str (Pv D) (h0 D _ hD (Kp.new hD) upd_same) (fun _ _ _ _ => trivial) (fun i v H H' hi p y => by obtain ⟨rfl, c, hc, rfl⟩ := y; exact hs D i c _ hD hc p) fun H1 p => hd D H1 hD p⟩
theorem lenS {x : Str} (hz : x.cps.size ≤ 10000000) (q : Q (.int (x.cps.size : Nat)) H) : rLenS [.str x] H Q := ⟨x, rfl, hz, q⟩
/-! enumerate -/
def EnumK (K : PySem.W.Frag) (R : It → Hp → Prop) (vs : List V) (H1 : Hp) : Prop := ∃ a xs, vs = [.ref a] ∧ SqL K H1 a xs ∧ R (Ite K a) H1
theorem ienum {a : TA} {R : It → Hp → Prop} (h : a σ H (EnumK K R)) : iEnum K a σ H R := h
theorem fore {g : TG} {tb : TS} {a : Addr} (xs : List V) (hS : SqL K H a xs) (Pv : Nat → St → Hp → Prop) (h0 : Pv 0 σ H) (hl : ∀ i σ H, i ≤ xs.length → Pv i σ H → SqL K H a xs)
    (hs : ∀ i x σ H H' T, xs[i]? = some x → Pv i σ H → H T = none → Kp [] H H' → H' T = some (.tup [.int (i : Nat), x]) → g (.ref T) σ H' fun σ2 H2 => tb { D with nx := Pv (i + 1), ct := Pv (i + 1), bk := D.nx } σ2 H2) (hd : ∀ σ H, Pv xs.length σ H → D.nx σ H) : EnumK K (ForK g tb D σ) [.ref a] H :=
  ⟨a, xs, rfl, hS, for_it (walk_enum (K := K) (a := a) (xs := xs)) Pv h0 hl (fun i v σ H H' hi p y => by
    obtain ⟨T, x, z, rfl, h1, rfl, h2, h3⟩ := y
    cases h2
    exact hs i z σ H _ T h3 p h1 (Kp.new h1) upd_same) hd⟩
/-! dicts -/
theorem dnew (h : ∀ p H1, H p = none → Kp [] H H1 → H1 p = some (.dK []) → Q (.ref p) H1) : tDNewK σ H Q := mk h
theorem din {ty td : TE} (h : ty σ H fun y H1 => td σ H1 fun x H2 => ∃ a o, x = .ref a ∧ DGet H2 a y o ∧ Q (.bl o.isSome) H2) : tDIn ty td σ H Q := h
theorem dput {td ty tv : TE} (h : tv σ H fun v H1 => td σ H1 fun x H2 => ty σ H2 fun y H3 => ∃ a H4, x = .ref a ∧ DPut H3 a y v H4 ∧ D.nx σ H4) : sDPut td ty tv D σ H := h
theorem dget2 {td ty tx : TE} (h : td σ H fun x H1 => ∃ a, x = .ref a ∧ IsD H1 a ∧ ty σ H1 fun y H2 => tx σ H2 fun z H3 => ∃ o, DGet H3 a y o ∧ Q (o.getD z) H3) : tDGet2 td ty tx σ H Q := h
theorem dget {td ty : TE} (h : td σ H fun x H1 => ty σ H1 fun y H2 => ∃ a v, x = .ref a ∧ DGet H2 a y (some v) ∧ Q v H2) : tDGet td ty σ H Q := h
/-! lists and tuples -/
theorem ixA {p : Addr} {xs : List V} {j : Int} (h : SqL K H p xs ∨ SqT K H p xs) (e : atI xs j = some v) (q : Q v H) : rIx K (.ref p) (.int j) H Q := h.elim (fun h => .inl (ixL h e q)) (fun h => .inr (.inl (ixT h e q)))
theorem lenA {a : Addr} {xs : List V} (h : SqL K H a xs ∨ SqT K H a xs) (q : Q (.int xs.length) H) : rLenN K [.ref a] H Q := ⟨a, xs, rfl, h, q⟩
theorem sl {r : V → Option Int → Option Int → Hp → VK → Prop} {tl th : TO} (h : ta σ H fun x H1 => tl σ H1 fun l H2 => th σ H2 fun u H3 => r x l u H3 Q) : tSl r ta tl th σ H Q := h
theorem slno {Q : Option Int → Hp → Prop} (h : Q none H) : tNoPart σ H Q := h
theorem slpart {Q : Option Int → Hp → Prop} (h : ta σ H fun x H1 => ∃ i, x = .int i ∧ Q (some i) H1) : tPart ta σ H Q := h
theorem bint {i : Int} {q : Int → Prop} (h : q i) : ∃ k, V.int i = .int k ∧ q k := ⟨i, rfl, h⟩
theorem slL {p : Addr} {xs : List V} {lo hi : Option Int} (h : SqL K H p xs) (q : ∀ d H1, H d = none → Kp [] H H1 → H1 d = some (.lst (cutV xs lo hi)) → Q (.ref d) H1) : rSlL K (.ref p) lo hi H Q := ⟨p, xs, rfl, h, mk q⟩
theorem cut_take {xs : List V} {k : Nat} (h : k ≤ xs.length) : cutV xs none (some (k : Int)) = xs.take k := by
  unfold cutV
  rw [HT.sIx_none, HT.sIx_nat, List.drop_zero, Nat.sub_zero, Nat.min_eq_left h]
theorem cut_drop {xs : List V} {k : Nat} (h : k ≤ xs.length) : cutV xs (some (k : Int)) none = xs.drop k := by
  unfold cutV
  rw [HT.sIx_none, HT.sIx_nat, Nat.min_eq_left h]
  exact List.take_of_length_le (by rw [List.length_drop] <;> omega)
theorem inq {neg : Bool} {p : Addr} {xs : List V} (h : SqL K H p xs ∨ SqT K H p xs) (fx : flatV x = true) (fs : xs.all flatV = true) (q : Q (.bl (if neg then !inV x xs else inV x xs)) H) : rIn K neg x (.ref p) H Q := ⟨p, xs, rfl, h, fx, fs, q⟩
theorem inV_strs {a : Str} {l : List Str} : inV (.str a) (l.map V.str) = decide (a ∈ l) := by
  unfold inV
  induction l with
  | nil => simp
  | cons b r ih =>
    rw [List.map_cons, List.any_cons, ih]
    show ((b == a) || _) = _
    by_cases e : b = a
    · subst e; simp
    · have e' : ¬ a = b := fun z => e z.symm
      simp [e, e']
theorem strs_flat {l : List Str} : (l.map V.str).all flatV = true := by simp [flatV]
theorem pop {l : Addr} {xs : List V} {y : V} (h : H l = some (.lst xs)) (e : xs[xs.length - 1]? = some y) (q : Q y (upd H l (.lst xs.dropLast))) : rPop (.ref l) [] H Q := ⟨l, xs, y, rfl, rfl, h, e, q⟩
def LRK (K : PySem.W.Frag) (Q : VK) (x : V) (H1 : Hp) : Prop := ∃ a xs, x = .ref a ∧ SqL K H1 a xs ∧ ∀ p, H1 p = none → Q (.ref p) (upd H1 p (.lst xs.reverse))
theorem listrev (h : ta σ H (LRK K Q)) : RL.tListRev K ta σ H Q := h
theorem lrk {a : Addr} {xs : List V} (hS : SqL K H a xs) (q : ∀ p H1, H p = none → Kp [] H H1 → H1 p = some (.lst xs.reverse) → Q (.ref p) H1) : LRK K Q (.ref a) H := ⟨a, xs, rfl, hS, mk q⟩
theorem popS {l : Addr} {xs : List V} {y : V} (h : H l = some (.lst (xs ++ [y]))) (q : Q y (upd H l (.lst xs))) : rPop (.ref l) [] H Q := ⟨l, _, y, rfl, rfl, h, by simp, by rw [List.dropLast_concat]; exact q⟩
theorem extT {l b : Addr} {xs zs : List V} (h : H l = some (.lst xs)) (h2 : H b = some (.tup zs)) (hz : xs.length + zs.length ≤ 10000000) (q : Q .non (upd H l (.lst (xs ++ zs)))) : RL.rExtT (.ref l) [.ref b] H Q := ⟨l, b, xs, zs, rfl, rfl, h, h2, Nat.le_trans hz (by decide), q⟩
theorem slT {p : Addr} {xs : List V} {k : Nat} (h : SqT K H p xs) (h0 : 0 < k) (h1 : k ≤ xs.length) (q : ∀ d H1, H d = none → Kp [] H H1 → H1 d = some (.tup (xs.drop k)) → Q (.ref d) H1) : rSlT K (.ref p) (some (k : Int)) none H Q := ⟨p, xs, rfl, h, fun z => by
  rw [HT.sIx_nat, Nat.min_eq_left h1] at z
  omega, mk (by rw [cut_drop h1]; exact q)⟩
theorem revl (h : ta σ H (LRK K Q)) : tRevL K ta σ H Q := h
theorem idx {a : Addr} {ys : List V} {y : V} (j : Nat) {z : V} (hS : SqL K H a ys) (fy : flatV y = true) (fs : ys.all flatV = true) (hz : ys[j]? = some z) (hy : eqV z y = true) (hn : ∀ (m : Nat) (z' : V), m < j → ys[m]? = some z' → eqV z' y = false) (q : Q (.int (j : Nat)) H) : rIndex K (.ref a) [y] H Q := ⟨a, ys, y, j, z, rfl, rfl, hS, fy, fs, hz, hy, hn, q⟩
theorem truL {p : Addr} {xs : List V} {q : Bool → Prop} (h : H p = some (.lst xs)) (hq : q (!xs.isEmpty)) : ∃ k, TruV K (.ref p) H k ∧ q k := ⟨_, .inl ⟨xs, lstL h, rfl⟩, hq⟩
theorem glst {n : Nat} {t : TGs} {a : Addr} {xs : List V} {Q : St → Hp → Prop} (h : SqL K H a xs) (e : xs.length = n) (q : t xs σ H Q) : gLst K n t (.ref a) σ H Q := ⟨a, xs, rfl, h, e, q⟩
def rSplitQ : V → List V → Hp → VK → Prop := fun x xs H Q => ∃ a b, x = .str a ∧ xs = [.str b] ∧ (b.length == 0) = false ∧ a.length + 2 ≤ sizeLine ∧ rNewStrs (Txt.split a b) H Q
theorem m_split {X : Cx} : MtR X "str.split" rSplitQ := mt_split
theorem split {a b : Str} (hb : (b.length == 0) = false) (hz : a.length ≤ 10000000) (q : ∀ p H1, H p = none → Kp [] H H1 → H1 p = some (.lst ((Txt.split a b).map V.str)) → Q (.ref p) H1) : rSplitQ (.str a) [.str b] H Q := ⟨a, b, rfl, rfl, hb, Nat.le_trans (Nat.add_le_add_right hz 2) (by decide), mk q⟩
def EnSK (K : PySem.W.Frag) (R : It → Hp → Prop) (vs zs : List V) (H2 : Hp) : Prop := ∃ a xs k, vs = [.ref a] ∧ zs = [.int k] ∧ -(2 ^ 63) ≤ k ∧ k < 2 ^ 63 ∧ SqL K H2 a xs ∧ R (RL.IteS K a k) H2
theorem ienumS {a b : TA} {R : It → Hp → Prop} (h : a σ H fun vs H1 => b σ H1 fun zs H2 => EnSK K R vs zs H2) : RL.iEnumS K a b σ H R := h
theorem walk_enumS {a : Addr} {xs : List V} {k : Int} : Walk (RL.IteS K a k) xs.length (fun H => SqL K H a xs) (YPair (fun i => some (.int (k + (i : Nat)))) (fun i => xs[i]?)) := by
  refine ⟨fun i _ hi q => ⟨xs, xs[i], q, by simp [hi]⟩, fun _ q => ⟨xs, q, rfl⟩, fun i H v H' _ q y => ?_⟩
  obtain ⟨T, x, h1, h2, h3, h4⟩ := y
  exact ⟨T, .int (k + (i : Nat)), x, h1, h2, h3, rfl, h4 xs q⟩
theorem fores {g : TG} {tb : TS} {a : Addr} {k : Int} (xs : List V) (hk0 : -(2 ^ 63) ≤ k) (hk1 : k < 2 ^ 63) (hS : SqL K H a xs) (Pv : Nat → St → Hp → Prop) (h0 : Pv 0 σ H) (hl : ∀ i σ H, i ≤ xs.length → Pv i σ H → SqL K H a xs)
    (hs : ∀ i x σ H H' T, xs[i]? = some x → Pv i σ H → H T = none → Kp [] H H' → H' T = some (.tup [.int (k + (i : Nat)), x]) → g (.ref T) σ H' fun σ2 H2 => tb { D with nx := Pv (i + 1), ct := Pv (i + 1), bk := D.nx } σ2 H2) (hd : ∀ σ H, Pv xs.length σ H → D.nx σ H) : EnSK K (ForK g tb D σ) [.ref a] [.int k] H :=
  ⟨a, xs, k, rfl, rfl, hk0, hk1, hS, for_it (walk_enumS (K := K) (a := a) (xs := xs) (k := k)) Pv h0 hl (fun i v σ H H' hi p y => by
    obtain ⟨T, x, z, rfl, h1, rfl, h2, h3⟩ := y
    cases h2
    exact hs i z σ H _ T h3 p h1 (Kp.new h1) upd_same) hd⟩
/-- an f-string of two parts or more -/
def tJoin (ts : List TE) : TE := fun σ H Q => tJs ts Str.empty σ H fun out H1 => Q (.str out) H1
theorem pe_joinedN {X : Cx} {v1 v2 : Expr} {rest : List Expr} {ts : List TE} {pos : Pos} (h : PJ X (v1 :: v2 :: rest) ts) : PE X (.JoinedStr (v1 :: v2 :: rest) pos) (tJoin ts) := pe_joined h
def rJoinQ (K : PySem.W.Frag) : V → List V → Hp → VK → Prop := fun x xs H Q => ∃ a p, ∃ ys : List Str, x = .str a ∧ xs = [.ref p] ∧ (SqL K H p (ys.map V.str) ∨ SqT K H p (ys.map V.str)) ∧ (ys.map (·.length)).sum + ys.length * a.length ≤ 16777216 ∧ Q (.str (Txt.join a ys)) H
theorem m_join {X : Cx} : MtR X "str.join" (rJoinQ X.K) := mt_join
theorem join {a : Str} {p : Addr} {ys : List Str} (h : SqL K H p (ys.map V.str)) (hz : (ys.map (·.length)).sum + ys.length * a.length ≤ 16777216) (q : Q (.str (Txt.join a ys)) H) : rJoinQ K (.str a) [.ref p] H Q := ⟨a, p, ys, rfl, rfl, .inl h, hz, q⟩
theorem lens_le {n : Nat} : ∀ {ys : List Str}, (∀ y ∈ ys, y.length ≤ n) → (ys.map (·.length)).sum ≤ n * ys.length
  | [], _ => by simp
  | y :: r, h => by
    have h1 := h y (by simp)
    have h2 := lens_le (n := n) (ys := r) fun z hz => h z (by simp [hz])
    rw [List.map_cons, List.sum_cons, List.length_cons, Nat.mul_add]
    omega
theorem mulS {x : Str} {k : Nat} (h1 : 2 ≤ k) (h2 : k ≤ 100000) (h3 : 1 ≤ x.length) (h4 : x.length ≤ 100) (q : Q (.str (RL.repS x k)) H) : RL.rMulS (.str x) (.int (k : Int)) H Q := ⟨x, k, rfl, rfl, h1, h2, h3, h4, q⟩
theorem cat {l b : Addr} {xs zs : List V} (h : H l = some (.lst xs)) (h2 : H b = some (.lst zs)) (hz : xs.length + zs.length ≤ 100000) (q : ∀ p H1, H p = none → Kp [] H H1 → H1 p = some (.lst (xs ++ zs)) → Q (.ref p) H1) : rCat (.ref l) (.ref b) H Q := ⟨l, b, xs, zs, rfl, rfl, h, h2, Nat.le_trans hz (by decide), mk q⟩
end
end Z

/-! ### ClsM: classmethods and methods within a try, a class in a local name -/
namespace ClsM
open PySem PySem.Spec PyProof.Rows L2
/-- how the text of o.m(..) is run -/
abbrev MForm (X : Cx) (o : Expr) (m : Str) (es : List Expr) (apos pos : Pos) (pl : Sem Bool) : Prop := eval (.Call (.Attribute o m apos) es [] pos) X.env = (do let ov ← eval o X.env; standAt apos.atName; let (f, first) ← holding [ov] (getMethod ov m pl); callWith pos f first (backTo pos (starEach es X.env)) (backToKw pos (keywordEach [] X.env)))
section
variable {X : Cx} {CX : CXT} {k i : Nat} {f C p g : Addr} {fd : FuncData} {ps : List Str} {sp : Sp} {E : L2.St → XK} {E1 : XK} {m x : Str} {pos apos : Pos} {o e : Expr} {es : List Expr} {ta : TE} {t : TA} {pl : Sem Bool} {mc : Value}
/-- o.m(e, ..) within a try -/
def tMethA (C : Addr) (m : Str) (sp : Sp) (E : L2.St → XK) (ta : TE) (t : TA) : TE := fun σ H Q => ta σ H fun x H1 => ∃ a dx fs, x = .ref a ∧ H1 a = some (.ins C dx fs) ∧ fs.lookup m = none ∧ t σ H1 fun vs H2 => sp (x :: vs) H2 Q (E σ)
theorem pe_methA (he : PE X o ta) (c : Cls X.K C) (hm : Meth X.K C m f) (F : FnOk X.prog X.w X.K X.mg X.base CX k f fd ps sp) (hr : Room k X.A) (hb : Binds X.K fd ps []) (hx : ∀ σ, PassesAt CX X σ (E σ)) (ha : PA X (e :: es) t) (hst : starEach (e :: es) X.env = (false, eval e X.env) :: starEach es X.env := by rfl) (hpl : (backTo pos (starEach es X.env)).any (·.1) = false := by rfl) (ht : MForm X o m (e :: es) apos pos pl := by rfl) :
    PE X (.Call (.Attribute o m apos) (e :: es) [] pos) (tMethA C m sp E ta t) := by
  refine ⟨fun pins s σ H Q I h => PySem.W.methodCall_KW (pl := pl) (thn (he.run pins s σ H _ I h) fun u s1 ⟨x, H1, I1, rx, a, dx, fs, ex, ea, l, q⟩ => ?_) ht⟩
  subst ex
  obtain rfl : u = Value.ref a := rx
  exact getmeth_ok I1 ea c hm l (PySem.W.callWith_K (first := [.ref a]) (h₀ := X.base) I.ok.mod.kin hm.kp (thn (ha.run pos pins s1 σ H1 _ I1 q) fun us s2 ⟨vs, H2, I2, r, q2⟩ => ⟨I2.kIn, run_fnS (us := .ref a :: us) (vs := .ref a :: vs) F hr hb (hx σ) I2 (.cons rfl r) q2⟩) hst hpl)
theorem methA {σ : L2.St} {H : Hp} {Q : VK} (h : ta σ H fun x H1 => ∃ a dx fs, x = .ref a ∧ H1 a = some (.ins C dx fs) ∧ fs.lookup m = none ∧ t σ H1 fun vs H2 => sp (x :: vs) H2 Q (E σ)) : tMethA C m sp E ta t σ H Q := h
/-- the call of a bound classmethod, at the slots σ -/
theorem run_cmS {q : Addr} {pins : List (Addr × Obj)} {σ : L2.St} {H : Hp} {s : Shared} {Q : VK} {us : List Value} {vs : List V} (F : FnOk X.prog X.w X.K X.mg X.base CX k g fd ps sp) (hb : Binds X.K fd ps []) (hr : Room k X.A) (hx : PassesAt CX X σ (E σ)) (I : Inv X ((q, PySem.W.methodObj (.ref g) (.ref C)) :: pins) σ H s) (r : Vals vs us) (h : sp (.ref C :: vs) H Q (E σ)) : wpAny (model X.prog X.w) X.A (call (.ref q) us) (EP X pins σ Q) X.xe s := by
  have hl : (Value.ref C :: us).length = ps.length := by rw [← F.len _ _ _ _ h]; exact congrArg Nat.succ r.length.symm
  have b := hb s (.ref C :: us) I.kIn (by rw [List.append_nil]; exact hl)
  rw [List.append_nil] at b
  have z : wpAny (model X.prog X.w) X.A (call (.ref q) us) (EP X ((q, PySem.W.methodObj (.ref g) (.ref C)) :: pins) σ Q) X.xe s := by
    refine wpAny_call (PySem.W.method_call (ClX.pin_at I) (codeAny_mono (F.run X.A X.stack s H ⟨.ref C :: us, []⟩ (.ref C :: us) (.ref C :: vs) Q (E σ) hr I.env0 b (.cons rfl r) h) fun y s' hq => ?_))
    match y, hq with
    | .error e, hq => exact hx _ H s e s' I hq
    | .ok (.ret u), hq => exact I.after hq
    | .ok .next, hq => exact False.elim hq
    | .ok .brk, hq => exact False.elim hq
    | .ok .cont, hq => exact False.elim hq
  exact thn z fun _ _ y => ClX.unpinE y
/-- C.m(e, ..), m a classmethod of the class C, within a try -/
def tCMeth (C : Addr) (sp : Sp) (E : L2.St → XK) (ta : TE) (t : TA) : TE := fun σ H Q => ta σ H fun x H1 => x = .ref C ∧ t σ H1 fun vs H2 => sp (.ref C :: vs) H2 Q (E σ)
theorem pe_cm (he : PE X o ta) (r : ClX.CRead X.K C mc) (c : ClX.CMet X.K C mc m p g) (F : FnOk X.prog X.w X.K X.mg X.base CX k g fd ps sp) (hb : Binds X.K fd ps []) (hr : Room k X.A) (hx : ∀ σ, PassesAt CX X σ (E σ)) (ha : PA X (e :: es) t) (hst : starEach (e :: es) X.env = (false, eval e X.env) :: starEach es X.env := by rfl) (hpl : (backTo pos (starEach es X.env)).any (·.1) = false := by rfl) (ht : MForm X o m (e :: es) apos pos pl := by rfl) :
    PE X (.Call (.Attribute o m apos) (e :: es) [] pos) (tCMeth C sp E ta t) := by
  refine ⟨fun pins s σ H Q I h => PySem.W.methodCall_KW (pl := pl) (thn (he.run pins s σ H _ I h) fun u s1 ⟨x, H1, I1, rx, ex, q⟩ => ?_) ht⟩
  subst ex
  obtain rfl : u = Value.ref C := rx
  refine ClX.getmethcm_ok I1 r c fun s2 I2 => ClX.callwith_cm I2 (ClX.base_none I1 (Nat.le_refl _)) c.fi (thn (ha.run pos _ s2 σ H1 _ I2 q) fun us s3 ⟨vs, H2, I3, rv, q2⟩ => ⟨⟨ClX.pin_at I3, I3.kIn⟩, ?_⟩) hst hpl
  exact run_cmS F hb hr (hx σ) I3 rv q2
theorem cm {σ : L2.St} {H : Hp} {Q : VK} (h : ta σ H fun x H1 => x = .ref C ∧ t σ H1 fun vs H2 => sp (.ref C :: vs) H2 Q (E σ)) : tCMeth C sp E ta t σ H Q := h
theorem passC {E0 : XK} (hx : Passes CX X E0) (σ : L2.St) : PassesAt CX X σ ((fun _ => E0) σ) := fun pins H s e s' I c => hx pins σ H s e s' I c
/-- n(e, ..), the local n the class C -/
def tMakeL (i : Nat) (C : Addr) (sp : Sp) (t : TA) : TE := fun σ H Q => σ[i]? = some (some (.ref C)) ∧ t σ H fun vs H1 => ∀ x dx, H1 x = none → H1 dx = none → dx ≠ x → sp (.ref x :: (vs ++ [])) (upd (upd H1 dx (.own x)) x (.ins C dx [])) (fun v H2 => v = .non ∧ Q (.ref x) H2) E0
theorem pe_makeL {pp : Pos} (M : Mk X.K C f) (F : FnOk X.prog X.w X.K X.mg X.base CX k f fd ps sp) (hr : Room (k + 1) X.A) (hN : X.N[i]? = some x) (hv : Vis X.env.scope x) (hb : Binds X.K fd ps []) (hx : Passes CX X E0) (ha : PA X (e :: es) t) (hdb : (x == ("__debug__" : Str)) = false := by decide) (hcd : (x == ("__classdict__" : Str)) = false := by decide)
    (he : starEach (e :: es) X.env = (false, eval e X.env) :: starEach es X.env := by rfl) (hpl : (backTo pos (starEach es X.env)).any (·.1) = false := by rfl) : PE X (.Call (.Name x pp) (e :: es) [] pos) (tMakeL i C sp t) := by
  refine ⟨fun pins s σ H Q I ⟨hs, ht⟩ => wpAny_Call_Name_kw (thn ((pe_var (pos := pp) hN hv hdb hcd).run pins s σ H (fun v H1 => v = .ref C ∧ H1 = H) I ⟨.ref C, hs, rfl, rfl⟩) fun u s1 ⟨v, H1, I1, r1, q1⟩ => ?_)⟩
  obtain ⟨rfl, rfl⟩ := q1
  cases r1
  exact PySem.W.callWith_K (h₀ := X.base) I.ok.mod.kin M.kp (thn (ha.run pos pins s1 σ _ _ I1 ht) fun us s2 ⟨vs, H2, I2, r, q⟩ => ⟨I2.kIn, run_make M F hr hb .nil hx I2 r q⟩) he hpl
theorem makeL {σ : L2.St} {H : Hp} {Q : VK} (hs : σ[i]? = some (some (.ref C))) (h : t σ H fun vs H1 => ∀ x dx, H1 x = none → H1 dx = none → dx ≠ x → sp (.ref x :: (vs ++ [])) (upd (upd H1 dx (.own x)) x (.ins C dx [])) (fun v H2 => v = .non ∧ Q (.ref x) H2) E0) : tMakeL i C sp t σ H Q := ⟨hs, h⟩
theorem fldK {f : Str} (K : PySem.W.Frag) (hK : X.K = K) (h : PE X e (tFld X.K ta f)) : PE X e (tFld K ta f) := hK ▸ h
theorem bmK {T : String} {r : V → List V → Hp → VK → Prop} (K : PySem.W.Frag) (hK : X.K = K) (h : PE X e (tBM X.K T r ta t)) : PE X e (tBM K T r ta t) := hK ▸ h
end
end ClsM

/-! ### Many: a try with several clauses, with or without names -/
namespace Many
open PySem PySem.Spec PyProof.Rows L2
/-- a clause: its class, the slot of its name, what its suite does -/
structure Cl where
  c : Value
  at_ : Option Nat
  ts : Addr → Value → Option Addr → TS
def gone : Option Nat → L2.St → L2.St
  | none, σ => σ
  | some i, σ => σ.set i none
def bound : Option Nat → Addr → L2.St → L2.St
  | none, _, σ => σ
  | some i, a, σ => σ.set i (some (.ref a))
def ends : Option Nat → Ends → Ends
  | none, D => D
  | some i, D => { nx := fun σ H => D.nx (σ.set i none) H, rt := D.rt, bk := fun σ H => D.bk (σ.set i none) H, ct := fun σ H => D.ct (σ.set i none) H }
/-- what the clauses wish, the first that fits -/
def wish (K : PySem.W.Frag) (out : WX) (D : Ends) : List Cl → WX
  | [] => out
  | k :: r => fun cls d σ H => ∃ b, PySem.W.exmOne K cls k.c = some b ∧ (b = true → ∀ a, H a = none → k.ts a cls d (ends k.at_ D) (bound k.at_ a σ) H) ∧ (b = false → wish K out D r cls d σ H)
theorem wish_yes {K : PySem.W.Frag} {out : WX} {D : Ends} {k : Cl} {r : List Cl} {cls : Value} {d : Option Addr} {σ : L2.St} {H : Hp} (e : PySem.W.exmOne K cls k.c = some true) (h : ∀ a, H a = none → k.ts a cls d (ends k.at_ D) (bound k.at_ a σ) H) : wish K out D (k :: r) cls d σ H := ⟨true, e, fun _ => h, fun z => by cases z⟩
theorem wish_no {K : PySem.W.Frag} {out : WX} {D : Ends} {k : Cl} {r : List Cl} {cls : Value} {d : Option Addr} {σ : L2.St} {H : Hp} (e : PySem.W.exmOne K cls k.c = some false) (h : wish K out D r cls d σ H) : wish K out D (k :: r) cls d σ H := ⟨false, e, (fun z => by cases z), fun _ => h⟩
inductive Ok (X : Cx) : List ExceptHandler → List Cl → Prop
  | nil : Ok X [] []
  | bare {x : Str} {c : Value} {ts : Addr → Value → Option Addr → TS} {b₀ : Stmt} {su : List Stmt} {p q : Pos} {hs : List ExceptHandler} {l : List Cl} (hc : Names X x c) (hb : ∀ (a : Addr) (oe : Obj) (cls : Value) (d : Option Addr) (pn : List (Addr × Obj)), Zc cls d oe → (∃ vs, oe.data = .fields vs) → PSs (X.suite a ((a, oe) :: pn)) (b₀ :: su) (ts a cls d)) (r : Ok X hs l) : Ok X (.ExceptHandler (some (.Name x p)) none (b₀ :: su) q :: hs) (⟨c, none, ts⟩ :: l)
  | named {x n : Str} {c : Value} {ts : Addr → Value → Option Addr → TS} {i : Nat} {b₀ : Stmt} {su : List Stmt} {p q : Pos} {hs : List ExceptHandler} {l : List Cl} (hN : X.N.Nodup) (hi : X.N[i]? = some n) (hl : X.env.kindOf n = some .local) (hc : Names X x c) (hb : ∀ (a : Addr) (oe : Obj) (cls : Value) (d : Option Addr) (pn : List (Addr × Obj)), Zc cls d oe → (∃ vs, oe.data = .fields vs) → PSs (X.suite a ((a, oe) :: pn)) (b₀ :: su) (ts a cls d)) (r : Ok X hs l) : Ok X (.ExceptHandler (some (.Name x p)) (some n) (b₀ :: su) q :: hs) (⟨c, some i, ts⟩ :: l)
section
variable {X : Cx} {body : List Stmt} {h₀ : ExceptHandler} {hds : List ExceptHandler} {l : List Cl} {pos : Pos} {tb : WX → TS} {out : WX}
theorem ps_try_named (hs : X.stack = X.env :: X.outer) (hf : X.env.frame = some X.env.locals) (tk : Takes X out)
    (hb : ∀ (W : WX) (pn : List (Addr × Obj)) (xe : Value → Shared → Prop), Takes (X.tr pn xe) W → PassesOwn (model X.prog X.w) X.A X.env xe → PSs (X.tr pn xe) body (tb W)) (hh : Ok X (h₀ :: hds) l) :
    PS X (.Try body (h₀ :: hds) [] [] pos) (fun D σ H => tb (wish X.K out D l) D σ H) := by
  refine ⟨fun pins s σ H D I h => ?_⟩
  have ok := I.ok; have hfr : X.A.frames = some (X.env :: X.outer) := by rw [ok.frames, hs]
  refine wpAny_Try_except ?_
  refine wpAny_mono ((hb (wish X.K out D l) (X.pn ++ pins) (fun e s₁ => wpAny (model X.prog X.w) X.A (noteFrame e X.env) (fun _ s₂ => wpAny (model X.prog X.w) X.A (setFlight e none) (fun _ s₃ => wpAny (model X.prog X.w) X.A (handleBy e X.env (h₀ :: hds)) (SP X pins D) X.xe s₃) X.xe s₂) X.xe s₁) (fun u s' xx => ?_) PassesOwn.looking).run [] s σ H D (I.toTry _) h) (fun f s1 hsp => ?_) (fun e s1 he => he)
  · obtain ⟨a, B, sI, pins', σ', H', cls, d, rfl, J', nb, up, sky, na, os, ag, w⟩ := xx
    have J : Inv X pins σ' H' sI := J'.ofTry ok; have sky' : Sky B (X.env :: X.outer) a (Zc cls d) X.env.locals s'.heap := by rw [← hs]; exact sky
    show wpAny (model X.prog X.w) X.A (noteFrame (.ref a) X.env) _ _ _
    refine Sky.land Zc.steady hfr hf sky' fun h3 fl3 up3 => ?_
    have J3 : Inv X pins σ' H' { s' with heap := h3 } := J.landed nb fl3.1 (up.trans up3) os ag; obtain ⟨oe3, vs3, he3, hz3, hd3⟩ := fl3.there
    have nfr : a ∉ frs (X.env :: X.outer) := fun hm => by
      obtain ⟨_, o', e', hnf⟩ := fl3.2.2.1.mem hm
      rw [he3] at e'; cases e'; exact hnf _ hd3
    have nL : a ≠ X.env.locals := fun z => nfr (List.mem_filterMap.mpr ⟨X.env, List.mem_cons_self, by rw [hf, z]⟩)
    have nF : a ∉ X.fs := fun hm => by
      obtain ⟨e, he, q⟩ := List.mem_filterMap.mp hm; exact nfr (List.mem_filterMap.mpr ⟨e, List.mem_cons_of_mem _ he, q⟩)
    have S3 := J3.suite he3 hd3 na nL nF
    have go : ∀ {hs' : List ExceptHandler} {l' : List Cl}, Ok X hs' l' → wish X.K out D l' cls d σ' H' → wpAny (model X.prog X.w) X.A (handleBy (.ref a) X.env hs') (SP X pins D) X.xe { s' with heap := h3 } := by
      intro hs' l' hk
      have test : ∀ {x : Str} {c : Value} {np : Pos} {Q : Value → Shared → Prop} {E : Value → Shared → Prop}, Names X x c → Q c { s' with heap := h3 } → wpAny (model X.prog X.w) (X.A.mark (some (.ref a))) (eval (.Name x np) X.env) Q E { s' with heap := h3 } := fun {x c np Q E} hc q => by
        obtain ⟨hg, hdbg, hm | ⟨hm, hv, hnn⟩⟩ := hc
        · exact ld_glob (X := X.suite a ((a, oe3) :: (X.pn ++ pins))) S3 hg hm q hdbg
        · exact ld_blt (X := X.suite a ((a, oe3) :: (X.pn ++ pins))) S3 hg hm hv q hnn hdbg
      have LT : PySem.W.Looks (model X.prog X.w) h3 (typeOf (.ref a)) cls := fun A Q E s k q => wpAny_typeOf_ref (k _ _ he3) (by rw [hz3.1]; exact q)
      induction hk with
      | nil =>
        intro w
        refine wpAny_handleBy_nil ?_
        obtain ⟨k1, k2, k3, oe, vs, T, oT, ts', he, hz, hd, h1, hr⟩ := id fl3; unfold PySem.passOn
        refine wpAny_bind (wpAny_field he hd h1 ?_); rw [if_neg (show ¬ ((Value.ref T == Value.none) = true) from by simp)]
        have fin : wpAny (model X.prog X.w) X.A (setFlight (.ref a) X.env.frame) (fun _ s4 => wpAny (model X.prog X.w) X.A (throw (.ref a) : Sem Flow) (SP X pins D) X.xe s4) X.xe { s' with heap := h3 } := by
          rw [hf]; exact HandSPX.setFlight_upZ fl3 fun h4 hh4 up4 => wpAny_throw (tk _ _ ⟨a, B, sI, pins, σ', H', cls, d, rfl, J, nb, (up.trans up3).trans up4, .inr (.inr (by rw [hs]; exact hh4)), na, os, ag, w⟩)
        first | exact wpAny_bind (wpAny_pure (wpAny_bind fin)) | exact wpAny_bind fin
      | @bare x c ts b₀ su p q hs2 l2 hc hsu r ih =>
        intro w
        obtain ⟨b, hb1, hyes, hno⟩ := w
        refine wpAny_handleBy_cons (codeAny_handlers_test ?_) (by intro q; cases q)
        refine test hc ((PySem.W.exm_one (M := model X.prog X.w) (J3.kIn) LT hb1).here ?_)
        cases b with
        | true =>
          refine codeAny_handlers_suite (HandSPX.lands_againZ fl3 fun h4 fl4 up4 => ?_)
          have J4 : Inv X pins σ' H' { s' with heap := h4 } := J.landed nb fl4.1 ((up.trans up3).trans up4) os ag; obtain ⟨oe4, vs4, he4, hz4, hd4⟩ := fl4.there
          have S4 := J4.suite he4 hd4 na nL nF; have y := hyes rfl a na
          refine wpAny_mono ((hsu a oe4 cls d (X.pn ++ pins) hz4 ⟨_, hd4⟩).run [] _ _ H' _ S4 y) (fun f s6 hsp => ?_) (fun _ _ z => False.elim z)
          cases f with
          | ret u => obtain ⟨v6, σ6, H6, S6, r6, q6⟩ := hsp; exact ⟨_, _, _, S6.unsuite ok, r6, q6⟩
          | next => obtain ⟨σ6, H6, S6, q6⟩ := hsp; exact ⟨_, _, S6.unsuite ok, q6⟩
          | brk => obtain ⟨σ6, H6, S6, q6⟩ := hsp; exact ⟨_, _, S6.unsuite ok, q6⟩
          | cont => obtain ⟨σ6, H6, S6, q6⟩ := hsp; exact ⟨_, _, S6.unsuite ok, q6⟩
        | false => exact ih (hno rfl)
      | @named x n c ts i b₀ su p q hs2 l2 hN hi hl hc hsu r ih =>
        intro w
        obtain ⟨b, hb1, hyes, hno⟩ := w
        refine wpAny_handleBy_cons (codeAny_handlers_test ?_) (by intro q; cases q)
        refine test hc ((PySem.W.exm_one (M := model X.prog X.w) (J3.kIn) LT hb1).here ?_)
        cases b with
        | true =>
          refine codeAny_handlers_suite_as (HandSPX.lands_againZ fl3 fun h4 fl4 up4 => ?_)
          have J4 : Inv X pins σ' H' { s' with heap := h4 } := J.landed nb fl4.1 ((up.trans up3).trans up4) os ag; obtain ⟨oe4, vs4, he4, hz4, hd4⟩ := fl4.there
          have S4 := J4.suite he4 hd4 na nL nF; have y := hyes rfl a na
          refine store_ok (X := X.suite a ((a, oe4) :: (X.pn ++ pins))) (v := .ref a) S4 hN hi (show Loc X.env.scope n from .inl hl) rfl (fun s5 S5 => ?_) (.inr hl)
          refine wpAny_mono ((hsu a oe4 cls d (X.pn ++ pins) hz4 ⟨_, hd4⟩).run [] s5 _ H' _ S5 y) (fun f s6 hsp => ?_) (fun _ _ z => False.elim z)
          have fin : ∀ {σ6 : L2.St} {H6 : Hp} {Q : Shared → Prop}, Inv (X.suite a ((a, oe4) :: (X.pn ++ pins))) [] σ6 H6 s6 → (∀ s7, Inv X pins (σ6.set i none) H6 s7 → Q s7) → wpAny (model X.prog X.w) X.A (do bindName X.env n .none; unbindBehindTheSuite X.env n q) (fun _ s7 => Q s7) X.xe s6 := fun {σ6 H6 Q} S6 hq => gone_ok (S6.unsuite ok) hN hi hl hq
          cases f with
          | ret u => obtain ⟨v6, σ6, H6, S6, r6, q6⟩ := hsp; exact fin S6 fun s7 J7 => ⟨_, _, _, J7, r6, q6⟩
          | next => obtain ⟨σ6, H6, S6, q6⟩ := hsp; exact fin S6 fun s7 J7 => ⟨_, _, J7, q6⟩
          | brk => obtain ⟨σ6, H6, S6, q6⟩ := hsp; exact fin S6 fun s7 J7 => ⟨_, _, J7, q6⟩
          | cont => obtain ⟨σ6, H6, S6, q6⟩ := hsp; exact fin S6 fun s7 J7 => ⟨_, _, J7, q6⟩
        | false => exact ih (hno rfl)
    exact go hh w
  · cases f with
    | ret u => obtain ⟨v, σ', H', J', r, q⟩ := hsp; exact ⟨v, σ', H', J'.ofTry ok, r, q⟩
    | next => obtain ⟨σ', H', J', q⟩ := hsp; exact wpAny_execs_nil ⟨σ', H', J'.ofTry ok, q⟩
    | brk => obtain ⟨σ', H', J', q⟩ := hsp; exact ⟨σ', H', J'.ofTry ok, q⟩
    | cont => obtain ⟨σ', H', J', q⟩ := hsp; exact ⟨σ', H', J'.ofTry ok, q⟩
end
end Many

namespace Z
open PySem L2
/-! range(lo, e) -/
def Rng2K (R : It → Hp → Prop) (vs : List V) (H1 : Hp) : Prop := ∃ i j : Int, vs = [.int i, .int j] ∧ (-(2 ^ 62) ≤ i ∧ i < 2 ^ 62 ∧ -(2 ^ 62) ≤ j ∧ j < 2 ^ 62) ∧ R (Itr i (j - i).toNat) H1
theorem irng2 {a : TA} {σ : L2.St} {H : Hp} {R : It → Hp → Prop} (h : a σ H (Rng2K R)) : iRng2 a σ H R := h
theorem forr2 {σ : L2.St} {H : Hp} {D : Ends} {g : TG} {tb : TS} {lo e : Int} (n : Nat) (he : (e - lo).toNat = n) (hb : -1000000 ≤ lo ∧ lo ≤ 1000000 ∧ -1000000 ≤ e ∧ e ≤ 1000000) (Pv : Nat → L2.St → Hp → Prop) (h0 : Pv 0 σ H)
    (hs : ∀ i σ H, i < n → Pv i σ H → g (.int (lo + (i : Int))) σ H fun σ2 H2 => tb { D with nx := Pv (i + 1), ct := Pv (i + 1), bk := D.nx } σ2 H2) (hd : ∀ σ H, Pv n σ H → D.nx σ H) : Rng2K (ForK g tb D σ) [.int lo, .int e] H := by
  refine ⟨lo, e, rfl, ⟨by omega, by omega, by omega, by omega⟩, ?_⟩
  rw [he]
  exact for_range (lo := lo) (n := n) Pv h0 (fun i σ H1 hi p => hs i σ H1 hi p) hd
end Z

namespace Z
open PySem L2
/-! comprehensions of two clauses, both over lists -/
theorem it_list {K : PySem.W.Frag} {a : Addr} {xs : List V} {H0 : Hp} {R : Hp → Prop} {B : V → (Hp → Prop) → Hp → Prop} (Pv : Nat → Hp → Prop) (h0 : Pv 0 H0) (hl : ∀ i H, i ≤ xs.length → Pv i H → SqL K H a xs)
    (hs : ∀ i x H, xs[i]? = some x → Pv i H → B x (Pv (i + 1)) H) (hd : ∀ H, Pv xs.length H → R H) :
    ∃ W : Nat → Nat → Hp → Prop, (∃ m, W 0 m H0) ∧ ∀ i m H, W i m H →
      ((Itl K a).stop i H ∧ R H) ∨ ((Itl K a).go i H ∧ ∃ Nx : Hp → Prop, (∀ H', Nx H' → ∃ m', m' < m ∧ W (i + 1) m' H') ∧ ∀ x H', (Itl K a).yld i H x H' → B x Nx H') := by
  refine ⟨fun i m H => m = xs.length - i ∧ i ≤ xs.length ∧ Pv i H, ⟨xs.length, by simp, Nat.zero_le _, h0⟩, ?_⟩
  rintro i m H ⟨rfl, hi, p⟩
  have q := hl i H hi p
  by_cases hlt : i < xs.length
  · refine .inr ⟨⟨xs, xs[i], q, by simp [hlt]⟩, Pv (i + 1), fun H' p' => ⟨xs.length - (i + 1), by omega, rfl, hlt, p'⟩, fun x H' y => ?_⟩
    obtain ⟨e, y⟩ := y
    subst e
    exact hs i x _ (y xs q) p
  · have e : i = xs.length := by omega
    subst e
    exact .inl ⟨⟨xs, q, Nat.le_refl _⟩, hd H p⟩
def In2K (g1 : TG) (tt1 : TT) (te : TE) (vs1 : List Nat) (σ2 : L2.St) (D : Addr) (Nx : Hp → Prop) (J1 : It) (H4 : Hp) : Prop := ∃ W1 : Nat → Nat → Hp → Prop, (∃ m, W1 0 m H4) ∧ ∀ j k H, W1 j k H →
      (J1.stop j H ∧ Nx H) ∨ (J1.go j H ∧ ∃ Nx1 : Hp → Prop, (∀ H', Nx1 H' → ∃ k', k' < k ∧ W1 (j + 1) k' H') ∧ ∀ x H', J1.yld j H x H' → g1 x (wipe σ2 vs1) H' fun σ3 H5 => wipe σ3 vs1 = wipe σ2 vs1 ∧ tt1 σ3 H5 fun b H6 =>
        if b = true then te σ3 H6 fun y H7 => ∃ acc, H7 D = some (.lst acc) ∧ acc.length < sizeLine ∧ Nx1 (upd H7 D (.lst (acc ++ [y]))) else Nx1 H6)
def Lc2K (g : TG) (tt : TT) (wi1 : TI) (g1 : TG) (tt1 : TT) (te : TE) (vs vs1 : List Nat) (σ : L2.St) (Q : VK) (J : It) (H1 : Hp) : Prop := ∀ D, H1 D = none → ∃ W : Nat → Nat → Hp → Prop, (∃ m, W 0 m (upd H1 D (.lst []))) ∧ ∀ i m H, W i m H →
  (J.stop i H ∧ Q (.ref D) H) ∨ (J.go i H ∧ ∃ Nx : Hp → Prop, (∀ H', Nx H' → ∃ m', m' < m ∧ W (i + 1) m' H') ∧ ∀ x H', J.yld i H x H' → g x (wipe σ vs) H' fun σ2 H2 => wipe σ2 vs = wipe σ vs ∧ tt σ2 H2 fun b H3 =>
    if b = true then wi1 σ2 H3 (In2K g1 tt1 te vs1 σ2 D Nx) else Nx H3)
theorem lc2 {wi wi1 : TI} {g g1 : TG} {tt tt1 : TT} {te : TE} {vs vs1 : List Nat} {σ : L2.St} {H : Hp} {Q : VK} (h : wi σ H (Lc2K g tt wi1 g1 tt1 te vs vs1 σ Q)) : tLc2 wi g tt wi1 g1 tt1 te vs vs1 σ H Q := h
theorem lc2l {K : PySem.W.Frag} {wi1 : TI} {g g1 : TG} {tt tt1 : TT} {te : TE} {vs vs1 : List Nat} {σ : L2.St} {H : Hp} {Q : VK} {a : Addr} (xs : List V) (hS : SqL K H a xs) (Pv : Addr → Nat → Hp → Prop) (h0 : ∀ D H1, H D = none → Kp [] H H1 → H1 D = some (.lst []) → Pv D 0 H1)
    (hl : ∀ D i H1, H D = none → i ≤ xs.length → Pv D i H1 → SqL K H1 a xs)
    (hs : ∀ D i x H1, H D = none → xs[i]? = some x → Pv D i H1 → g x (wipe σ vs) H1 fun σ2 H2 => wipe σ2 vs = wipe σ vs ∧ tt σ2 H2 fun b H3 => if b = true then wi1 σ2 H3 (In2K g1 tt1 te vs1 σ2 D (Pv D (i + 1))) else Pv D (i + 1) H3)
    (hd : ∀ D H1, H D = none → Pv D xs.length H1 → Q (.ref D) H1) : ListK K (Lc2K g tt wi1 g1 tt1 te vs vs1 σ Q) (.ref a) H :=
  ⟨a, rfl, ⟨xs, hS⟩, fun D hD => it_list (K := K) (a := a) (xs := xs) (R := fun H1 => Q (.ref D) H1) (B := fun x Nx H' => g x (wipe σ vs) H' fun σ2 H2 => wipe σ2 vs = wipe σ vs ∧ tt σ2 H2 fun b H3 => if b = true then wi1 σ2 H3 (In2K g1 tt1 te vs1 σ2 D Nx) else Nx H3) (Pv D) (h0 D _ hD (Kp.new hD) upd_same) (fun i H1 hi p => hl D i H1 hD hi p) (fun i x H1 hx p => hs D i x H1 hD hx p) fun H1 p => hd D H1 hD p⟩
theorem in2l {K : PySem.W.Frag} {g1 : TG} {tt1 : TT} {te : TE} {vs1 : List Nat} {σ2 : L2.St} {H : Hp} {D : Addr} {Nx : Hp → Prop} {a : Addr} (ys : List V) (hS : SqL K H a ys) (Pv : Nat → Hp → Prop) (h0 : Pv 0 H) (hl : ∀ i H1, i ≤ ys.length → Pv i H1 → SqL K H1 a ys)
    (hs : ∀ j y H1, ys[j]? = some y → Pv j H1 → g1 y (wipe σ2 vs1) H1 fun σ3 H5 => wipe σ3 vs1 = wipe σ2 vs1 ∧ tt1 σ3 H5 fun b H6 => if b = true then te σ3 H6 fun z H7 => ∃ acc, H7 D = some (.lst acc) ∧ acc.length < sizeLine ∧ Pv (j + 1) (upd H7 D (.lst (acc ++ [z]))) else Pv (j + 1) H6)
    (hd : ∀ H1, Pv ys.length H1 → Nx H1) : ListK K (In2K g1 tt1 te vs1 σ2 D Nx) (.ref a) H :=
  ⟨a, rfl, ⟨ys, hS⟩, it_list (K := K) (a := a) (xs := ys) (R := Nx) (B := fun x Nx1 H' => g1 x (wipe σ2 vs1) H' fun σ3 H5 => wipe σ3 vs1 = wipe σ2 vs1 ∧ tt1 σ3 H5 fun b H6 => if b = true then te σ3 H6 fun y H7 => ∃ acc, H7 D = some (.lst acc) ∧ acc.length < sizeLine ∧ Nx1 (upd H7 D (.lst (acc ++ [y]))) else Nx1 H6) Pv h0 hl hs hd⟩
end Z

/-! ### xs[i] += y; comprehensions over range(lo, hi) -/
namespace Z
open PySem L2 PySem.Spec PyProof.Rows
theorem pget_list {X : Cx} : PGet X (rIxL X.K) := by
  rintro pins s σ H _ _ v u Q I rx ry ⟨p, xs, i, z, rfl, rfl, hS, hz, q⟩
  obtain rfl : v = Value.ref p := by cases rx; rfl
  obtain ⟨tok, rfl⟩ := ry
  have ⟨items, vals, plain, _⟩ := I.list hS
  have ⟨k, k1, k2, k3, k4, k5⟩ := atI_get hz
  have ⟨val, hval, rel⟩ := vals.get k2
  have len := vals.length
  have big := line63
  have done : EP X pins σ Q val s := ⟨z, H, I, rel, q⟩
  rcases Int.lt_or_le i 0 with neg | pos
  · rw [seqIndex_neg neg k4] at k1
    have ek := Option.some.inj k1
    refine wpAny_getItem_list_neg plain.isList neg (by rw [List.size_toArray]; omega) (by omega) ?_ done
    rw [List.size_toArray, ← len, ek]
    simpa using hval
  · rw [seqIndex_of pos k5] at k1
    have ek := Option.some.inj k1
    refine wpAny_getItem_list plain.isList pos (by omega) ?_ done
    rw [ek]
    simpa using hval
theorem augs {σ : L2.St} {H : Hp} {D : Ends} {to ti te : TE} {tget : V → V → Hp → VK → Prop} {tip : TIp} {tset : TSet} (h : to σ H fun o H1 => ti σ H1 fun i H2 => tget o i H2 fun x H3 => te σ H3 fun y H4 => tip x y H4 fun z H5 => tset o i z H5 fun H6 => D.nx σ H6) : tAugS to ti te tget tip tset D σ H := h
theorem lcr2 {σ : L2.St} {H : Hp} {Q : VK} {te : TE} {g : TG} {tt : TT} {vs : List Nat} {lo e : Int} (n : Nat) (he : (e - lo).toNat = n) (hb : -1000000 ≤ lo ∧ lo ≤ 1000000 ∧ -1000000 ≤ e ∧ e ≤ 1000000) (Pv : Addr → Nat → Hp → Prop) (h0 : ∀ D H1, H D = none → Kp [] H H1 → H1 D = some (.lst []) → Pv D 0 H1)
    (hs : ∀ D i H1, H D = none → i < n → Pv D i H1 → g (.int (lo + (i : Int))) (wipe σ vs) H1 fun σ2 H2 => wipe σ2 vs = wipe σ vs ∧ tt σ2 H2 fun b H3 => if b = true then te σ2 H3 fun y H4 => ∃ acc, H4 D = some (.lst acc) ∧ acc.length < sizeLine ∧ Pv D (i + 1) (upd H4 D (.lst (acc ++ [y]))) else Pv D (i + 1) H3)
    (hd : ∀ D H1, H D = none → Pv D n H1 → Q (.ref D) H1) : Rng2K (LcK g tt te vs σ Q) [.int lo, .int e] H := by
  refine ⟨lo, e, rfl, ⟨by omega, by omega, by omega, by omega⟩, ?_⟩
  rw [he]
  exact fun D hD => lc_it (walk_range (lo := lo) (n := n)) (Pv D) (h0 D _ hD (Kp.new hD) upd_same) (fun _ _ _ _ => trivial) (fun i v H H' hi p y => by
    obtain ⟨rfl, rfl⟩ := y
    exact hs D i _ hD hi p) fun H1 p => hd D H1 hD p
end Z

/-! ### sorted of data that are alike -/
namespace RL
open PySem PySem.Spec PyProof.Rows L2 PySem.W
def DBs := List (V × PyData)
def rSortedD (K : PySem.W.Frag) : List V → Hp → VK → Prop := fun vs H Q => ∃ (a : Addr) (bs : List (V × PyData)), vs = [V.ref a] ∧ SqL K H a (bs.map Prod.fst) ∧ (∀ b ∈ bs, Dp K H b.1 b.2) ∧ AllAlike (bs.map Prod.snd) ∧ Sortable (bs.map Prod.snd) ∧ (∀ b ∈ bs, b.2.depth ≤ 60) ∧
  ∀ p, H p = none → Q (.ref p) (upd H p (.lst ((bs.mergeSort (dataLe false Prod.snd)).map Prod.fst)))
theorem each_vals : ∀ {bs : List (V × PyData)} {us : List Value}, Vals (bs.map Prod.fst) us → EachIs (fun (v : Value) (b : V × PyData) => RelV b.1 v) us bs
  | [], us, h => by cases h; exact .nil
  | b :: r, us, h => by
    cases h with
    | cons h1 h2 => exact .cons h1 (each_vals h2)
theorem vals_each : ∀ {bs : List (V × PyData)} {us : List Value}, EachIs (fun (v : Value) (b : V × PyData) => RelV b.1 v) us bs → Vals (bs.map Prod.fst) us
  | _, _, .nil => .nil
  | _, _, .cons h1 h2 => .cons h1 (vals_each h2)
theorem each_and {α β : Type} {R : α → β → Prop} {P : β → Prop} {S : α → β → Prop} (hS : ∀ a b, R a b → P b → S a b) : ∀ {as : List α} {bs : List β}, EachIs R as bs → (∀ b ∈ bs, P b) → EachIs S as bs
  | _, _, .nil, _ => .nil
  | _, _, .cons h1 h2, hp => .cons (hS _ _ h1 (hp _ (by simp))) (each_and hS h2 fun b hb => hp b (by simp [hb]))
theorem cr_sortedD {X : Cx} (hu : X.A.units + 64 < cLine) : CallR X (.builtin "sorted") (rSortedD X.K) := by
  intro pins s σ H vs us Q I r h
  obtain ⟨a, bs, rfl, hs, hD, hal, hk, hd, q⟩ := h
  obtain ⟨its, rv, hl, hz⟩ := I.list hs
  rw [Vals.ref1 r]
  have e := each_vals rv
  have er : EachIs (fun (v : Value) (b : V × PyData) => ∃ as, Reads s.heap v b.2 as) its bs := each_and (P := fun (b : V × PyData) => Dp X.K H b.1 b.2) (fun v b h1 h2 => Dp.reads I _ _ _ h2 h1) e hD
  have hL : bs.length ≤ sizeLine := by rw [List.length_map] at hz; exact hz
  refine sorted_data (enc := Prod.snd) (R := fun (v : Value) (b : V × PyData) => RelV b.1 v) hl.isList e er hal hk hL (fun b hb => by have := hd b hb; omega) fun out hlen ho => ?_
  obtain ⟨ep, he'⟩ := PyProof.Rows.sortedAll_at s.heap its out.toArray
  have hlen2 : ((bs.mergeSort (dataLe false Prod.snd)).map Prod.fst).length ≤ sizeLine := by rw [List.length_map, List.length_mergeSort]; exact hL
  exact ⟨.ref _, upd H (s.heap.objs.size + 1) (.lst ((bs.mergeSort (dataLe false Prod.snd)).map Prod.fst)), I.laid (t' := s.toks) (fun _ _ => PyProof.Rows.sortedAll_old) (Nat.le_succ _) ⟨hlen2, out, ep, vals_each ho, he'⟩, rfl, q _ (I.hok.fresh (Nat.le_succ _))⟩
end RL

namespace Z
open PySem L2
/-- what is never reached -/
def tDead : TS := fun _ _ _ => False
theorem ps_dead {X : Cx} {s : Stmt} : PS X s tDead := ⟨fun _ _ _ _ _ _ h => h.elim⟩
theorem u65 {k : Nat} {A : Around} (hr : Room k A) : A.units + 65 < cLine := by have := hr.un; omega
end Z

set_option maxRecDepth 100000

namespace K03
open PySem L2 Z
def topS (i : Nat) : Stmt := PySem.Challenge.pw_samphire_k05_whole_any_text_is_refused_o.main.body.getD i (.Pass ⟨0, 0, 0, 0⟩)
abbrev s_made_of : Stmt := topS 7
abbrev N_made_of : List Str := ["text", "signs", "sign"]
theorem sc_made_of : FnScope N_made_of ["text", "signs"] (defScope s_made_of) := ⟨rfl, rfl, rfl, by decide +kernel, rfl, by decide +kernel, by decide +kernel⟩
abbrev s_lines_of : Stmt := topS 8
abbrev N_lines_of : List Str := ["text", "lines"]
theorem sc_lines_of : FnScope N_lines_of ["text"] (defScope s_lines_of) := ⟨rfl, rfl, rfl, by decide +kernel, rfl, by decide +kernel, by decide +kernel⟩
abbrev s_words_of : Stmt := topS 9
abbrev N_words_of : List Str := ["line"]
theorem sc_words_of : FnScope N_words_of ["line"] (defScope s_words_of) := ⟨rfl, rfl, rfl, by decide +kernel, rfl, by decide +kernel, by decide +kernel⟩
abbrev s_column_of : Stmt := topS 10
abbrev N_column_of : List Str := ["words", "place", "word"]
theorem sc_column_of : FnScope N_column_of ["words", "place"] (defScope s_column_of) := ⟨rfl, rfl, rfl, by decide +kernel, rfl, by decide +kernel, by decide +kernel⟩
abbrev s_writes_integer : Stmt := topS 11
abbrev N_writes_integer : List Str := ["word", "digits"]
theorem sc_writes_integer : FnScope N_writes_integer ["word"] (defScope s_writes_integer) := ⟨rfl, rfl, rfl, by decide +kernel, rfl, by decide +kernel, by decide +kernel⟩
abbrev s_integer_within : Stmt := topS 12
abbrev N_integer_within : List Str := ["word", "low", "high", "number"]
theorem sc_integer_within : FnScope N_integer_within ["word", "low", "high"] (defScope s_integer_within) := ⟨rfl, rfl, rfl, by decide +kernel, rfl, by decide +kernel, by decide +kernel⟩
abbrev s_is_name : Stmt := topS 17
abbrev N_is_name : List Str := ["text"]
theorem sc_is_name : FnScope N_is_name ["text"] (defScope s_is_name) := ⟨rfl, rfl, rfl, by decide +kernel, rfl, by decide +kernel, by decide +kernel⟩
abbrev s_reason_against : Stmt := topS 18
abbrev N_reason_against : List Str := ["row", "key", "group", "weight", "amount"]
theorem sc_reason_against : FnScope N_reason_against ["row"] (defScope s_reason_against) := ⟨rfl, rfl, rfl, by decide +kernel, rfl, by decide +kernel, by decide +kernel⟩
abbrev s_check_items : Stmt := topS 19
abbrev N_check_items : List Str := ["rows", "taken", "place", "row", "reason"]
theorem sc_check_items : FnScope N_check_items ["rows"] (defScope s_check_items) := ⟨rfl, rfl, rfl, by decide +kernel, rfl, by decide +kernel, by decide +kernel⟩
abbrev s_token_end : Stmt := topS 25
abbrev N_token_end : List Str := ["text", "start", "end"]
theorem sc_token_end : FnScope N_token_end ["text", "start"] (defScope s_token_end) := ⟨rfl, rfl, rfl, by decide +kernel, rfl, by decide +kernel, by decide +kernel⟩
abbrev s_tokens_of : Stmt := topS 26
abbrev N_tokens_of : List Str := ["text", "found", "at", "end"]
theorem sc_tokens_of : FnScope N_tokens_of ["text"] (defScope s_tokens_of) := ⟨rfl, rfl, rfl, by decide +kernel, rfl, by decide +kernel, by decide +kernel⟩
abbrev s_ConditionReader_init : Stmt := inClass (topS 27) 0
abbrev N_ConditionReader_init : List Str := ["self", "text"]
theorem sc_ConditionReader_init : FnScope N_ConditionReader_init ["self", "text"] (defScope s_ConditionReader_init) := ⟨rfl, rfl, rfl, by decide +kernel, rfl, by decide +kernel, by decide +kernel⟩
abbrev s_ConditionReader_whole : Stmt := inClass (topS 27) 1
abbrev N_ConditionReader_whole : List Str := ["self", "condition"]
theorem sc_ConditionReader_whole : FnScope N_ConditionReader_whole ["self"] (defScope s_ConditionReader_whole) := ⟨rfl, rfl, rfl, by decide +kernel, rfl, by decide +kernel, by decide +kernel⟩
abbrev s_ConditionReader__here : Stmt := inClass (topS 27) 2
abbrev N_ConditionReader__here : List Str := ["self"]
theorem sc_ConditionReader__here : FnScope N_ConditionReader__here ["self"] (defScope s_ConditionReader__here) := ⟨rfl, rfl, rfl, by decide +kernel, rfl, by decide +kernel, by decide +kernel⟩
abbrev s_ConditionReader__refuse : Stmt := inClass (topS 27) 3
abbrev N_ConditionReader__refuse : List Str := ["self", "reason", "column"]
theorem sc_ConditionReader__refuse : FnScope N_ConditionReader__refuse ["self", "reason"] (defScope s_ConditionReader__refuse) := ⟨rfl, rfl, rfl, by decide +kernel, rfl, by decide +kernel, by decide +kernel⟩
abbrev s_ConditionReader__take : Stmt := inClass (topS 27) 4
abbrev N_ConditionReader__take : List Str := ["self", "can_stand", "word"]
theorem sc_ConditionReader__take : FnScope N_ConditionReader__take ["self", "can_stand"] (defScope s_ConditionReader__take) := ⟨rfl, rfl, rfl, by decide +kernel, rfl, by decide +kernel, by decide +kernel⟩
abbrev s_ConditionReader__go_in : Stmt := inClass (topS 27) 5
abbrev N_ConditionReader__go_in : List Str := ["self"]
theorem sc_ConditionReader__go_in : FnScope N_ConditionReader__go_in ["self"] (defScope s_ConditionReader__go_in) := ⟨rfl, rfl, rfl, by decide +kernel, rfl, by decide +kernel, by decide +kernel⟩
abbrev s_ConditionReader__either : Stmt := inClass (topS 27) 6
abbrev N_ConditionReader__either : List Str := ["self", "condition"]
theorem sc_ConditionReader__either : FnScope N_ConditionReader__either ["self"] (defScope s_ConditionReader__either) := ⟨rfl, rfl, rfl, by decide +kernel, rfl, by decide +kernel, by decide +kernel⟩
abbrev s_ConditionReader__both : Stmt := inClass (topS 27) 7
abbrev N_ConditionReader__both : List Str := ["self", "condition"]
theorem sc_ConditionReader__both : FnScope N_ConditionReader__both ["self"] (defScope s_ConditionReader__both) := ⟨rfl, rfl, rfl, by decide +kernel, rfl, by decide +kernel, by decide +kernel⟩
abbrev s_ConditionReader__turned : Stmt := inClass (topS 27) 8
abbrev N_ConditionReader__turned : List Str := ["self", "condition"]
theorem sc_ConditionReader__turned : FnScope N_ConditionReader__turned ["self"] (defScope s_ConditionReader__turned) := ⟨rfl, rfl, rfl, by decide +kernel, rfl, by decide +kernel, by decide +kernel⟩
abbrev s_ConditionReader__atom : Stmt := inClass (topS 27) 9
abbrev N_ConditionReader__atom : List Str := ["self", "word", "sign"]
theorem sc_ConditionReader__atom : FnScope N_ConditionReader__atom ["self"] (defScope s_ConditionReader__atom) := ⟨rfl, rfl, rfl, by decide +kernel, rfl, by decide +kernel, by decide +kernel⟩
abbrev s_ConditionReader__bracket : Stmt := inClass (topS 27) 10
abbrev N_ConditionReader__bracket : List Str := ["self", "condition"]
theorem sc_ConditionReader__bracket : FnScope N_ConditionReader__bracket ["self"] (defScope s_ConditionReader__bracket) := ⟨rfl, rfl, rfl, by decide +kernel, rfl, by decide +kernel, by decide +kernel⟩
abbrev s_ConditionReader__number : Stmt := inClass (topS 27) 11
abbrev N_ConditionReader__number : List Str := ["self", "below", "word", "number"]
theorem sc_ConditionReader__number : FnScope N_ConditionReader__number ["self"] (defScope s_ConditionReader__number) := ⟨rfl, rfl, rfl, by decide +kernel, rfl, by decide +kernel, by decide +kernel⟩
abbrev s_parse_condition : Stmt := topS 30
abbrev N_parse_condition : List Str := ["text", "reader"]
theorem sc_parse_condition : FnScope N_parse_condition ["text"] (defScope s_parse_condition) := ⟨rfl, rfl, rfl, by decide +kernel, rfl, by decide +kernel, by decide +kernel⟩
abbrev s_parts_first : Stmt := topS 31
abbrev N_parts_first : List Str := ["condition", "found", "waiting", "part"]
theorem sc_parts_first : FnScope N_parts_first ["condition"] (defScope s_parts_first) := ⟨rfl, rfl, rfl, by decide +kernel, rfl, by decide +kernel, by decide +kernel⟩
abbrev s_compares : Stmt := topS 32
abbrev N_compares : List Str := ["number", "sign", "other"]
theorem sc_compares : FnScope N_compares ["number", "sign", "other"] (defScope s_compares) := ⟨rfl, rfl, rfl, by decide +kernel, rfl, by decide +kernel, by decide +kernel⟩
abbrev s_atom_holds : Stmt := topS 33
abbrev N_atom_holds : List Str := ["atom", "item", "key", "group", "weight", "amount", "word"]
theorem sc_atom_holds : FnScope N_atom_holds ["atom", "item"] (defScope s_atom_holds) := ⟨rfl, rfl, rfl, by decide +kernel, rfl, by decide +kernel, by decide +kernel⟩
abbrev s_last_holds : Stmt := topS 34
abbrev N_last_holds : List Str := ["conditions", "item", "results", "condition", "word", "second", "first"]
theorem sc_last_holds : FnScope N_last_holds ["conditions", "item"] (defScope s_last_holds) := ⟨rfl, rfl, rfl, by decide +kernel, rfl, by decide +kernel, by decide +kernel⟩
abbrev s_held : Stmt := topS 35
abbrev N_held : List Str := ["condition", "item"]
theorem sc_held : FnScope N_held ["condition", "item"] (defScope s_held) := ⟨rfl, rfl, rfl, by decide +kernel, rfl, by decide +kernel, by decide +kernel⟩
abbrev s_within : Stmt := topS 36
abbrev N_within : List Str := ["condition", "words"]
theorem sc_within : FnScope N_within ["condition", "words"] (defScope s_within) := ⟨rfl, rfl, rfl, by decide +kernel, rfl, by decide +kernel, by decide +kernel⟩
abbrev s_pieces_of : Stmt := topS 37
abbrev N_pieces_of : List Str := ["condition", "word"]
theorem sc_pieces_of : FnScope N_pieces_of ["condition"] (defScope s_pieces_of) := ⟨rfl, rfl, rfl, by decide +kernel, rfl, by decide +kernel, by decide +kernel⟩
abbrev s_write_condition : Stmt := topS 38
abbrev N_write_condition : List Str := ["condition", "written", "waiting", "piece"]
theorem sc_write_condition : FnScope N_write_condition ["condition"] (defScope s_write_condition) := ⟨rfl, rfl, rfl, by decide +kernel, rfl, by decide +kernel, by decide +kernel⟩
abbrev s_word_fault : Stmt := topS 43
abbrev N_word_fault : List Str := ["words", "key", "group", "weight", "amount"]
theorem sc_word_fault : FnScope N_word_fault ["words"] (defScope s_word_fault) := ⟨rfl, rfl, rfl, by decide +kernel, rfl, by decide +kernel, by decide +kernel⟩
abbrev s_item_of : Stmt := topS 44
abbrev N_item_of : List Str := ["words", "key", "group", "weight", "amount"]
theorem sc_item_of : FnScope N_item_of ["words"] (defScope s_item_of) := ⟨rfl, rfl, rfl, by decide +kernel, rfl, by decide +kernel, by decide +kernel⟩
abbrev s_line_fault : Stmt := topS 45
abbrev N_line_fault : List Str := ["words", "number", "taken", "fault", "place", "reason"]
theorem sc_line_fault : FnScope N_line_fault ["words", "number", "taken"] (defScope s_line_fault) := ⟨rfl, rfl, rfl, by decide +kernel, rfl, by decide +kernel, by decide +kernel⟩
abbrev s_read_items : Stmt := topS 46
abbrev N_read_items : List Str := ["text", "rows", "taken", "number", "line", "words", "fault", "column", "reason"]
theorem sc_read_items : FnScope N_read_items ["text"] (defScope s_read_items) := ⟨rfl, rfl, rfl, by decide +kernel, rfl, by decide +kernel, by decide +kernel⟩
abbrev s_write_items : Stmt := topS 48
abbrev N_write_items : List Str := ["rows", "key", "group", "weight", "amount"]
theorem sc_write_items : FnScope N_write_items ["rows"] (defScope s_write_items) := ⟨rfl, rfl, rfl, by decide +kernel, rfl, by decide +kernel, by decide +kernel⟩
abbrev s__law_draws : Stmt := topS 50
abbrev N__law_draws : List Str := ["script", "draws", "cell", "number", "first", "k", "seed"]
theorem sc__law_draws : FnScope N__law_draws ["script"] (defScope s__law_draws) := ⟨rfl, rfl, rfl, by decide +kernel, rfl, by decide +kernel, by decide +kernel⟩
abbrev s__law_take : Stmt := topS 51
abbrev N__law_take : List Str := ["draws", "bound"]
theorem sc__law_take : FnScope N__law_take ["draws", "bound"] (defScope s__law_take) := ⟨rfl, rfl, rfl, by decide +kernel, rfl, by decide +kernel, by decide +kernel⟩
abbrev s__law_name : Stmt := topS 52
abbrev N__law_name : List Str := ["draws"]
theorem sc__law_name : FnScope N__law_name ["draws"] (defScope s__law_name) := ⟨rfl, rfl, rfl, by decide +kernel, rfl, by decide +kernel, by decide +kernel⟩
abbrev s__law_items : Stmt := topS 53
abbrev N__law_items : List Str := ["draws", "most", "found", "keys", "k", "key", "weight", "amount"]
theorem sc__law_items : FnScope N__law_items ["draws", "most"] (defScope s__law_items) := ⟨rfl, rfl, rfl, by decide +kernel, rfl, by decide +kernel, by decide +kernel⟩
abbrev s__law_number : Stmt := topS 54
abbrev N__law_number : List Str := ["draws"]
theorem sc__law_number : FnScope N__law_number ["draws"] (defScope s__law_number) := ⟨rfl, rfl, rfl, by decide +kernel, rfl, by decide +kernel, by decide +kernel⟩
abbrev s__law_condition : Stmt := topS 55
abbrev N__law_condition : List Str := ["draws", "depth", "kind", "first"]
theorem sc__law_condition : FnScope N__law_condition ["draws", "depth"] (defScope s__law_condition) := ⟨rfl, rfl, rfl, by decide +kernel, rfl, by decide +kernel, by decide +kernel⟩
abbrev s__law_part : Stmt := topS 56
abbrev N__law_part : List Str := ["condition", "words", "text"]
theorem sc__law_part : FnScope N__law_part ["condition", "words"] (defScope s__law_part) := ⟨rfl, rfl, rfl, by decide +kernel, rfl, by decide +kernel, by decide +kernel⟩
abbrev s__law_written : Stmt := topS 57
abbrev N__law_written : List Str := ["condition", "word"]
theorem sc__law_written : FnScope N__law_written ["condition"] (defScope s__law_written) := ⟨rfl, rfl, rfl, by decide +kernel, rfl, by decide +kernel, by decide +kernel⟩
abbrev s__law_changed : Stmt := topS 58
abbrev N__law_changed : List Str := ["draws", "text", "at", "pieces", "piece", "kind"]
theorem sc__law_changed : FnScope N__law_changed ["draws", "text"] (defScope s__law_changed) := ⟨rfl, rfl, rfl, by decide +kernel, rfl, by decide +kernel, by decide +kernel⟩
abbrev s__law_parsed : Stmt := topS 59
abbrev N__law_parsed : List Str := ["text", "e"]
theorem sc__law_parsed : FnScope N__law_parsed ["text"] (defScope s__law_parsed) := ⟨rfl, rfl, rfl, by decide +kernel, rfl, by decide +kernel, by decide +kernel⟩
abbrev s__law_read : Stmt := topS 60
abbrev N__law_read : List Str := ["text", "e"]
theorem sc__law_read : FnScope N__law_read ["text"] (defScope s__law_read) := ⟨rfl, rfl, rfl, by decide +kernel, rfl, by decide +kernel, by decide +kernel⟩
abbrev s__law_size : Stmt := topS 61
abbrev N__law_size : List Str := ["text", "sign"]
theorem sc__law_size : FnScope N__law_size ["text"] (defScope s__law_size) := ⟨rfl, rfl, rfl, by decide +kernel, rfl, by decide +kernel, by decide +kernel⟩
abbrev s_law : Stmt := topS 62
abbrev N_law : List Str := ["script", "draws", "items", "text", "turn", "condition", "written", "item", "rows", "sign"]
theorem sc_law : FnScope N_law ["script"] (defScope s_law) := ⟨rfl, rfl, rfl, by decide +kernel, rfl, by decide +kernel, by decide +kernel⟩
abbrev s_TextError_init : Stmt := inClass (topS 2) 0
abbrev N_TextError_init : List Str := ["self", "line", "column", "reason", "__class__"]
theorem sc_TextError_init : NdefX.NScope N_TextError_init ["self", "line", "column", "reason"] ["__class__"] (defScope s_TextError_init) := NdefX.nscope_by (by decide +kernel)
abbrev NF_TextError (cc c : Addr) : NdefX.NF := ⟨"__init__", "TextError.__init__", defArgs s_TextError_init, defBody s_TextError_init, defScope s_TextError_init, [(("__class__" : Str), cc)], c⟩
abbrev s_TooLarge_init : Stmt := inClass (topS 3) 0
abbrev N_TooLarge_init : List Str := ["self", "limit", "__class__"]
theorem sc_TooLarge_init : NdefX.NScope N_TooLarge_init ["self", "limit"] ["__class__"] (defScope s_TooLarge_init) := NdefX.nscope_by (by decide +kernel)
abbrev NF_TooLarge (cc c : Addr) : NdefX.NF := ⟨"__init__", "TooLarge.__init__", defArgs s_TooLarge_init, defBody s_TooLarge_init, defScope s_TooLarge_init, [(("__class__" : Str), cc)], c⟩
set_option maxHeartbeats 4000000 in
structure T (P : Program) (K : PySem.W.Frag) (mg : Str → Option Value) where
  a_made_of : Addr
  fd_made_of : FuncData
  F_made_of : Fun K "made_of" "made_of" s_made_of a_made_of fd_made_of
  b_made_of : Binds K fd_made_of ["text", "signs"] []
  g_made_of : mg "made_of" = some (.ref a_made_of)
  a_lines_of : Addr
  fd_lines_of : FuncData
  F_lines_of : Fun K "lines_of" "lines_of" s_lines_of a_lines_of fd_lines_of
  b_lines_of : Binds K fd_lines_of ["text"] []
  g_lines_of : mg "lines_of" = some (.ref a_lines_of)
  a_words_of : Addr
  fd_words_of : FuncData
  F_words_of : Fun K "words_of" "words_of" s_words_of a_words_of fd_words_of
  b_words_of : Binds K fd_words_of ["line"] []
  g_words_of : mg "words_of" = some (.ref a_words_of)
  a_column_of : Addr
  fd_column_of : FuncData
  F_column_of : Fun K "column_of" "column_of" s_column_of a_column_of fd_column_of
  b_column_of : Binds K fd_column_of ["words", "place"] []
  g_column_of : mg "column_of" = some (.ref a_column_of)
  a_writes_integer : Addr
  fd_writes_integer : FuncData
  F_writes_integer : Fun K "writes_integer" "writes_integer" s_writes_integer a_writes_integer fd_writes_integer
  b_writes_integer : Binds K fd_writes_integer ["word"] []
  g_writes_integer : mg "writes_integer" = some (.ref a_writes_integer)
  a_integer_within : Addr
  fd_integer_within : FuncData
  F_integer_within : Fun K "integer_within" "integer_within" s_integer_within a_integer_within fd_integer_within
  b_integer_within : Binds K fd_integer_within ["word", "low", "high"] []
  g_integer_within : mg "integer_within" = some (.ref a_integer_within)
  a_is_name : Addr
  fd_is_name : FuncData
  F_is_name : Fun K "is_name" "is_name" s_is_name a_is_name fd_is_name
  b_is_name : Binds K fd_is_name ["text"] []
  g_is_name : mg "is_name" = some (.ref a_is_name)
  a_reason_against : Addr
  fd_reason_against : FuncData
  F_reason_against : Fun K "reason_against" "reason_against" s_reason_against a_reason_against fd_reason_against
  b_reason_against : Binds K fd_reason_against ["row"] []
  g_reason_against : mg "reason_against" = some (.ref a_reason_against)
  a_check_items : Addr
  fd_check_items : FuncData
  F_check_items : Fun K "check_items" "check_items" s_check_items a_check_items fd_check_items
  b_check_items : Binds K fd_check_items ["rows"] []
  g_check_items : mg "check_items" = some (.ref a_check_items)
  a_token_end : Addr
  fd_token_end : FuncData
  F_token_end : Fun K "token_end" "token_end" s_token_end a_token_end fd_token_end
  b_token_end : Binds K fd_token_end ["text", "start"] []
  g_token_end : mg "token_end" = some (.ref a_token_end)
  a_tokens_of : Addr
  fd_tokens_of : FuncData
  F_tokens_of : Fun K "tokens_of" "tokens_of" s_tokens_of a_tokens_of fd_tokens_of
  b_tokens_of : Binds K fd_tokens_of ["text"] []
  g_tokens_of : mg "tokens_of" = some (.ref a_tokens_of)
  a_ConditionReader_init : Addr
  fd_ConditionReader_init : FuncData
  F_ConditionReader_init : Fun K "__init__" "ConditionReader.__init__" s_ConditionReader_init a_ConditionReader_init fd_ConditionReader_init
  b_ConditionReader_init : Binds K fd_ConditionReader_init ["self", "text"] []
  a_ConditionReader_whole : Addr
  fd_ConditionReader_whole : FuncData
  F_ConditionReader_whole : Fun K "whole" "ConditionReader.whole" s_ConditionReader_whole a_ConditionReader_whole fd_ConditionReader_whole
  b_ConditionReader_whole : Binds K fd_ConditionReader_whole ["self"] []
  a_ConditionReader__here : Addr
  fd_ConditionReader__here : FuncData
  F_ConditionReader__here : Fun K "_here" "ConditionReader._here" s_ConditionReader__here a_ConditionReader__here fd_ConditionReader__here
  b_ConditionReader__here : Binds K fd_ConditionReader__here ["self"] []
  a_ConditionReader__refuse : Addr
  fd_ConditionReader__refuse : FuncData
  F_ConditionReader__refuse : Fun K "_refuse" "ConditionReader._refuse" s_ConditionReader__refuse a_ConditionReader__refuse fd_ConditionReader__refuse
  b_ConditionReader__refuse : Binds K fd_ConditionReader__refuse ["self", "reason"] []
  a_ConditionReader__take : Addr
  fd_ConditionReader__take : FuncData
  F_ConditionReader__take : Fun K "_take" "ConditionReader._take" s_ConditionReader__take a_ConditionReader__take fd_ConditionReader__take
  b_ConditionReader__take : Binds K fd_ConditionReader__take ["self", "can_stand"] []
  a_ConditionReader__go_in : Addr
  fd_ConditionReader__go_in : FuncData
  F_ConditionReader__go_in : Fun K "_go_in" "ConditionReader._go_in" s_ConditionReader__go_in a_ConditionReader__go_in fd_ConditionReader__go_in
  b_ConditionReader__go_in : Binds K fd_ConditionReader__go_in ["self"] []
  a_ConditionReader__either : Addr
  fd_ConditionReader__either : FuncData
  F_ConditionReader__either : Fun K "_either" "ConditionReader._either" s_ConditionReader__either a_ConditionReader__either fd_ConditionReader__either
  b_ConditionReader__either : Binds K fd_ConditionReader__either ["self"] []
  a_ConditionReader__both : Addr
  fd_ConditionReader__both : FuncData
  F_ConditionReader__both : Fun K "_both" "ConditionReader._both" s_ConditionReader__both a_ConditionReader__both fd_ConditionReader__both
  b_ConditionReader__both : Binds K fd_ConditionReader__both ["self"] []
  a_ConditionReader__turned : Addr
  fd_ConditionReader__turned : FuncData
  F_ConditionReader__turned : Fun K "_turned" "ConditionReader._turned" s_ConditionReader__turned a_ConditionReader__turned fd_ConditionReader__turned
  b_ConditionReader__turned : Binds K fd_ConditionReader__turned ["self"] []
  a_ConditionReader__atom : Addr
  fd_ConditionReader__atom : FuncData
  F_ConditionReader__atom : Fun K "_atom" "ConditionReader._atom" s_ConditionReader__atom a_ConditionReader__atom fd_ConditionReader__atom
  b_ConditionReader__atom : Binds K fd_ConditionReader__atom ["self"] []
  a_ConditionReader__bracket : Addr
  fd_ConditionReader__bracket : FuncData
  F_ConditionReader__bracket : Fun K "_bracket" "ConditionReader._bracket" s_ConditionReader__bracket a_ConditionReader__bracket fd_ConditionReader__bracket
  b_ConditionReader__bracket : Binds K fd_ConditionReader__bracket ["self"] []
  a_ConditionReader__number : Addr
  fd_ConditionReader__number : FuncData
  F_ConditionReader__number : Fun K "_number" "ConditionReader._number" s_ConditionReader__number a_ConditionReader__number fd_ConditionReader__number
  b_ConditionReader__number : Binds K fd_ConditionReader__number ["self"] []
  a_parse_condition : Addr
  fd_parse_condition : FuncData
  F_parse_condition : Fun K "parse_condition" "parse_condition" s_parse_condition a_parse_condition fd_parse_condition
  b_parse_condition : Binds K fd_parse_condition ["text"] []
  g_parse_condition : mg "parse_condition" = some (.ref a_parse_condition)
  a_parts_first : Addr
  fd_parts_first : FuncData
  F_parts_first : Fun K "parts_first" "parts_first" s_parts_first a_parts_first fd_parts_first
  b_parts_first : Binds K fd_parts_first ["condition"] []
  g_parts_first : mg "parts_first" = some (.ref a_parts_first)
  a_compares : Addr
  fd_compares : FuncData
  F_compares : Fun K "compares" "compares" s_compares a_compares fd_compares
  b_compares : Binds K fd_compares ["number", "sign", "other"] []
  g_compares : mg "compares" = some (.ref a_compares)
  a_atom_holds : Addr
  fd_atom_holds : FuncData
  F_atom_holds : Fun K "atom_holds" "atom_holds" s_atom_holds a_atom_holds fd_atom_holds
  b_atom_holds : Binds K fd_atom_holds ["atom", "item"] []
  g_atom_holds : mg "atom_holds" = some (.ref a_atom_holds)
  a_last_holds : Addr
  fd_last_holds : FuncData
  F_last_holds : Fun K "last_holds" "last_holds" s_last_holds a_last_holds fd_last_holds
  b_last_holds : Binds K fd_last_holds ["conditions", "item"] []
  g_last_holds : mg "last_holds" = some (.ref a_last_holds)
  a_held : Addr
  fd_held : FuncData
  F_held : Fun K "held" "held" s_held a_held fd_held
  b_held : Binds K fd_held ["condition", "item"] []
  g_held : mg "held" = some (.ref a_held)
  a_within : Addr
  fd_within : FuncData
  F_within : Fun K "within" "within" s_within a_within fd_within
  b_within : Binds K fd_within ["condition", "words"] []
  g_within : mg "within" = some (.ref a_within)
  a_pieces_of : Addr
  fd_pieces_of : FuncData
  F_pieces_of : Fun K "pieces_of" "pieces_of" s_pieces_of a_pieces_of fd_pieces_of
  b_pieces_of : Binds K fd_pieces_of ["condition"] []
  g_pieces_of : mg "pieces_of" = some (.ref a_pieces_of)
  a_write_condition : Addr
  fd_write_condition : FuncData
  F_write_condition : Fun K "write_condition" "write_condition" s_write_condition a_write_condition fd_write_condition
  b_write_condition : Binds K fd_write_condition ["condition"] []
  g_write_condition : mg "write_condition" = some (.ref a_write_condition)
  a_word_fault : Addr
  fd_word_fault : FuncData
  F_word_fault : Fun K "word_fault" "word_fault" s_word_fault a_word_fault fd_word_fault
  b_word_fault : Binds K fd_word_fault ["words"] []
  g_word_fault : mg "word_fault" = some (.ref a_word_fault)
  a_item_of : Addr
  fd_item_of : FuncData
  F_item_of : Fun K "item_of" "item_of" s_item_of a_item_of fd_item_of
  b_item_of : Binds K fd_item_of ["words"] []
  g_item_of : mg "item_of" = some (.ref a_item_of)
  a_line_fault : Addr
  fd_line_fault : FuncData
  F_line_fault : Fun K "line_fault" "line_fault" s_line_fault a_line_fault fd_line_fault
  b_line_fault : Binds K fd_line_fault ["words", "number", "taken"] []
  g_line_fault : mg "line_fault" = some (.ref a_line_fault)
  a_read_items : Addr
  fd_read_items : FuncData
  F_read_items : Fun K "read_items" "read_items" s_read_items a_read_items fd_read_items
  b_read_items : Binds K fd_read_items ["text"] []
  g_read_items : mg "read_items" = some (.ref a_read_items)
  a_write_items : Addr
  fd_write_items : FuncData
  F_write_items : Fun K "write_items" "write_items" s_write_items a_write_items fd_write_items
  b_write_items : Binds K fd_write_items ["rows"] []
  g_write_items : mg "write_items" = some (.ref a_write_items)
  a__law_draws : Addr
  fd__law_draws : FuncData
  F__law_draws : Fun K "_law_draws" "_law_draws" s__law_draws a__law_draws fd__law_draws
  b__law_draws : Binds K fd__law_draws ["script"] []
  g__law_draws : mg "_law_draws" = some (.ref a__law_draws)
  a__law_take : Addr
  fd__law_take : FuncData
  F__law_take : Fun K "_law_take" "_law_take" s__law_take a__law_take fd__law_take
  b__law_take : Binds K fd__law_take ["draws", "bound"] []
  g__law_take : mg "_law_take" = some (.ref a__law_take)
  a__law_name : Addr
  fd__law_name : FuncData
  F__law_name : Fun K "_law_name" "_law_name" s__law_name a__law_name fd__law_name
  b__law_name : Binds K fd__law_name ["draws"] []
  g__law_name : mg "_law_name" = some (.ref a__law_name)
  a__law_items : Addr
  fd__law_items : FuncData
  F__law_items : Fun K "_law_items" "_law_items" s__law_items a__law_items fd__law_items
  b__law_items : Binds K fd__law_items ["draws", "most"] []
  g__law_items : mg "_law_items" = some (.ref a__law_items)
  a__law_number : Addr
  fd__law_number : FuncData
  F__law_number : Fun K "_law_number" "_law_number" s__law_number a__law_number fd__law_number
  b__law_number : Binds K fd__law_number ["draws"] []
  g__law_number : mg "_law_number" = some (.ref a__law_number)
  a__law_condition : Addr
  fd__law_condition : FuncData
  F__law_condition : Fun K "_law_condition" "_law_condition" s__law_condition a__law_condition fd__law_condition
  b__law_condition : Binds K fd__law_condition ["draws", "depth"] []
  g__law_condition : mg "_law_condition" = some (.ref a__law_condition)
  a__law_part : Addr
  fd__law_part : FuncData
  F__law_part : Fun K "_law_part" "_law_part" s__law_part a__law_part fd__law_part
  b__law_part : Binds K fd__law_part ["condition", "words"] []
  g__law_part : mg "_law_part" = some (.ref a__law_part)
  a__law_written : Addr
  fd__law_written : FuncData
  F__law_written : Fun K "_law_written" "_law_written" s__law_written a__law_written fd__law_written
  b__law_written : Binds K fd__law_written ["condition"] []
  g__law_written : mg "_law_written" = some (.ref a__law_written)
  a__law_changed : Addr
  fd__law_changed : FuncData
  F__law_changed : Fun K "_law_changed" "_law_changed" s__law_changed a__law_changed fd__law_changed
  b__law_changed : Binds K fd__law_changed ["draws", "text"] []
  g__law_changed : mg "_law_changed" = some (.ref a__law_changed)
  a__law_parsed : Addr
  fd__law_parsed : FuncData
  F__law_parsed : Fun K "_law_parsed" "_law_parsed" s__law_parsed a__law_parsed fd__law_parsed
  b__law_parsed : Binds K fd__law_parsed ["text"] []
  g__law_parsed : mg "_law_parsed" = some (.ref a__law_parsed)
  a__law_read : Addr
  fd__law_read : FuncData
  F__law_read : Fun K "_law_read" "_law_read" s__law_read a__law_read fd__law_read
  b__law_read : Binds K fd__law_read ["text"] []
  g__law_read : mg "_law_read" = some (.ref a__law_read)
  a__law_size : Addr
  fd__law_size : FuncData
  F__law_size : Fun K "_law_size" "_law_size" s__law_size a__law_size fd__law_size
  b__law_size : Binds K fd__law_size ["text"] []
  g__law_size : mg "_law_size" = some (.ref a__law_size)
  a_law : Addr
  fd_law : FuncData
  F_law : Fun K "law" "law" s_law a_law fd_law
  b_law : Binds K fd_law ["script"] []
  g_law : mg "law" = some (.ref a_law)
  C_ConditionReader : Addr
  cl_ConditionReader : Cls K C_ConditionReader
  mg_ConditionReader : mg "ConditionReader" = some (.ref C_ConditionReader)
  mk_ConditionReader : Mk K C_ConditionReader a_ConditionReader_init
  na_ConditionReader__tokens : NoAttr K C_ConditionReader "_tokens"
  na_ConditionReader__behind : NoAttr K C_ConditionReader "_behind"
  na_ConditionReader__at : NoAttr K C_ConditionReader "_at"
  na_ConditionReader__depth : NoAttr K C_ConditionReader "_depth"
  me_ConditionReader_whole : Meth K C_ConditionReader "whole" a_ConditionReader_whole
  me_ConditionReader__here : Meth K C_ConditionReader "_here" a_ConditionReader__here
  me_ConditionReader__refuse : Meth K C_ConditionReader "_refuse" a_ConditionReader__refuse
  me_ConditionReader__take : Meth K C_ConditionReader "_take" a_ConditionReader__take
  me_ConditionReader__go_in : Meth K C_ConditionReader "_go_in" a_ConditionReader__go_in
  me_ConditionReader__either : Meth K C_ConditionReader "_either" a_ConditionReader__either
  me_ConditionReader__both : Meth K C_ConditionReader "_both" a_ConditionReader__both
  me_ConditionReader__turned : Meth K C_ConditionReader "_turned" a_ConditionReader__turned
  me_ConditionReader__atom : Meth K C_ConditionReader "_atom" a_ConditionReader__atom
  me_ConditionReader__bracket : Meth K C_ConditionReader "_bracket" a_ConditionReader__bracket
  me_ConditionReader__number : Meth K C_ConditionReader "_number" a_ConditionReader__number
  C_SamphireError : Addr
  mg_SamphireError : mg "SamphireError" = some (.ref C_SamphireError)
  C_TextError : Addr
  a_TextError_init : Addr
  c_TextError : Addr
  cc_TextError : Addr
  x_TextError : Sup.ExcT P K mg "TextError" C_TextError a_TextError_init c_TextError cc_TextError
  doc_TextError : Value
  pm_TextError : Value
  ctv_TextError : Value
  oc_TextError : Value
  od_TextError : Option Addr
  osl_TextError : Array (Option Value)
  lk_TextError : K.lookup a_TextError_init = some ⟨oc_TextError, od_TextError, .func ((NF_TextError cc_TextError c_TextError).fd doc_TextError pm_TextError ctv_TextError), osl_TextError⟩
  hc_TextError : PySem.W.codeIn K (.ref c_TextError) "TextError.__init__" = true
  bx_TextError : Binds K ((NF_TextError cc_TextError c_TextError).fd doc_TextError pm_TextError ctv_TextError) ["self", "line", "column", "reason"] []
  nf_TextError_line : PySem.W.findIn K (.ref C_TextError) "line" = some none
  nf_TextError_column : PySem.W.findIn K (.ref C_TextError) "column" = some none
  nf_TextError_reason : PySem.W.findIn K (.ref C_TextError) "reason" = some none
  C_TooLarge : Addr
  a_TooLarge_init : Addr
  c_TooLarge : Addr
  cc_TooLarge : Addr
  x_TooLarge : Sup.ExcT P K mg "TooLarge" C_TooLarge a_TooLarge_init c_TooLarge cc_TooLarge
  doc_TooLarge : Value
  pm_TooLarge : Value
  ctv_TooLarge : Value
  oc_TooLarge : Value
  od_TooLarge : Option Addr
  osl_TooLarge : Array (Option Value)
  lk_TooLarge : K.lookup a_TooLarge_init = some ⟨oc_TooLarge, od_TooLarge, .func ((NF_TooLarge cc_TooLarge c_TooLarge).fd doc_TooLarge pm_TooLarge ctv_TooLarge), osl_TooLarge⟩
  hc_TooLarge : PySem.W.codeIn K (.ref c_TooLarge) "TooLarge.__init__" = true
  bx_TooLarge : Binds K ((NF_TooLarge cc_TooLarge c_TooLarge).fd doc_TooLarge pm_TooLarge ctv_TooLarge) ["self", "limit"] []
  nf_TooLarge_limit : PySem.W.findIn K (.ref C_TooLarge) "limit" = some none
  z_abs : mg "abs" = none
  z_bool : mg "bool" = none
  z_enumerate : mg "enumerate" = none
  z_int : mg "int" = none
  z_isinstance : mg "isinstance" = none
  z_len : mg "len" = none
  z_list : mg "list" = none
  z_max : mg "max" = none
  z_range : mg "range" = none
  z_reversed : mg "reversed" = none
  z_str : mg "str" = none
  z_sum : mg "sum" = none
  z_super : mg "super" = none
  v_DIGITS : Value
  g_DIGITS : mg "DIGITS" = some v_DIGITS
  r_DIGITS : RelV (.str "0123456789") v_DIGITS
  v_WORD_SIGNS : Value
  g_WORD_SIGNS : mg "WORD_SIGNS" = some v_WORD_SIGNS
  r_WORD_SIGNS : RelV (.str "abcdefghijklmnopqrstuvwxyz0123456789") v_WORD_SIGNS
  v_MOST_IN_NAME : Value
  g_MOST_IN_NAME : mg "MOST_IN_NAME" = some v_MOST_IN_NAME
  r_MOST_IN_NAME : RelV (.int (12)) v_MOST_IN_NAME
  v_MOST_WEIGHT : Value
  g_MOST_WEIGHT : mg "MOST_WEIGHT" = some v_MOST_WEIGHT
  r_MOST_WEIGHT : RelV (.int (1000)) v_MOST_WEIGHT
  v_MOST_AMOUNT : Value
  g_MOST_AMOUNT : mg "MOST_AMOUNT" = some v_MOST_AMOUNT
  r_MOST_AMOUNT : RelV (.int (1000)) v_MOST_AMOUNT
  v_MOST_OPEN : Value
  g_MOST_OPEN : mg "MOST_OPEN" = some v_MOST_OPEN
  r_MOST_OPEN : RelV (.int (20)) v_MOST_OPEN
  v_MOST_NUMBER : Value
  g_MOST_NUMBER : mg "MOST_NUMBER" = some v_MOST_NUMBER
  r_MOST_NUMBER : RelV (.int (1000000)) v_MOST_NUMBER
  v_MOST_CHARACTERS_conditions : Value
  g_MOST_CHARACTERS_conditions : mg "MOST_CHARACTERS_conditions" = some v_MOST_CHARACTERS_conditions
  r_MOST_CHARACTERS_conditions : RelV (.int (2000)) v_MOST_CHARACTERS_conditions
  v_MOST_CHARACTERS_reader : Value
  g_MOST_CHARACTERS_reader : mg "MOST_CHARACTERS_reader" = some v_MOST_CHARACTERS_reader
  r_MOST_CHARACTERS_reader : RelV (.int (100000)) v_MOST_CHARACTERS_reader
  v_MOST_LINES : Value
  g_MOST_LINES : mg "MOST_LINES" = some v_MOST_LINES
  r_MOST_LINES : RelV (.int (1000)) v_MOST_LINES
  v_WORDS_OF_ITEM : Value
  g_WORDS_OF_ITEM : mg "WORDS_OF_ITEM" = some v_WORDS_OF_ITEM
  r_WORDS_OF_ITEM : RelV (.int (4)) v_WORDS_OF_ITEM
  k_COMPARING : Addr
  g_COMPARING : mg "COMPARING" = some (.ref k_COMPARING)
  q_COMPARING : ∀ H, SqT K H k_COMPARING [.str "<", .str "<=", .str "=", .str ">=", .str ">"]
  k_ATOM_WORDS : Addr
  g_ATOM_WORDS : mg "ATOM_WORDS" = some (.ref k_ATOM_WORDS)
  q_ATOM_WORDS : ∀ H, SqT K H k_ATOM_WORDS [.str "all", .str "weight", .str "amount", .str "group", .str "key"]
/-! ### the walk by single steps -/
local macro_rules | `(tactic| walk_at "z1") => `(tactic| first
  | with_reducible refine Z.seq ?_
  | with_reducible refine Z.asg ?_
  | ((with_reducible refine' Z.gname ?zv ?_); (case zv => first | (dsimp only [List.set]; done) | (dsimp only [List.set]; exact rfl)))
  | ((with_reducible refine' Z.var ?zv ?_); (case zv => exact rfl))
  | with_reducible refine Z.cst ?_
  | with_reducible refine Z.op ?_
  | with_reducible refine Z.un ?_
  | with_reducible refine Z.i0 ?_
  | with_reducible refine Z.iU ?_
  | with_reducible refine Z.eqII ?_
  | with_reducible refine Z.neII ?_
  | with_reducible refine Z.eqSS ?_
  | with_reducible refine Z.neSS ?_
  | with_reducible refine Z.eqBB ?_
  | with_reducible refine Z.neBB ?_
  | with_reducible refine Z.bl' ?_
  | with_reducible refine Z.test ?_
  | with_reducible refine Z.tbb ?_
  | with_reducible refine Z.tand ?_
  | with_reducible refine Z.tor ?_
  | with_reducible refine Z.tnot ?_
  | with_reducible refine Z.tyes ?_
  | with_reducible refine Z.andV ?_
  | with_reducible refine Z.orV ?_
  | with_reducible refine Z.notV ?_
  | with_reducible refine Z.ifE ?_
  | with_reducible refine Z.chain ?_
  | with_reducible refine Z.yesB ?_
  | with_reducible refine Z.noB ?_
  | with_reducible refine Z.noNB ?_
  | with_reducible refine Z.yesNB ?_
  | with_reducible refine Z.nil ?_
  | with_reducible refine Z.cons ?_
  | with_reducible refine Z.cb ?_
  | with_reducible refine Z.call ?_
  | with_reducible refine Z.meth ?_
  | with_reducible refine Z.fld ?_
  | with_reducible refine Z.int1 ?_
  | with_reducible refine Z.intb ?_
  | with_reducible refine Z.abs1 ?_
  | with_reducible refine Z.gcons ?_
  | with_reducible refine Z.gnil ?_
  | with_reducible refine Z.gcd ?_
  | ((with_reducible refine' Z.par2 ?zv ?_); (case zv => first | (dsimp only [List.set]; done) | (dsimp only [List.set]; exact rfl)))
  | with_reducible refine Z.isN ?_
  | with_reducible refine Z.notN ?_
  | with_reducible refine Z.inSg ?_
  | with_reducible refine Z.ninSg ?_
  | with_reducible refine Z.tup ?_
  | with_reducible refine Z.lst ?_
  | with_reducible refine Z.gsub ?_
  | with_reducible refine Z.par ?_
  | ((with_reducible refine' Z.aug ?zv ?_); (case zv => exact rfl))
  | with_reducible refine Z.ipI' ?_
  | with_reducible refine Z.ifs ?_
  | with_reducible refine Z.ret ?_
  | with_reducible refine Z.retN ?_
  | with_reducible refine Z.next ?_
  | with_reducible refine Z.brk ?_
  | with_reducible refine Z.drop ?_
  | with_reducible refine Z.bm ?_
  | with_reducible refine Z.bm0 ?_
  | with_reducible refine Z.sfld ?_
  | with_reducible refine Z.sfldaug ?_
  | with_reducible refine Z.radd ?_
  | with_reducible refine Z.make ?_
  | with_reducible refine Z.lc ?_
  | with_reducible refine Z.rng1 ?_
  | with_reducible refine Z.ilist ?_
  | with_reducible refine Z.itup ?_
  | with_reducible refine Z.for_ ?_
  | with_reducible refine Z.istr ?_
  | with_reducible refine Z.ienum ?_
  | with_reducible refine Z.izip ?_
  | with_reducible refine Z.irng2 ?_
  | with_reducible refine Z.augs ?_
  | with_reducible refine Z.ienumS ?_
  | with_reducible refine Z.din ?_
  | with_reducible refine Z.dput ?_
  | with_reducible refine Z.dget ?_
  | with_reducible refine Z.dget2 ?_
  | with_reducible refine Z.sl ?_
  | with_reducible refine Z.slno ?_
  | with_reducible refine Z.slpart ?_
  | with_reducible refine Z.bint ?_
  | with_reducible refine Z.listrev ?_
  | with_reducible refine Z.revl ?_
  | dsimp only)
local macro_rules | `(tactic| walk_at "z0") => `(tactic| ((try simp only [Z.cxK]); (try dsimp only [L2.start, List.map, List.length, Nat.reduceAdd, Nat.reduceSub, List.replicate, List.cons_append, List.nil_append])))
local macro_rules | `(tactic| walk_at "z") => `(tactic| (repeat (walk_at "z1")))

/-! ### signs of texts -/
def signs : Str := "abcdefghijklmnopqrstuvwxyz0123456789"
def allIn (s z : Str) : Bool := s.cps.toList.all fun c => decide (c ∈ z.cps.toList)
def fineB (s : Str) : Bool := decide (1 ≤ s.cps.size) && (decide (s.cps.size ≤ 12) && allIn s signs)
theorem app_len (a b : Str) : (a ++ b).length = a.length + b.length := by
  show (a.cps ++ b.cps).size = _
  rw [Array.size_append]; rfl

/-! ### made_of, is_name -/
def spMade : Sp := fun vs H Q _ => ∃ s z : Str, vs = [.str s, .str z] ∧ Q (.bl (allIn s z)) H
theorem allIn_no {s z : Str} {i c : Nat} (h : s.cps[i]? = some c) (hc : c ∉ z.cps.toList) : allIn s z = false := by
  cases e : allIn s z with
  | false => rfl
  | true =>
    have h1 := List.all_eq_true.mp e c (by
      rw [← Array.getElem?_toList] at h
      exact List.mem_of_getElem? h)
    exact absurd (of_decide_eq_true h1) hc
theorem allIn_yes {s z : Str} (h : ∀ (i c : Nat), i < s.cps.size → s.cps[i]? = some c → c ∈ z.cps.toList) : allIn s z = true := by
  refine List.all_eq_true.mpr fun c hc => decide_eq_true ?_
  obtain ⟨i, hi⟩ := List.getElem?_of_mem hc
  rw [Array.getElem?_toList] at hi
  exact h i c (Array.getElem?_eq_some_iff.mp hi).1 hi
theorem ok_made_of {P : Program} {w : World} {K : PySem.W.Frag} {mg : Str → Option Value} {base : Heap} (T : T P K mg) : FnOk P w K mg base CX0 1 T.a_made_of T.fd_made_of ["text", "signs"] spMade := by
  refine T.F_made_of.ok sc_made_of (fun vs H Q E h => ?_) (fun cdv A outer s H vs Q E hr h => ?_)
  · obtain ⟨s, z, rfl, _⟩ := h
    rfl
  · obtain ⟨s, z, rfl, q⟩ := h
    refine ⟨_, (pss_cons (ps_for PassesOwn.never rfl (pi_str (pv 0)) (pg_name (i := 2) sc_made_of.nd rfl (by first | exact Or.inl rfl | exact Or.inr rfl)) (pss_one (ps_if (pt_cmpR o_ninSg (pv 2) (pv 1) rfl) (pss_one (ps_ret pe_bl)) pss_nil)))
      (pss_one (ps_ret pe_bl))), ?_⟩
    walk_at "z0"
    walk_at "z"
    refine Z.fors (fun i σ' H' => ∃ y, σ' = [some (.str s), some (.str z), y] ∧ H' = H ∧ ∀ (j c : Nat), j < i → s.cps[j]? = some c → c ∈ z.cps.toList) ⟨_, rfl, rfl, fun _ _ h => by omega⟩ ?_ ?_
    · rintro i c σ' H' hc ⟨y, rfl, rfl, hi⟩
      walk_at "z"
      refine Z.iteN (fun h1 => ?_) (fun h1 => ?_)
      · walk_at "z"
        rw [allIn_no hc h1] at q
        exact q
      · walk_at "z"
        refine ⟨_, rfl, rfl, fun j d hj hd => ?_⟩
        by_cases e : j = i
        · subst e
          rw [hc] at hd
          cases hd
          exact h1
        · exact hi j d (by omega) hd
    · rintro σ' H' ⟨y, rfl, rfl, hi⟩
      walk_at "z"
      rw [allIn_yes hi] at q
      exact q
def spIsName : Sp := fun vs H Q _ => ∃ s : Str, vs = [.str s] ∧ s.cps.size ≤ 100000 ∧ Q (.bl (fineB s)) H
theorem ok_is_name {P : Program} {w : World} {K : PySem.W.Frag} {mg : Str → Option Value} {base : Heap} (T : T P K mg) : FnOk P w K mg base CX0 2 T.a_is_name T.fd_is_name ["text"] spIsName := by
  refine T.F_is_name.ok sc_is_name (fun vs H Q E h => ?_) (fun cdv A outer s H vs Q E hr h => ?_)
  · obtain ⟨s, rfl, _⟩ := h
    rfl
  · obtain ⟨s, rfl, hz, q⟩ := h
    refine ⟨_, (pss_one (ps_ret (pe_and (pe_chain op_le op_le pe_int (pe_callB c_lens (by rfl) T.z_len (by decide +kernel) (pa_cons (pv 0) pa_nil)) (pe_glob (by rfl) T.g_MOST_IN_NAME T.r_MOST_IN_NAME)) (pe_one (pe_call (ok_made_of T) (hr.mono (by decide)) (by rfl) T.g_made_of T.F_made_of.kp T.b_made_of .nil pass0 (pa_cons (pv 0) (pa_cons (pe_glob (by rfl) T.g_WORD_SIGNS T.r_WORD_SIGNS) pa_nil))))))), ?_⟩
    unfold fineB at q
    walk_at "z0"
    walk_at "z"
    refine Z.lenS (by omega) ?_
    walk_at "z"
    refine Z.ite (fun h1 => ?_) (fun h1 => ?_)
    · rw [decide_eq_true (by omega : 1 ≤ s.cps.size)] at q
      walk_at "z"
      refine Z.ite (fun h2 => ?_) (fun h2 => ?_)
      · rw [decide_eq_true (by omega : s.cps.size ≤ 12)] at q
        walk_at "z"
        exact ⟨s, _, rfl, q⟩
      · rw [decide_eq_false (by omega : ¬ s.cps.size ≤ 12)] at q
        walk_at "z"
        exact q
    · rw [decide_eq_false (by omega : ¬ 1 ≤ s.cps.size)] at q
      walk_at "z"
      exact q

/-! ### writes_integer, integer_within -/
def digits10 : Str := "0123456789"
def bodyOf (w : Str) : Str := if Txt.startswith w "-" then cutS w (some 1) none else w
def firstIs0 (s : Str) : Bool := decide ((⟨#[s.cps.toList.headD 0]⟩ : Str) = "0")
def intW (w : Str) : Bool := if w = "0" then true else !decide (bodyOf w = "") && (!firstIs0 (bodyOf w) && allIn (bodyOf w) digits10)
theorem dig_iff (c : Nat) : c ∈ digits10.cps.toList ↔ 48 ≤ c ∧ c ≤ 57 := by
  have e : digits10.cps.toList = [48, 49, 50, 51, 52, 53, 54, 55, 56, 57] := by decide +kernel
  rw [e]
  simp only [List.mem_cons, List.not_mem_nil, or_false]
  omega
theorem cps_nil {s : Str} (h : s.cps.toList = []) : s = "" := by
  have e : s.cps = #[] := by
    apply Array.toList_inj.mp
    rw [h]
  cases s
  cases e
  decide +kernel
theorem starts_minus (w : Str) : Txt.startswith w "-" = true ↔ ∃ cs, w.cps.toList = 45 :: cs := by
  rw [show ("-" : Str) = ⟨#[45]⟩ by decide +kernel]
  unfold Txt.startswith
  rw [Bool.and_eq_true, decide_eq_true_eq]
  refine (PySem.StrLaws.subAt_one w 45 0).trans ?_
  cases w.cps.toList with
  | nil => simp
  | cons c r => simp
theorem body_minus {w : Str} {cs : List Nat} (h : w.cps.toList = 45 :: cs) : (bodyOf w).cps.toList = cs := by
  have h1 := (starts_minus w).mpr ⟨cs, h⟩
  unfold bodyOf
  rw [if_pos h1]
  unfold cutS
  have hl : w.length = cs.length + 1 := by
    show w.cps.size = _
    rw [← Array.length_toList, h, List.length_cons]
  have e1 : HT.sIx w.length 0 (some 1) = 1 := by
    have := HT.sIx_nat w.length 0 1
    rw [show (some (1 : Int)) = some ((1 : Nat) : Int) from rfl, this]
    omega
  rw [e1, HT.sIx_none, h]
  show ((45 :: cs).drop 1).take (w.length - 1) = cs
  rw [List.drop_one, List.tail_cons]
  exact List.take_of_length_le (by omega)
theorem body_plain {w : Str} (h : ¬ ∃ cs, w.cps.toList = 45 :: cs) : bodyOf w = w := by
  unfold bodyOf
  rw [if_neg (fun z => h ((starts_minus w).mp z))]
theorem intW_reads {w : Str} (h : intW w = true) (hl : w.length ≤ 640) : ∃ n, intText? w = some n := by
  unfold intW at h
  by_cases h0 : w = "0"
  · rw [h0]
    exact ⟨0, by decide +kernel⟩
  · rw [if_neg h0, Bool.and_eq_true, Bool.and_eq_true] at h
    obtain ⟨h1, _, h3⟩ := h
    have hd : NumText.AllDigits (bodyOf w).cps.toList := fun c hc => (dig_iff c).mp (of_decide_eq_true (List.all_eq_true.mp h3 c hc))
    have hn : (bodyOf w).cps.toList ≠ [] := fun z => by
      rw [cps_nil z] at h1
      exact absurd h1 (by decide +kernel)
    by_cases hm : ∃ cs, w.cps.toList = 45 :: cs
    · obtain ⟨cs, hcs⟩ := hm
      rw [body_minus hcs] at hd hn
      exact ⟨_, intText_neg hcs hd hn (by omega)⟩
    · rw [body_plain hm] at hd hn
      exact ⟨_, intText_digits hd hn (by omega)⟩
theorem tyStr {K : PySem.W.Frag} {H : Hp} {w : Str} : tyV K "str" (.str w) H := by
  first | exact .inr (.inl ⟨rfl, w, rfl⟩) | trivial | simp [tyV]
def spWrites : Sp := fun vs H Q _ => ∃ w : Str, vs = [.str w] ∧ w.length ≤ 10000000 ∧ Q (.bl (intW w)) H
theorem first_at {s : Str} (h : ¬ s = "") : atI s.cps.toList 0 = some (s.cps.toList.headD 0) := by
  have := cps_nil (s := s)
  cases e : s.cps.toList with
  | nil => exact absurd (this e) h
  | cons c r => exact atI_nat (j := 0) rfl
theorem bodyOf_len (w : Str) : (bodyOf w).length ≤ w.length := by
  unfold bodyOf
  split
  · exact cutS_length _ _ _
  · exact Nat.le_refl _
theorem ok_writes_integer {P : Program} {w : World} {K : PySem.W.Frag} {mg : Str → Option Value} {base : Heap} (T : T P K mg) : FnOk P w K mg base CX0 2 T.a_writes_integer T.fd_writes_integer ["word"] spWrites := by
  refine T.F_writes_integer.ok sc_writes_integer (fun vs H Q E h => ?_) (fun cdv A outer s H vs Q E hr h => ?_)
  · obtain ⟨w, rfl, _⟩ := h
    rfl
  · obtain ⟨w, rfl, hz, q⟩ := h
    refine ⟨_, (pss_cons (ps_if (pt_cmpR op_eq (pv 0) pe_str (nomark _)) (pss_one (ps_ret pe_bl)) pss_nil)
      (pss_cons (ps_set (i := 1) sc_writes_integer.nd rfl (by first | exact Or.inl rfl | exact Or.inr rfl) (pv 0))
      (Z.pss_consJ (ps_if (pt_val (pe_bm PySem.F.plainAttrs_str PySem.F.slot_str_startswith PySem.F.type_str_startswith mt_startswith (pv 0) (pa_cons pe_str pa_nil))) (pss_one (ps_set (i := 1) sc_writes_integer.nd rfl (by first | exact Or.inl rfl | exact Or.inr rfl) (pe_slice sl_str (pv 0) (po_some pe_int) po_none))) pss_nil)
      (pss_one (ps_ret (pe_and (pe_cmpR op_ne (pv 1) pe_str (nomark _)) (pe_and (pe_cmpR op_ne (pe_ix ix_str (pv 1) pe_int (fun _ _ => rfl)) pe_str (nomark _)) (pe_one (pe_call (ok_made_of T) (hr.mono (by decide)) (by rfl) T.g_made_of T.F_made_of.kp T.b_made_of .nil pass0 (pa_cons (pv 1) (pa_cons (pe_glob (by rfl) T.g_DIGITS T.r_DIGITS) pa_nil))))))))))), ?_⟩
    unfold intW at q
    walk_at "z0"
    walk_at "z"
    have hsz : ∀ n, n ≤ 10000000 → n ≤ sizeLine := fun n h => Nat.le_trans h (by decide)
    refine Z.ite (fun h1 => ?_) (fun h1 => ?_)
    · rw [if_pos h1] at q
      walk_at "z"
      exact q
    · rw [if_neg h1] at q
      walk_at "z"
      refine Z.seqJ (fun σ' H' => σ' = [some (.str w), some (.str (bodyOf w))] ∧ H' = H) ?_ ?_
      · rintro σ' H' ⟨rfl, rfl⟩
        have hb := bodyOf_len w
        walk_at "z"
        refine Z.iteN (fun h2 => ?_) (fun h2 => ?_)
        · rw [decide_eq_false h2] at q
          walk_at "z"
          refine ⟨_, 0, _, rfl, rfl, hsz _ (by omega), first_at h2, ?_⟩
          walk_at "z"
          cases hf : firstIs0 (bodyOf w) with
          | true =>
            rw [hf] at q
            unfold firstIs0 at hf
            rw [hf]
            walk_at "z"
            exact q
          | false =>
            rw [hf] at q
            unfold firstIs0 at hf
            rw [hf]
            walk_at "z"
            exact ⟨_, _, rfl, q⟩
        · rw [decide_eq_true h2] at q
          walk_at "z"
          exact q
      · intro N jn
        walk_at "z"
        refine ⟨tyStr, ?_⟩
        walk_at "z"
        refine ⟨w, "-", rfl, rfl, ?_⟩
        walk_at "z"
        cases hm : Txt.startswith w "-" with
        | true =>
          walk_at "z"
          refine ⟨w, rfl, hsz _ hz, ?_⟩
          walk_at "z"
          exact jn _ _ ⟨by unfold bodyOf; rw [if_pos hm], rfl⟩
        | false =>
          walk_at "z"
          exact jn _ _ ⟨by unfold bodyOf; rw [if_neg (by rw [hm]; decide)], rfl⟩
def tlen (i : Int) : Nat := (Str.ofString (toString i)).cps.size
def capOf (lo hi : Int) : Int := if (tlen hi : Int) > (tlen lo : Int) then (tlen hi : Int) else (tlen lo : Int)
def withinO (w : Str) (lo hi : Int) : Option Int :=
  if (w.cps.size : Int) > capOf lo hi then none else if intW w = true then match intText? w with
    | some n => if lo ≤ n ∧ n ≤ hi then some n else none
    | none => none
  else none
def optI : Option Int → V
  | none => .non
  | some n => .int n
theorem optI_non (o : Option Int) : decide (optI o = .non) = o.isNone := by cases o <;> simp [optI]
def spWithin : Sp := fun vs H Q _ => ∃ (w : Str) (lo hi : Int), vs = [.str w, .int lo, .int hi] ∧ w.cps.size ≤ 10000000 ∧ lo.natAbs < 2 ^ 30 ∧ hi.natAbs < 2 ^ 30 ∧ tlen lo ≤ 600 ∧ tlen hi ≤ 600 ∧ Q (optI (withinO w lo hi)) H
theorem ok_integer_within {P : Program} {w : World} {K : PySem.W.Frag} {mg : Str → Option Value} {base : Heap} (T : T P K mg) : FnOk P w K mg base CX0 3 T.a_integer_within T.fd_integer_within ["word", "low", "high"] spWithin := by
  refine T.F_integer_within.ok sc_integer_within (fun vs H Q E h => ?_) (fun cdv A outer s H vs Q E hr h => ?_)
  · obtain ⟨w, lo, hi, rfl, _⟩ := h
    rfl
  · obtain ⟨w, lo, hi, rfl, hz, hlo, hhi, tlo, thi, q⟩ := h
    refine ⟨_, (pss_cons (ps_if (PW.pt (pw_or (pt_cmpR op_gt (pe_callB c_lens (by rfl) T.z_len (by decide +kernel) (pa_cons (pv 0) pa_nil)) (pe_callB (call_max2 rfl) (by rfl) T.z_max (by decide +kernel) (pa_cons (pe_callB c_lens (by rfl) T.z_len (by decide +kernel) (pa_cons (pe_callTy call_str_int (by rfl) T.z_str (by decide +kernel) (pa_cons (pv 1) pa_nil)) pa_nil)) (pa_cons (pe_callB c_lens (by rfl) T.z_len (by decide +kernel) (pa_cons (pe_callTy call_str_int (by rfl) T.z_str (by decide +kernel) (pa_cons (pv 2) pa_nil)) pa_nil)) pa_nil))) (nomark _)) (pw_or1 (pt_not (pt_val (pe_call (ok_writes_integer T) (hr.mono (by decide)) (by rfl) T.g_writes_integer T.F_writes_integer.kp T.b_writes_integer .nil pass0 (pa_cons (pv 0) pa_nil))))))) (pss_one (ps_ret pe_non)) pss_nil)
      (pss_cons (ps_set (i := 3) sc_integer_within.nd rfl (by first | exact Or.inl rfl | exact Or.inr rfl) (pe_callTy call_int_str (by rfl) T.z_int (by decide +kernel) (pa_cons (pv 0) pa_nil)))
      (Z.pss_consJ (ps_if (pt_chain op_le op_le (pv 1) (pv 3) (pv 2)) (pss_one (ps_ret (pv 3))) pss_nil)
      (pss_one (ps_ret pe_non))))), ?_⟩
    have llo : lo.natAbs.log2 < 1920 := Nat.lt_of_lt_of_le (PySem.Flt.log2_lt_of (k := 30) (by decide) hlo) (by decide)
    have lhi : hi.natAbs.log2 < 1920 := Nat.lt_of_lt_of_le (PySem.Flt.log2_lt_of (k := 30) (by decide) hhi) (by decide)
    unfold withinO at q
    walk_at "z0"
    walk_at "z"
    refine Z.lenS hz ?_
    walk_at "z"
    refine ⟨lo, rfl, llo, ?_⟩
    walk_at "z"
    refine Z.lenS (Nat.le_trans tlo (by decide)) ?_
    walk_at "z"
    refine ⟨hi, rfl, lhi, ?_⟩
    walk_at "z"
    refine Z.lenS (Nat.le_trans thi (by decide)) ?_
    walk_at "z"
    refine ⟨_, _, rfl, ?_⟩
    walk_at "z"
    have hcap : capOf lo hi ≤ 600 := by
      unfold capOf
      split <;> omega
    refine Z.ite (fun h1 => ?_) (fun h1 => ?_)
    · rw [if_pos (show (w.cps.size : Int) > capOf lo hi from h1)] at q
      walk_at "z"
      exact q
    · have h1' : ¬ (w.cps.size : Int) > capOf lo hi := h1
      rw [if_neg h1'] at q
      walk_at "z"
      refine ⟨w, rfl, hz, ?_⟩
      walk_at "z"
      cases hw : intW w with
      | false =>
        rw [hw, if_neg Bool.false_ne_true] at q
        walk_at "z"
        exact q
      | true =>
        rw [hw, if_pos rfl] at q
        have hl : w.length ≤ 640 := by
          show w.cps.size ≤ 640
          omega
        obtain ⟨n, hn⟩ := intW_reads hw hl
        rw [hn] at q
        dsimp only at q
        walk_at "z"
        refine ⟨w, n, rfl, hn, hl, ?_⟩
        walk_at "z"
        refine Z.seqJ (fun σ' H' => H' = H ∧ ¬ (lo ≤ n ∧ n ≤ hi)) ?_ ?_
        · rintro σ' H' ⟨rfl, hno⟩
          rw [if_neg hno] at q
          walk_at "z"
          exact q
        · intro N jn
          walk_at "z"
          refine Z.ite (fun h3 => ?_) (fun h3 => ?_)
          · walk_at "z"
            refine Z.ite (fun h4 => ?_) (fun h4 => ?_)
            · rw [if_pos ⟨h3, h4⟩] at q
              walk_at "z"
              exact q
            · walk_at "z"
              exact jn _ _ ⟨rfl, fun z => h4 z.2⟩
          · walk_at "z"
            exact jn _ _ ⟨rfl, fun z => h3 z.1⟩

/-! ### sums of lists of ints -/
theorem sum_nonneg : ∀ {l : List Int}, (∀ n ∈ l, 0 ≤ n) → 0 ≤ l.sum
  | [], _ => by simp
  | a :: r, h => by
    have h1 := h a (by simp)
    have h2 := sum_nonneg (l := r) fun n hn => h n (by simp [hn])
    rw [List.sum_cons]
    omega
theorem sum_le {c : Int} : ∀ {l : List Int}, (∀ n ∈ l, n ≤ c) → l.sum ≤ c * l.length
  | [], _ => by simp
  | a :: r, h => by
    have h1 := h a (by simp)
    have h2 := sum_le (c := c) (l := r) fun n hn => h n (by simp [hn])
    rw [List.sum_cons, List.length_cons, show c * ((r.length + 1 : Nat) : Int) = c * r.length + c by rw [Int.natCast_add, Int.mul_add]; simp]
    omega
theorem sum_ge_mem : ∀ {l : List Int}, (∀ n ∈ l, 0 ≤ n) → ∀ x ∈ l, x ≤ l.sum
  | [], _, x, hx => by simp at hx
  | a :: r, h, x, hx => by
    have h1 := h a (by simp)
    have h3 := sum_nonneg (l := r) fun n hn => h n (by simp [hn])
    rw [List.sum_cons]
    rcases List.mem_cons.mp hx with e | e
    · omega
    · have h2 := sum_ge_mem (l := r) (fun n hn => h n (by simp [hn])) x e
      omega
theorem take_nonneg {l : List Int} (h : ∀ n ∈ l, 0 ≤ n) (i : Nat) : 0 ≤ (l.take i).sum := sum_nonneg fun n hn => h n (List.mem_of_mem_take hn)
/-! ### lists of ints as data -/
theorem layInts : ∀ ws : List Int, PyData.canLayAll0 (ws.map PyData.int) = true
  | [] => by simp [PyData.canLayAll0]
  | w :: r => by simp [PyData.canLayAll0, PyData.canLay0, layInts r]
theorem depthInts : ∀ ws : List Int, PyData.depthAll (ws.map PyData.int) = 0
  | [] => by simp [PyData.depthAll]
  | w :: r => by simp [PyData.depthAll, PyData.depth, depthInts r]
theorem shInts (ws : List Int) : SeqAt.shaped (.list (ws.map PyData.int)) = true := by
  simp [SeqAt.shaped, PyData.canLay0, PyData.depth, layInts, depthInts]
theorem dpInts {K : PySem.W.Frag} {H : Hp} : ∀ ws : List Int, DpAll K H (ws.map V.int) (ws.map PyData.int)
  | [] => .nil
  | w :: r => .cons (.int w) (dpInts r)
theorem dpI {K : PySem.W.Frag} {H : Hp} {a : Addr} {ws : List Int} (h : SqL K H a (ws.map V.int)) : Dp K H (.ref a) (.list (ws.map PyData.int)) := .lst h (dpInts ws)
theorem eqvI (ws : List Int) : PyData.eqv (.list (ws.map PyData.int)) (.list (ws.map PyData.int)) = true := SeqAt.eqv_refl _ (by simp [PyData.canLay0, layInts])
theorem neLL {K : PySem.W.Frag} {H : Hp} {Q : VK} {a b : Addr} {ws : List Int} (h1 : SqL K H a (ws.map V.int)) (h2 : SqL K H b (ws.map V.int)) (q : Q (.bl false) H) : rNeD K (.ref a) (.ref b) H Q :=
  ⟨_, _, dpI h1, dpI h2, shInts _, shInts _, by rw [eqvI]; exact q⟩
theorem eqLL {K : PySem.W.Frag} {H : Hp} {Q : VK} {a b : Addr} {ws : List Int} (h1 : SqL K H a (ws.map V.int)) (h2 : SqL K H b (ws.map V.int)) (q : Q (.bl true) H) : rEqD K (.ref a) (.ref b) H Q :=
  ⟨_, _, dpI h1, dpI h2, shInts _, shInts _, by rw [eqvI]; exact q⟩

/-! ### errors of samphire.errors with fields -/
/-- what an own __init__ with fields does: ok says what it is called with, fl which fields it keeps -/
def spErr (C : Addr) (ok : List V → Prop) (fl : List V → List (Str × V)) : Sp := fun vs H Q _ => ∃ (a : Addr) (ws : List V), vs = .ref a :: ws ∧ ok ws ∧ H a = some (exo a C none) ∧
  ∀ d H', H d = none → d ≠ a → H' a = some (exo a C (some d)) → H' d = some (exd d (fl ws)) → (∀ b, b ≠ a → b ≠ d → H' b = H b) → Q .non H'
theorem err_heap {H H' : Hp} {a d : Addr} {o : HO} (ha : H a = none) (h : ∀ b, b ≠ a → b ≠ d → H' b = H b) : upd (del H' a) d o = upd H d o := by
  funext b
  by_cases hd : b = d
  · rw [hd, upd_same, upd_same]
  · rw [upd_ne hd, upd_ne hd]
    by_cases hb : b = a
    · rw [hb, del_same, ha]
    · rw [del_ne hb, h b hb hd]
/-- raise C(..) -/
theorem mkErr {C : Addr} {ok : List V → Prop} {fl : List V → List (Str × V)} {ta : TA} {σ : L2.St} {H : Hp} {Q : XK} (h : ta σ H fun vs H1 => vs.length ≤ 1000 ∧ ok vs ∧ ∀ d, H1 d = none → Q (.ref C) (some d) (upd H1 d (.xd (fl vs)))) (mono : ∀ {R S : List V → Hp → Prop}, (∀ v u, R v u → S v u) → ta σ H R → ta σ H S) : tMkO C (spErr C ok fl) [] ta σ H Q := by
  refine mono ?_ h
  rintro vs H1 ⟨hz, hok, q⟩
  refine ⟨hz, fun a ha => ⟨a, vs, by rw [List.append_nil], hok, upd_same, fun d H' hd hda h1 h2 h3 => ⟨rfl, d, fl vs, h1, h2, ?_, ?_⟩⟩⟩
  · rwa [upd_ne hda] at hd
  · rw [err_heap ha fun b hb hd => by rw [h3 b hb hd, upd_ne hb]]
    refine q d ?_
    rwa [upd_ne hda] at hd
def okWord (ws : List V) : Prop := ∃ s : Str, ws = [.str s] ∧ s.length ≤ 1000
def flOne (f : Str) : List V → List (Str × V)
  | [v] => [(f, v)]
  | _ => []
theorem ok_TooLarge_init {P : Program} {w : World} {K : PySem.W.Frag} {mg : Str → Option Value} {base : Heap} (T : T P K mg) : FnOk P w K mg base CX0 1 T.a_TooLarge_init ((NF_TooLarge T.cc_TooLarge T.c_TooLarge).fd T.doc_TooLarge T.pm_TooLarge T.ctv_TooLarge) ["self", "limit"] (spErr T.C_TooLarge okWord (flOne "limit")) := by
  refine Sup.fn_super (F := NF_TooLarge T.cc_TooLarge T.c_TooLarge) (p := "self") (ps' := ["limit"]) T.x_TooLarge.S T.lk_TooLarge rfl T.hc_TooLarge sc_TooLarge_init rfl ⟨_, rfl, rfl⟩ rfl rfl (fun _ => rfl) (fun _ => ⟨_, rfl⟩) (fun _ => rfl) (fun vs H Q E h => ?_) (fun A outer s H vs Q E hr h => ?_)
  · obtain ⟨a, ws, rfl, ⟨s, rfl, _⟩, _⟩ := h
    rfl
  · obtain ⟨a, ws, rfl, ⟨s, rfl, hz⟩, ha, q⟩ := h
    refine ⟨a, [.str s], _, _, rfl, ha, pa_cons (pe_joined (.cons pe_str (.cons (pe_fmt (pv 1)) .nil))) pa_nil, pss_one (ps_ost (pv 0) (pv 1)), ?_⟩
    refine ⟨_, rfl, ?_, V.str s, rfl, .inl ⟨s, rfl, Nat.le_trans hz (by decide), s, rfl, ?_, ?_⟩⟩
    · decide +kernel
    · rw [app_len]
      refine Nat.le_trans (Nat.add_le_add (Nat.le_of_eq (show _ = 11 by decide +kernel)) hz) (by decide)
    refine ⟨by show 1 ≤ 1000; decide, ha, V.str s, rfl, V.ref a, rfl, a, T.C_TooLarge, rfl, T.x_TooLarge.S.T, T.nf_TooLarge_limit, .inl ⟨ha, fun d hd hda => ?_⟩⟩
    exact q d _ hd hda upd_same (by rw [upd_ne hda]; exact upd_same) (fun b hb hb2 => by rw [upd_ne hb, upd_ne hb2])
def okText (ws : List V) : Prop := ∃ (l c : Nat) (s : Str), ws = [.int (l : Int), .int (c : Int), .str s] ∧ l < 1000000000 ∧ c < 1000000000 ∧ s.length ≤ 1000
def flText : List V → List (Str × V)
  | [l, c, r] => [("reason", r), ("column", c), ("line", l)]
  | _ => []
theorem num_len {n : Nat} (h : n < 1000000000) : (Str.ofString (toString (n : Int))).length ≤ 9 := by
  have e := TL.tl_num n
  have h1 := TL.numL_len (n := n) (k := 9) (by decide) h
  rw [← e] at h1
  exact h1
theorem num_log {n : Nat} (h : n < 1000000000) : ((n : Nat) : Int).natAbs.log2 < 1920 := by
  rw [Int.natAbs_natCast]
  exact Nat.lt_of_lt_of_le (PySem.Flt.log2_lt_of (k := 30) (by decide) (Nat.lt_of_lt_of_le h (by decide))) (by decide)
theorem ok_TextError_init {P : Program} {w : World} {K : PySem.W.Frag} {mg : Str → Option Value} {base : Heap} (T : T P K mg) : FnOk P w K mg base CX0 1 T.a_TextError_init ((NF_TextError T.cc_TextError T.c_TextError).fd T.doc_TextError T.pm_TextError T.ctv_TextError) ["self", "line", "column", "reason"] (spErr T.C_TextError okText flText) := by
  refine Sup.fn_super (F := NF_TextError T.cc_TextError T.c_TextError) (p := "self") (ps' := ["line", "column", "reason"]) T.x_TextError.S T.lk_TextError rfl T.hc_TextError sc_TextError_init rfl ⟨_, rfl, rfl⟩ rfl rfl (fun _ => rfl) (fun _ => ⟨_, rfl⟩) (fun _ => rfl) (fun vs H Q E h => ?_) (fun A outer s H vs Q E hr h => ?_)
  · obtain ⟨a, ws, rfl, ⟨l, c, s, rfl, _⟩, _⟩ := h
    rfl
  · obtain ⟨a, ws, rfl, ⟨l, c, s, rfl, hl, hc, hz⟩, ha, q⟩ := h
    refine ⟨a, [.int l, .int c, .str s], _, _, rfl, ha, pa_cons (pe_joined (.cons pe_str (.cons (pe_fmt (pv 1)) (.cons pe_str (.cons (pe_fmt (pv 2)) (.cons pe_str (.cons (pe_fmt (pv 3)) .nil))))))) pa_nil, pss_cons (ps_ost (pv 0) (pv 1)) (pss_cons (ps_ost (pv 0) (pv 2)) (pss_one (ps_ost (pv 0) (pv 3)))), ?_⟩
    have nl := num_len hl
    have nc := num_len hc
    have z0 : (Str.empty ++ ("line " : Str)).length = 5 := by decide +kernel
    have z1 : (", column " : Str).length = 9 := by decide +kernel
    have z2 : (": " : Str).length = 2 := by decide +kernel
    have zl : 100000 ≤ sizeLine := by decide
    refine ⟨_, rfl, ?_, V.int l, rfl, .inr ⟨l, rfl, num_log hl, _, rfl, ?_, _, rfl, ?_, V.int c, rfl, .inr ⟨c, rfl, num_log hc, _, rfl, ?_, _, rfl, ?_, V.str s, rfl, .inl ⟨s, rfl, by omega, s, rfl, ?_, ?_⟩⟩⟩⟩
    · decide +kernel
    · rw [app_len, z0]; omega
    · rw [app_len, app_len, z0, z1]; omega
    · rw [app_len, app_len, app_len, z0, z1]; omega
    · rw [app_len, app_len, app_len, app_len, z0, z1, z2]; omega
    · rw [app_len, app_len, app_len, app_len, app_len, z0, z1, z2]; omega
    refine ⟨by show 1 ≤ 1000; decide, ha, V.int l, rfl, V.ref a, rfl, a, T.C_TextError, rfl, T.x_TextError.S.T, T.nf_TextError_line, .inl ⟨ha, fun d hd hda => ?_⟩⟩
    have e1 : (upd (upd H d (exd d [(("line" : Str), V.int l)])) a (exo a T.C_TextError (some d))) a = some (exo a T.C_TextError (some d)) := upd_same
    have e2 : (upd (upd H d (exd d [(("line" : Str), V.int l)])) a (exo a T.C_TextError (some d))) d = some (exd d [(("line" : Str), V.int l)]) := by rw [upd_ne hda]; exact upd_same
    have e3 : ∀ b, b ≠ a → b ≠ d → (upd (upd H d (exd d [(("line" : Str), V.int l)])) a (exo a T.C_TextError (some d))) b = H b := fun b hb hb2 => by rw [upd_ne hb, upd_ne hb2]
    revert e1 e2 e3
    generalize upd (upd H d (exd d [(("line" : Str), V.int l)])) a (exo a T.C_TextError (some d)) = H1
    intro e1 e2 e3
    refine ⟨V.int c, rfl, V.ref a, rfl, a, T.C_TextError, rfl, T.x_TextError.S.T, T.nf_TextError_column, .inr ⟨d, _, e1, e2, by show 1 ≤ 900; decide, ?_⟩⟩
    refine ⟨V.str s, rfl, V.ref a, rfl, a, T.C_TextError, rfl, T.x_TextError.S.T, T.nf_TextError_reason, .inr ⟨d, _, (upd_ne hda.symm).trans e1, upd_same, by show 2 ≤ 900; decide, ?_⟩⟩
    refine q d _ hd hda ?_ ?_ ?_
    · rw [upd_ne hda.symm, upd_ne hda.symm]; exact e1
    · rw [upd_same]; rfl
    · intro b hb hb2
      rw [upd_ne hb2, upd_ne hb2]
      exact e3 b hb hb2

/-! ### the draws of a law: _law_draws, _law_take -/
/-- draws stand at a -/
def DrawsAt (H : Hp) (a : Addr) : Prop := ∃ ns : List Int, H a = some (.lst (ns.map V.int))
theorem DrawsAt.ne {H : Hp} {a l : Addr} (d : DrawsAt H a) (h : H l = none) : a ≠ l := ne_of_none d.choose_spec h
theorem DrawsAt.kp {M : List Addr} {H H' : Hp} {a : Addr} (d : DrawsAt H a) (k : Kp M H H') (n : a ∉ M) : DrawsAt H' a := let ⟨ns, h⟩ := d; ⟨ns, k _ _ n h⟩
theorem DrawsAt.kp0 {H H' : Hp} {a : Addr} (d : DrawsAt H a) (k : Kp [] H H') : DrawsAt H' a := d.kp k nin0
theorem DrawsAt.put {H : Hp} {a b : Addr} {o : HO} (d : DrawsAt H a) (n : a ≠ b) : DrawsAt (upd H b o) a := let ⟨ns, h⟩ := d; ⟨ns, (upd_ne n).trans h⟩
def spTake (K : PySem.W.Frag) : Sp := fun vs H Q _ => ∃ (a : Addr) (m : Int), vs = [.ref a, .int m] ∧ DrawsAt H a ∧ 1 ≤ m ∧ m < 18446744073709551616 ∧ ∀ H' v, 0 ≤ v → v < m → Kp [a] H H' → DrawsAt H' a → Q (.int v) H'
theorem ok__law_take {P : Program} {w : World} {K : PySem.W.Frag} {mg : Str → Option Value} {base : Heap} (T : T P K mg) : FnOk P w K mg base CX0 1 T.a__law_take T.fd__law_take ["draws", "bound"] (spTake K) := by
  refine T.F__law_take.ok sc__law_take (fun vs H Q E h => ?_) (fun cdv A outer s H vs Q E hr h => ?_)
  · obtain ⟨a, m, rfl, _⟩ := h
    rfl
  · obtain ⟨a, m, rfl, ⟨ns, ha⟩, h0, h1, q⟩ := h
    refine ⟨_, (pss_cons (ps_if (pt_cmpR op_eq (pe_callB c_len (by rfl) T.z_len (by decide +kernel) (pa_cons (pv 0) pa_nil)) pe_int (nomark _)) (pss_one (ps_ret pe_int)) pss_nil)
      (pss_one (ps_ret (pe_op op_mod (pe_callTy c_int (by rfl) T.z_int (by decide +kernel) (pa_cons (pe_bm0 PySem.F.plainAttrs_list PySem.F.slot_list_pop PySem.F.type_list_pop mt_pop (pv 0)) pa_nil)) (pv 1))))), ?_⟩
    walk_at "z0"
    walk_at "z"
    refine Z.lenL (lstL ha) ?_
    walk_at "z"
    refine Z.ite (fun h2 => ?_) (fun h2 => ?_)
    · walk_at "z"
      exact q _ _ (by omega) (by omega) (Kp.refl _) ⟨ns, ha⟩
    · walk_at "z"
      refine ⟨Z.tyL ha, ?_⟩
      have hl : 0 < ns.length := by
        rw [List.length_map] at h2
        omega
      have hi : ns.length - 1 < ns.length := by omega
      refine Z.pop ha (y := .int ns[ns.length - 1]) (by rw [List.length_map, List.getElem?_map, List.getElem?_eq_getElem hi]; rfl) ?_
      walk_at "z"
      refine Z.iC (by omega) ?_
      exact q _ _ (Int.emod_nonneg _ (by omega)) (Int.emod_lt_of_pos _ (by omega)) (Kp.put (by simp)) ⟨ns.dropLast, by rw [upd_same, List.map_dropLast]⟩
def spDraws (K : PySem.W.Frag) : Sp := fun vs H Q _ => ∃ (c : Addr) (ns : List Int), vs = [.ref c] ∧ SqL K H c (ns.map V.int) ∧ ns.length ≤ 63 ∧ (∀ z ∈ ns, Builtin.Int.intBits z ≤ 1048576) ∧ ∀ a H', H a = none → Kp [] H H' → DrawsAt H' a → Q (.ref a) H'
theorem ok__law_draws {P : Program} {w : World} {K : PySem.W.Frag} {mg : Str → Option Value} {base : Heap} (T : T P K mg) : FnOk P w K mg base CX0 1 T.a__law_draws T.fd__law_draws ["script"] (spDraws K) := by
  refine T.F__law_draws.ok sc__law_draws (fun vs H Q E h => ?_) (fun cdv A outer s H vs Q E hr h => ?_)
  · obtain ⟨c, ns, rfl, _⟩ := h
    rfl
  · obtain ⟨c, ns, rfl, hS, hlen, hb, q⟩ := h
    refine ⟨_, (pss_cons (ps_set (i := 1) sc__law_draws.nd rfl (by first | exact Or.inl rfl | exact Or.inr rfl) (pe_lst pa_nil))
      (pss_cons (ps_for PassesOwn.never rfl (pi_list (pv 0)) (pg_name (i := 2) sc__law_draws.nd rfl (by first | exact Or.inl rfl | exact Or.inr rfl)) (pss_cons (ps_set (i := 3) sc__law_draws.nd rfl (by first | exact Or.inl rfl | exact Or.inr rfl) (pe_callB c_abs (by rfl) T.z_abs (by decide +kernel) (pa_cons (pv 2) pa_nil)))
      (Z.pss_consJ (ps_if (pt_cmpR op_lt (pv 3) (pe_op op_pow pe_int pe_int) (nomark _)) (pss_cons (ps_set (i := 4) sc__law_draws.nd rfl (by first | exact Or.inl rfl | exact Or.inr rfl) (pe_op op_mod (pe_callTy c_int (by rfl) T.z_int (by decide +kernel) (pa_cons (pe_op op_add (pe_op op_mul (pv 3) pe_int) pe_int) pa_nil)) pe_int))
      (pss_cons (ps_expr (pe_bm PySem.F.plainAttrs_list PySem.F.slot_list_append PySem.F.type_list_append mt_append (pv 1) (pa_cons (pe_op op_mod (pe_callTy c_int (by rfl) T.z_int (by decide +kernel) (pa_cons (pe_op op_add (pe_op op_mul (pv 4) pe_int) (pv 3)) pa_nil)) pe_int) pa_nil)))
      (pss_cons (ps_expr (pe_bm PySem.F.plainAttrs_list PySem.F.slot_list_append PySem.F.type_list_append mt_append (pv 1) (pa_cons (pe_op op_mod (pe_callTy c_int (by rfl) T.z_int (by decide +kernel) (pa_cons (pe_op op_add (pv 4) (pe_op op_fdivW (pv 3) pe_int)) pa_nil)) pe_int) pa_nil)))
      (pss_one (ps_set (i := 3) sc__law_draws.nd rfl (by first | exact Or.inl rfl | exact Or.inr rfl) pe_int))))) pss_nil)
      (pss_one (ps_for PassesOwn.never rfl (pi_range1 (by rfl) T.z_range (pa_cons pe_int pa_nil)) (pg_name (i := 5) sc__law_draws.nd rfl (by first | exact Or.inl rfl | exact Or.inr rfl)) (pss_one (ps_if (pt_cmpR op_gt (pv 3) pe_int (nomark _)) (pss_cons (ps_expr (pe_bm PySem.F.plainAttrs_list PySem.F.slot_list_append PySem.F.type_list_append mt_append (pv 1) (pa_cons (pe_op op_mod (pe_callTy c_int (by rfl) T.z_int (by decide +kernel) (pa_cons (pv 3) pa_nil)) pe_int) pa_nil)))
      (pss_one (ps_set (i := 3) sc__law_draws.nd rfl (by first | exact Or.inl rfl | exact Or.inr rfl) (pe_op op_fdivW (pv 3) pe_int)))) pss_nil)))))))
      (pss_cons (ps_set (i := 6) sc__law_draws.nd rfl (by first | exact Or.inl rfl | exact Or.inr rfl) pe_int)
      (Z.pss_consJ (ps_if (pt_cmpR op_gt (pe_callB c_len (by rfl) T.z_len (by decide +kernel) (pa_cons (pv 0) pa_nil)) pe_int (nomark _)) (pss_one (ps_set (i := 6) sc__law_draws.nd rfl (by first | exact Or.inl rfl | exact Or.inr rfl) (pe_op op_add pe_int (pe_callB c_abs (by rfl) T.z_abs (by decide +kernel) (pa_cons (pe_ix ix_list (pv 0) pe_int (fun _ _ => rfl)) pa_nil))))) pss_nil)
      (pss_cons (ps_for PassesOwn.never rfl (pi_range1 (by rfl) T.z_range (pa_cons pe_int pa_nil)) (pg_name (i := 5) sc__law_draws.nd rfl (by first | exact Or.inl rfl | exact Or.inr rfl)) (pss_cons (ps_set (i := 6) sc__law_draws.nd rfl (by first | exact Or.inl rfl | exact Or.inr rfl) (pe_op op_mod (pe_callTy c_int (by rfl) T.z_int (by decide +kernel) (pa_cons (pe_op op_add (pe_op op_mul (pv 6) pe_int) pe_int) pa_nil)) pe_int))
      (pss_one (ps_expr (pe_bm PySem.F.plainAttrs_list PySem.F.slot_list_append PySem.F.type_list_append mt_append (pv 1) (pa_cons (pe_op op_fdivW (pv 6) pe_int) pa_nil))))))
      (pss_one (ps_ret (RL.pe_listRev rfl (by rfl) T.z_list (by rfl) T.z_reversed (pv 1))))))))), ?_⟩
    walk_at "z0"
    walk_at "z"
    refine Z.lstK (fun D H1 nD k1 e1 => ?_)
    walk_at "z"
    refine Z.forl (ns.map V.int) (k1.seq nin0 hS) (fun i σ' H' => ∃ y2 y3 y4 y5, ∃ ds : List Int, σ' = [some (.ref c), some (.ref D), y2, y3, y4, y5, none] ∧ Kp [] H H' ∧ H' D = some (.lst (ds.map V.int)) ∧ ds.length ≤ i * 62) ⟨_, _, _, _, [], rfl, k1, e1, by simp⟩ ?_ ?_ ?_
    · rintro i σ' H' hi ⟨y2, y3, y4, y5, ds, rfl, k2, e2, hl⟩
      exact k2.seq nin0 hS
    · rintro i x σ' H' hx ⟨y2, y3, y4, y5, ds, rfl, k2, e2, hl⟩
      obtain ⟨z, hz, rfl⟩ : ∃ z, ns[i]? = some z ∧ x = .int z := by
        rw [List.getElem?_map] at hx
        cases hw : ns[i]? with
        | none => rw [hw] at hx; cases hx
        | some r => rw [hw] at hx; exact ⟨r, rfl, (Option.some.inj hx).symm⟩
      have hi : i < ns.length := (List.getElem?_eq_some_iff.mp hz).1
      walk_at "z"
      refine Z.seqJ (fun σ' H' => ∃ y4, ∃ (n : Int) (ds : List Int), σ' = [some (.ref c), some (.ref D), some (.int z), some (.int n), y4, y5, none] ∧ Kp [] H H' ∧ H' D = some (.lst (ds.map V.int)) ∧ ds.length ≤ i * 62 + 2) ?_ ?_
      · rintro σ' H' ⟨y4, n, ds, rfl, k3, e3, hl3⟩
        walk_at "z"
        refine Z.forr 60 (by rfl) (by decide) (fun j σ' H' => ∃ y5, ∃ (n : Int) (ds : List Int), σ' = [some (.ref c), some (.ref D), some (.int z), some (.int n), y4, y5, none] ∧ Kp [] H H' ∧ H' D = some (.lst (ds.map V.int)) ∧ ds.length ≤ i * 62 + 2 + j) ⟨_, _, ds, rfl, k3, e3, by omega⟩ ?_ ?_
        · rintro j σ' H' hj ⟨y5, n, ds, rfl, k4, e4, hl4⟩
          walk_at "z"
          refine Z.ite (fun h2 => ?_) (fun h2 => ?_)
          · walk_at "z"
            refine ⟨Z.tyL e4, ?_⟩
            walk_at "z"
            refine Z.iC (by decide) ?_
            walk_at "z"
            refine Z.app e4 (Z.szl (m := 100000) (by rw [List.length_map]; omega)) ?_
            walk_at "z"
            refine Z.iC ⟨by decide, by decide⟩ ?_
            walk_at "z"
            exact ⟨_, _, ds ++ [n % 997], rfl, k4.mut nD rfl, by rw [upd_same, List.map_append]; rfl, by simp; omega⟩
          · walk_at "z"
            exact ⟨_, _, ds, rfl, k4, e4, by omega⟩
        · rintro σ' H' ⟨y5, n, ds, rfl, k4, e4, hl4⟩
          exact ⟨_, _, _, _, ds, rfl, k4, e4, by omega⟩
      · intro N jn
        walk_at "z"
        refine Z.iC ⟨by decide, by decide, by decide⟩ ?_
        walk_at "z"
        refine Z.ite (fun h2 => ?_) (fun h2 => ?_)
        · walk_at "z"
          refine Z.iC (.inr (by decide)) ?_
          walk_at "z"
          refine Z.iC (by decide) ?_
          walk_at "z"
          refine ⟨Z.tyL e2, ?_⟩
          walk_at "z"
          refine Z.iC (.inr (by decide)) ?_
          walk_at "z"
          refine Z.iC (by decide) ?_
          walk_at "z"
          refine Z.app e2 (Z.szl (m := 100000) (by rw [List.length_map]; omega)) ?_
          walk_at "z"
          refine ⟨Z.tyL upd_same, ?_⟩
          walk_at "z"
          refine Z.iC ⟨by decide, by decide⟩ ?_
          walk_at "z"
          refine Z.iC (by decide) ?_
          walk_at "z"
          refine Z.app upd_same (Z.szl (m := 100000) (by rw [List.length_append, List.length_map]; simp; omega)) ?_
          walk_at "z"
          rw [upd_upd]
          exact jn _ _ ⟨_, _, ds ++ [_, _], rfl, k2.mut nD rfl, by rw [upd_same, List.map_append, List.append_assoc]; rfl, by simp; omega⟩
        · walk_at "z"
          exact jn _ _ ⟨_, _, ds, rfl, k2, e2, by omega⟩
    · rintro σ' H' ⟨y2, y3, y4, y5, ds, rfl, k2, e2, hl⟩
      rw [List.length_map] at hl
      walk_at "z"
      refine Z.seqJ (fun σ' H' => ∃ z : Int, σ' = [some (.ref c), some (.ref D), y2, y3, y4, y5, some (.int z)] ∧ Kp [] H H' ∧ H' D = some (.lst (ds.map V.int))) ?_ ?_
      · rintro σ' H' ⟨z, rfl, k3, e3⟩
        walk_at "z"
        refine Z.forr 240 (by rfl) (by decide) (fun j σ' H' => ∃ y5, ∃ (z : Int) (es : List Int), σ' = [some (.ref c), some (.ref D), y2, y3, y4, y5, some (.int z)] ∧ Kp [] H H' ∧ H' D = some (.lst (es.map V.int)) ∧ es.length ≤ ds.length + j) ⟨_, _, ds, rfl, k3, e3, by omega⟩ ?_ ?_
        · rintro j σ' H' hj ⟨y5, z, es, rfl, k4, e4, hl4⟩
          walk_at "z"
          refine Z.iC (.inr (by decide)) ?_
          walk_at "z"
          refine Z.iC (by decide) ?_
          walk_at "z"
          refine ⟨Z.tyL e4, ?_⟩
          walk_at "z"
          refine Z.iC ⟨by decide, by decide⟩ ?_
          walk_at "z"
          refine Z.app e4 (Z.szl (m := 100000) (by rw [List.length_map]; omega)) ?_
          exact ⟨_, _, es ++ [_], rfl, k4.mut nD rfl, by rw [upd_same, List.map_append]; rfl, by simp; omega⟩
        · rintro σ' H' ⟨y5, z, es, rfl, k4, e4, hl4⟩
          walk_at "z"
          refine Z.lrk (lstL e4) (fun p H5 np k5 e5 => ?_)
          exact q p H5 (k4.none nin0 np) (k4.trans k5) ⟨es.reverse, by rw [e5, List.map_reverse]⟩
      · intro N jn
        walk_at "z"
        refine Z.lenL (k2.seq nin0 hS) ?_
        walk_at "z"
        rw [List.length_map]
        refine Z.ite (fun h2 => ?_) (fun h2 => ?_)
        · walk_at "z"
          have h0 : 0 < ns.length := by omega
          refine Z.ixL (k2.seq nin0 hS) (atM (j := 0) (List.getElem?_eq_getElem h0)) ?_
          walk_at "z"
          exact jn _ _ ⟨_, rfl, k2, e2⟩
        · walk_at "z"
          exact jn _ _ ⟨_, rfl, k2, e2⟩

/-! ### items of a law: _law_name, _law_items -/
theorem mem_append_one {α : Type} {P : α → Prop} {l : List α} {x : α} (h : ∀ n ∈ l, P n) (hx : P x) : ∀ n ∈ l ++ [x], P n := fun n hn => by
  rcases List.mem_append.mp hn with h1 | h1
  · exact h n h1
  · rw [List.mem_singleton.mp h1]; exact hx
theorem mem_set_of {α : Type} {P : α → Prop} {l : List α} {j : Nat} {x : α} (h : ∀ n ∈ l, P n) (hx : P x) : ∀ n ∈ l.set j x, P n := fun n hn => by
  rcases List.mem_or_eq_of_mem_set hn with h1 | h1
  · exact h n h1
  · rw [h1]; exact hx
structure Row where
  k : Str
  g : Str
  w : Int
  m : Int
def Row.vs (r : Row) : List V := [.str r.k, .str r.g, .int r.w, .int r.m]
def RowAt (H : Hp) (p : Addr) (r : Row) : Prop := H p = some (.tup r.vs)
def RowsAt (H : Hp) (ps : List (Addr × Row)) : Prop := ∀ x ∈ ps, RowAt H x.1 x.2
def refs (ps : List (Addr × Row)) : List V := ps.map fun x => V.ref x.1
theorem refs_len (ps : List (Addr × Row)) : (refs ps).length = ps.length := by unfold refs; rw [List.length_map]
theorem refs_at {ps : List (Addr × Row)} {i : Nat} {x : Addr × Row} (h : ps[i]? = some x) : (refs ps)[i]? = some (.ref x.1) := by unfold refs; rw [List.getElem?_map, h]; rfl
theorem refs_of {ps : List (Addr × Row)} {i : Nat} {v : V} (h : (refs ps)[i]? = some v) : ∃ x, ps[i]? = some x ∧ v = .ref x.1 := by
  unfold refs at h
  rw [List.getElem?_map] at h
  cases e : ps[i]? with
  | none => rw [e] at h; cases h
  | some x => rw [e] at h; exact ⟨x, rfl, (Option.some.inj h).symm⟩
theorem refs_snoc (ps : List (Addr × Row)) (x : Addr × Row) : refs (ps ++ [x]) = refs ps ++ [.ref x.1] := by unfold refs; rw [List.map_append]; rfl
theorem RowsAt.kp {M : List Addr} {H H' : Hp} {ps : List (Addr × Row)} (r : RowsAt H ps) (k : Kp M H H') (n : ∀ x ∈ M, ∃ xs, H x = some (.lst xs)) : RowsAt H' ps := fun x hx => k _ _ (fun z => by
  obtain ⟨xs, e⟩ := n _ z
  have e2 := r x hx
  unfold RowAt at e2
  rw [e] at e2
  cases e2) (r x hx)
theorem RowsAt.kp0 {H H' : Hp} {ps : List (Addr × Row)} (r : RowsAt H ps) (k : Kp [] H H') : RowsAt H' ps := r.kp k fun _ h => by cases h
theorem RowsAt.kp1 {H H' : Hp} {a : Addr} {ps : List (Addr × Row)} {xs : List V} (r : RowsAt H ps) (k : Kp [a] H H') (e : H a = some (.lst xs)) : RowsAt H' ps := r.kp k fun x h => by
  rw [List.mem_singleton.mp h]
  exact ⟨xs, e⟩
theorem RowsAt.kpd {H H' : Hp} {a : Addr} {ps : List (Addr × Row)} (r : RowsAt H ps) (k : Kp [a] H H') (d : DrawsAt H a) : RowsAt H' ps := let ⟨_, e⟩ := d; r.kp1 k e
theorem RowsAt.snoc {H : Hp} {ps : List (Addr × Row)} {x : Addr × Row} (r : RowsAt H ps) (h : RowAt H x.1 x.2) : RowsAt H (ps ++ [x]) := fun y hy => by
  rcases List.mem_append.mp hy with z | z
  · exact r y z
  · rw [List.mem_singleton.mp z]; exact h
def lawNames : List Str := ["a", "b7", "k", "q", "zz", "9", "abcdefghijkl", "or", "m2", "weight"]
def lawGroups : List Str := ["red", "blue", "k"]
structure RowOk (r : Row) : Prop where
  k : r.k ∈ lawNames
  g : r.g ∈ lawGroups
  w0 : 1 ≤ r.w
  w1 : r.w ≤ 1000
  m0 : -1000 ≤ r.m
  m1 : r.m ≤ 1000
theorem pickS (l : List Str) {v : Int} (h0 : 0 ≤ v) (h1 : v < (l.length : Nat)) : ∃ s, s ∈ l ∧ atI (l.map V.str) v = some (.str s) := by
  obtain ⟨j, rfl⟩ : ∃ j : Nat, v = (j : Int) := ⟨v.toNat, by omega⟩
  have hj : j < l.length := by omega
  exact ⟨l[j], List.getElem_mem hj, atI_nat (by rw [List.getElem?_map, List.getElem?_eq_getElem hj]; rfl)⟩
theorem pickI (l : List Int) {v : Int} (h0 : 0 ≤ v) (h1 : v < (l.length : Nat)) : ∃ s, s ∈ l ∧ atI (l.map V.int) v = some (.int s) := by
  obtain ⟨j, rfl⟩ : ∃ j : Nat, v = (j : Int) := ⟨v.toNat, by omega⟩
  have hj : j < l.length := by omega
  exact ⟨l[j], List.getElem_mem hj, atI_nat (by rw [List.getElem?_map, List.getElem?_eq_getElem hj]; rfl)⟩
def spName (K : PySem.W.Frag) : Sp := fun vs H Q _ => ∃ a : Addr, vs = [.ref a] ∧ DrawsAt H a ∧ ∀ H' s, s ∈ lawNames → Kp [a] H H' → DrawsAt H' a → Q (.str s) H'
theorem ok__law_name {P : Program} {w : World} {K : PySem.W.Frag} {mg : Str → Option Value} {base : Heap} (T : T P K mg) : FnOk P w K mg base CX0 2 T.a__law_name T.fd__law_name ["draws"] (spName K) := by
  refine T.F__law_name.ok sc__law_name (fun vs H Q E h => ?_) (fun cdv A outer s H vs Q E hr h => ?_)
  · obtain ⟨a, rfl, _⟩ := h
    rfl
  · obtain ⟨a, rfl, hd, q⟩ := h
    refine ⟨_, (pss_one (ps_ret (pe_ix ix_list (pe_lst (pa_cons pe_str (pa_cons pe_str (pa_cons pe_str (pa_cons pe_str (pa_cons pe_str (pa_cons pe_str (pa_cons pe_str (pa_cons pe_str (pa_cons pe_str (pa_cons pe_str pa_nil))))))))))) (pe_call (ok__law_take T) (hr.mono (by decide)) (by rfl) T.g__law_take T.F__law_take.kp T.b__law_take .nil pass0 (pa_cons (pv 0) (pa_cons pe_int pa_nil))) (fun _ _ => rfl)))), ?_⟩
    walk_at "z0"
    walk_at "z"
    refine Z.lstK (fun b H1 nb k1 e1 => ?_)
    walk_at "z"
    refine ⟨a, 10, rfl, hd.kp0 k1, by decide, by decide, fun H2 v h0 h1 k2 d2 => ?_⟩
    obtain ⟨s, hs, es⟩ := pickS lawNames h0 h1
    refine Z.ixL (lstL (k2.get (nin1 (hd.ne nb).symm) e1)) es ?_
    exact q H2 s hs ((k1.sub (by simp)).trans k2) d2
/-- rows that _law_items has made, behind the draws at a -/
structure ItemsOk (H H' : Hp) (a p : Addr) (ps : List (Addr × Row)) : Prop where
  kp : Kp [a] H H'
  dr : DrawsAt H' a
  at_ : H' p = some (.lst (refs ps))
  rows : RowsAt H' ps
  ok : ∀ x ∈ ps, RowOk x.2
  new : ∀ x ∈ ps, H x.1 = none
  nd : (ps.map fun x => x.2.k).Nodup
def spItems (K : PySem.W.Frag) : Sp := fun vs H Q _ => ∃ (a : Addr) (n : Nat), vs = [.ref a, .int (n : Int)] ∧ DrawsAt H a ∧ n ≤ 100 ∧ ∀ H' p ps, H p = none → ItemsOk H H' a p ps → ps.length ≤ n → Q (.ref p) H'
theorem ok__law_items {P : Program} {w : World} {K : PySem.W.Frag} {mg : Str → Option Value} {base : Heap} (T : T P K mg) : FnOk P w K mg base CX0 3 T.a__law_items T.fd__law_items ["draws", "most"] (spItems K) := by
  refine T.F__law_items.ok sc__law_items (fun vs H Q E h => ?_) (fun cdv A outer s H vs Q E hr h => ?_)
  · obtain ⟨a, n, rfl, _⟩ := h
    rfl
  · obtain ⟨a, n, rfl, hd, hn, q⟩ := h
    refine ⟨_, (pss_cons (ps_set (i := 2) sc__law_items.nd rfl (by first | exact Or.inl rfl | exact Or.inr rfl) (pe_lst pa_nil))
      (pss_cons (ps_set (i := 3) sc__law_items.nd rfl (by first | exact Or.inl rfl | exact Or.inr rfl) (pe_lst pa_nil))
      (pss_cons (ps_for PassesOwn.never rfl (pi_range1 (by rfl) T.z_range (pa_cons (pe_call (ok__law_take T) (hr.mono (by decide)) (by rfl) T.g__law_take T.F__law_take.kp T.b__law_take .nil pass0 (pa_cons (pv 0) (pa_cons (pe_op op_add (pv 1) pe_int) pa_nil))) pa_nil)) (pg_name (i := 4) sc__law_items.nd rfl (by first | exact Or.inl rfl | exact Or.inr rfl)) (pss_cons (ps_set (i := 5) sc__law_items.nd rfl (by first | exact Or.inl rfl | exact Or.inr rfl) (pe_call (ok__law_name T) (hr.mono (by decide)) (by rfl) T.g__law_name T.F__law_name.kp T.b__law_name .nil pass0 (pa_cons (pv 0) pa_nil)))
      (pss_cons (ps_set (i := 6) sc__law_items.nd rfl (by first | exact Or.inl rfl | exact Or.inr rfl) (pe_ix ix_list (pe_lst (pa_cons (pe_op op_add pe_int (pe_call (ok__law_take T) (hr.mono (by decide)) (by rfl) T.g__law_take T.F__law_take.kp T.b__law_take .nil pass0 (pa_cons (pv 0) (pa_cons pe_int pa_nil)))) (pa_cons pe_int (pa_cons (pe_op op_add pe_int (pe_call (ok__law_take T) (hr.mono (by decide)) (by rfl) T.g__law_take T.F__law_take.kp T.b__law_take .nil pass0 (pa_cons (pv 0) (pa_cons pe_int pa_nil)))) pa_nil)))) (pe_ix ix_list (pe_lst (pa_cons pe_int (pa_cons pe_int (pa_cons pe_int (pa_cons pe_int pa_nil))))) (pe_call (ok__law_take T) (hr.mono (by decide)) (by rfl) T.g__law_take T.F__law_take.kp T.b__law_take .nil pass0 (pa_cons (pv 0) (pa_cons pe_int pa_nil))) (fun _ _ => rfl)) (fun _ _ => rfl)))
      (pss_cons (ps_set (i := 7) sc__law_items.nd rfl (by first | exact Or.inl rfl | exact Or.inr rfl) (pe_ix ix_list (pe_lst (pa_cons (pe_op op_sub (pe_call (ok__law_take T) (hr.mono (by decide)) (by rfl) T.g__law_take T.F__law_take.kp T.b__law_take .nil pass0 (pa_cons (pv 0) (pa_cons pe_int pa_nil))) pe_int) (pa_cons (pe_un un_neg pe_int) (pa_cons pe_int (pa_cons pe_int pa_nil))))) (pe_ix ix_list (pe_lst (pa_cons pe_int (pa_cons pe_int (pa_cons pe_int (pa_cons pe_int (pa_cons pe_int pa_nil)))))) (pe_call (ok__law_take T) (hr.mono (by decide)) (by rfl) T.g__law_take T.F__law_take.kp T.b__law_take .nil pass0 (pa_cons (pv 0) (pa_cons pe_int pa_nil))) (fun _ _ => rfl)) (fun _ _ => rfl)))
      (pss_one (ps_if (pt_cmpR op_notIn_seq (pv 5) (pv 3) rfl) (pss_cons (ps_expr (pe_bm PySem.F.plainAttrs_list PySem.F.slot_list_append PySem.F.type_list_append mt_append (pv 3) (pa_cons (pv 5) pa_nil)))
      (pss_one (ps_expr (pe_bm PySem.F.plainAttrs_list PySem.F.slot_list_append PySem.F.type_list_append mt_append (pv 2) (pa_cons (pe_tup (pa_cons (pv 5) (pa_cons (pe_ix ix_list (pe_lst (pa_cons pe_str (pa_cons pe_str (pa_cons pe_str pa_nil)))) (pe_call (ok__law_take T) (hr.mono (by decide)) (by rfl) T.g__law_take T.F__law_take.kp T.b__law_take .nil pass0 (pa_cons (pv 0) (pa_cons pe_int pa_nil))) (fun _ _ => rfl)) (pa_cons (pv 6) (pa_cons (pv 7) pa_nil))))) pa_nil))))) pss_nil))))))
      (pss_one (ps_ret (pv 2)))))), ?_⟩
    walk_at "z0"
    walk_at "z"
    refine Z.lstK (fun F H1 nF k1 e1 => ?_)
    have d1 := hd.kp0 k1
    walk_at "z"
    refine Z.lstK (fun L H2 nL k2 e2 => ?_)
    have d2 := d1.kp0 k2
    have e2F := k2.get nin0 e1
    have nFL : F ≠ L := ne_of_none e1 nL
    have nL0 : H L = none := k1.none nin0 nL
    have naF : a ≠ F := hd.ne nF
    have naL : a ≠ L := hd.ne nL0
    walk_at "z"
    refine ⟨a, _, rfl, d2, by omega, by omega, fun H3 t ht0 ht1 k3 d3 => ?_⟩
    have e3F := k3.get (nin1 naF.symm) e2F
    have e3L := k3.get (nin1 naL.symm) e2
    have k03 : Kp [a] H H3 := ((k1.trans k2).sub (by simp)).trans k3
    refine Z.forr t.toNat (by omega) (by omega) (fun i σ' H' => ∃ y4 y5 y6 y7, ∃ ps : List (Addr × Row), σ' = [some (.ref a), some (.int (n : Int)), some (.ref F), some (.ref L), y4, y5, y6, y7] ∧ ItemsOk H H' a F ps ∧ H' L = some (.lst ((ps.map fun x => x.2.k).map V.str)) ∧ ps.length ≤ i) ⟨_, _, _, _, [], rfl, ⟨k03, d3, e3F, (fun _ h => by cases h), (fun _ h => by cases h), (fun _ h => by cases h), by simp⟩, e3L, by simp⟩ ?_ ?_
    · rintro i σ' H4 hi ⟨y4, y5, y6, y7, ps, rfl, I, e4L, hl⟩
      walk_at "z"
      refine ⟨a, rfl, I.dr, fun H5 key hkey k5 d5 => ?_⟩
      walk_at "z"
      refine ⟨a, 20, rfl, d5, by decide, by decide, fun H6 v1 hv10 hv11 k6 d6 => ?_⟩
      walk_at "z"
      refine ⟨a, 1000, rfl, d6, by decide, by decide, fun H7 v2 hv20 hv21 k7 d7 => ?_⟩
      walk_at "z"
      refine Z.lstK (fun b1 H8 nb1 k8 e8 => ?_)
      walk_at "z"
      refine Z.lstK (fun b2 H9 nb2 k9 e9 => ?_)
      have d9 := (d7.kp0 k8).kp0 k9
      have e9b := k9.get nin0 e8
      walk_at "z"
      refine ⟨a, 4, rfl, d9, by decide, by decide, fun H10 v3 hv30 hv31 k10 d10 => ?_⟩
      have nab1 : a ≠ b1 := d7.ne nb1
      have nab2 : a ≠ b2 := (d7.kp0 k8).ne nb2
      obtain ⟨j1, hj1, ej1⟩ := pickI [0, 0, 1, 2] hv30 hv31
      refine Z.ixL (lstL (k10.get (nin1 nab2.symm) e9)) ej1 ?_
      obtain ⟨wt, hwt0, hwt1, ewt⟩ : ∃ wt : Int, 1 ≤ wt ∧ wt ≤ 1000 ∧ atI [V.int (1 + v1), V.int 1000, V.int (1 + v2)] j1 = some (.int wt) := by
        simp only [List.mem_cons, List.not_mem_nil, or_false] at hj1
        rcases hj1 with rfl | rfl | rfl | rfl
        · exact ⟨1 + v1, by omega, by omega, rfl⟩
        · exact ⟨1 + v1, by omega, by omega, rfl⟩
        · exact ⟨1000, by omega, by omega, rfl⟩
        · exact ⟨1 + v2, by omega, by omega, rfl⟩
      refine Z.ixL (lstL (k10.get (nin1 nab1.symm) e9b)) ewt ?_
      walk_at "z"
      refine ⟨a, 41, rfl, d10, by decide, by decide, fun H11 v4 hv40 hv41 k11 d11 => ?_⟩
      walk_at "z"
      refine Z.lstK (fun b3 H12 nb3 k12 e12 => ?_)
      walk_at "z"
      refine Z.lstK (fun b4 H13 nb4 k13 e13 => ?_)
      have d13 := (d11.kp0 k12).kp0 k13
      have e13b := k13.get nin0 e12
      walk_at "z"
      refine ⟨a, 5, rfl, d13, by decide, by decide, fun H14 v5 hv50 hv51 k14 d14 => ?_⟩
      have nab3 : a ≠ b3 := d11.ne nb3
      have nab4 : a ≠ b4 := (d11.kp0 k12).ne nb4
      obtain ⟨j2, hj2, ej2⟩ := pickI [0, 0, 1, 2, 3] hv50 hv51
      refine Z.ixL (lstL (k14.get (nin1 nab4.symm) e13)) ej2 ?_
      obtain ⟨am, ham0, ham1, eam⟩ : ∃ am : Int, -1000 ≤ am ∧ am ≤ 1000 ∧ atI [V.int (v4 - 20), V.int (-1000), V.int 1000, V.int 0] j2 = some (.int am) := by
        simp only [List.mem_cons, List.not_mem_nil, or_false] at hj2
        rcases hj2 with rfl | rfl | rfl | rfl | rfl
        · exact ⟨v4 - 20, by omega, by omega, rfl⟩
        · exact ⟨v4 - 20, by omega, by omega, rfl⟩
        · exact ⟨-1000, by omega, by omega, rfl⟩
        · exact ⟨1000, by omega, by omega, rfl⟩
        · exact ⟨0, by omega, by omega, rfl⟩
      refine Z.ixL (lstL (k14.get (nin1 nab3.symm) e13b)) eam ?_
      have kk : Kp [a] H4 H14 := k5.trans (k6.trans (k7.trans ((k8.trans k9).sub (by simp) |>.trans (k10.trans (k11.trans ((k12.trans k13).sub (by simp) |>.trans k14))))))
      have e14L := kk.get (nin1 naL.symm) e4L
      have e14F := kk.get (nin1 naF.symm) I.at_
      have r14 := I.rows.kpd kk I.dr
      walk_at "z"
      refine Z.inq (.inl (lstL e14L)) rfl Z.strs_flat ?_
      rw [Z.inV_strs]
      walk_at "z"
      refine Z.iteN (fun hnew => ?_) (fun hold => ?_)
      · walk_at "z"
        refine ⟨Z.tyL e14L, ?_⟩
        walk_at "z"
        refine Z.app e14L (Z.szl (m := 1000) (by rw [List.length_map, List.length_map]; omega)) ?_
        have k15 : Kp [L] H14 (upd H14 L (.lst ((ps.map fun x => x.2.k).map V.str ++ [.str key]))) := Kp.put (by simp)
        have e15L : (upd H14 L (.lst ((ps.map fun x => x.2.k).map V.str ++ [.str key]))) L = some (.lst ((ps.map fun x => x.2.k).map V.str ++ [.str key])) := upd_same
        revert k15 e15L
        generalize upd H14 L (.lst ((ps.map fun x => x.2.k).map V.str ++ [.str key])) = H15
        intro k15 e15L
        have e15F := k15.get (nin1 nFL) e14F
        have d15 := d14.kp k15 (nin1 naL)
        have r15 := r14.kp1 k15 e14L
        walk_at "z"
        refine ⟨Z.tyL e15F, ?_⟩
        walk_at "z"
        refine Z.lstK (fun b5 H16 nb5 k16 e16 => ?_)
        have d16 := d15.kp0 k16
        have nab5 : a ≠ b5 := d15.ne nb5
        walk_at "z"
        refine ⟨a, 3, rfl, d16, by decide, by decide, fun H17 v6 hv60 hv61 k17 d17 => ?_⟩
        obtain ⟨grp, hgrp, egrp⟩ := pickS lawGroups hv60 hv61
        refine Z.ixL (lstL (k17.get (nin1 nab5.symm) e16)) egrp ?_
        walk_at "z"
        refine Z.tupK (fun p H18 np k18 e18 => ?_)
        have k1518 : Kp [a] H15 H18 := (k16.sub (by simp)).trans (k17.trans (k18.sub (by simp)))
        have e18F := k1518.get (nin1 naF.symm) e15F
        have e18L := k1518.get (nin1 naL.symm) e15L
        have r18 := (r15.kp0 k16).kpd k17 d16 |>.kp0 k18
        have npF : p ≠ F := fun z => by
          rw [z] at np
          rw [(k16.trans (M := []) (Kp.refl _)).get nin0 e15F |> fun z => k17.get (nin1 naF.symm) z] at np
          cases np
        walk_at "z"
        refine Z.app e18F (Z.szl (m := 1000) (by rw [refs_len]; omega)) ?_
        have hH14 : Kp [a] H H14 := I.kp.trans kk
        have k014 : Kp [a] H H15 := fun b o nb e => by
          have nbL : b ≠ L := ne_of_none e nL0
          exact k15 _ _ (nin1 nbL) (hH14 _ _ nb e)
        have k018 : Kp [a] H H18 := k014.trans k1518
        have k019 : Kp [F] H18 (upd H18 F (.lst (refs ps ++ [.ref p]))) := Kp.put (by simp)
        refine ⟨_, _, _, _, ps ++ [(p, ⟨key, grp, wt, am⟩)], rfl, ⟨k018.mut nF rfl, (d17.kp0 k18).put naF, ?_, ?_, ?_, ?_, ?_⟩, ?_, ?_⟩
        · rw [upd_same, refs_snoc]
        · exact (r18.kp1 k019 e18F).snoc (show RowAt _ p _ from k019.get (nin1 npF) e18)
        · exact mem_append_one I.ok ⟨hkey, hgrp, hwt0, hwt1, ham0, ham1⟩
        · refine mem_append_one I.new ?_
          have npa : p ≠ a := fun z => (d17.ne np) z.symm
          exact (k014.trans ((k16.sub (by simp)).trans k17)).none (nin1 npa) np
        · rw [List.map_append]
          refine List.nodup_append.mpr ⟨I.nd, by simp, ?_⟩
          intro x hx y hy z
          simp only [List.map_cons, List.map_nil, List.mem_singleton] at hy
          exact hnew (by rw [← hy, ← z]; exact hx)
        · rw [upd_ne nFL.symm, e18L, List.map_append, List.map_append]; rfl
        · simp; omega
      · walk_at "z"
        exact ⟨_, _, _, _, ps, rfl, ⟨I.kp.trans kk, d14, e14F, r14, I.ok, I.new, I.nd⟩, e14L, by omega⟩
    · rintro σ' H4 ⟨y4, y5, y6, y7, ps, rfl, I, e4L, hl⟩
      walk_at "z"
      exact q H4 F ps nF I (by omega)

/-! ### rows as data; the reasons against a row, by the definition -/
structure RowS (r : Row) : Prop where
  k : PyData.strOk r.k = true
  g : PyData.strOk r.g = true
  kz : r.k.cps.size ≤ 20
  gz : r.g.cps.size ≤ 20
def smallS (l : List Str) : Bool := l.all fun s => PyData.strOk s && decide (s.cps.size ≤ 20)
theorem smallS_of {l : List Str} (h : smallS l = true) {s : Str} (hs : s ∈ l) : PyData.strOk s = true ∧ s.cps.size ≤ 20 := by
  have h1 := List.all_eq_true.mp h s hs
  rw [Bool.and_eq_true, decide_eq_true_eq] at h1
  exact h1
theorem names_small : smallS lawNames = true := by decide +kernel
theorem groups_small : smallS lawGroups = true := by decide +kernel
theorem RowOk.s {r : Row} (h : RowOk r) : RowS r := ⟨(smallS_of names_small h.k).1, (smallS_of groups_small h.g).1, (smallS_of names_small h.k).2, (smallS_of groups_small h.g).2⟩
def rowD (r : Row) : PyData := .tuple [.str r.k, .str r.g, .int r.w, .int r.m]
theorem dpRow {K : PySem.W.Frag} {H : Hp} {p : Addr} {r : Row} (h : RowAt H p r) : Dp K H (.ref p) (rowD r) := .tup (tupT h) (.cons (.str _) (.cons (.str _) (.cons (.int _) (.cons (.int _) .nil))))
def rowsD (ps : List (Addr × Row)) : List PyData := ps.map fun x => rowD x.2
theorem dpRowsAll {K : PySem.W.Frag} {H : Hp} : ∀ {ps : List (Addr × Row)}, RowsAt H ps → DpAll K H (refs ps) (rowsD ps)
  | [], _ => .nil
  | x :: r, h => .cons (dpRow (h x (by simp))) (dpRowsAll (ps := r) fun y hy => h y (by simp [hy]))
theorem dpRows {K : PySem.W.Frag} {H : Hp} {p : Addr} {ps : List (Addr × Row)} (h : H p = some (.lst (refs ps))) (r : RowsAt H ps) : Dp K H (.ref p) (.list (rowsD ps)) := .lst (lstL h) (dpRowsAll r)
theorem rowD_lay {r : Row} (h : RowS r) : PyData.canLay0 (rowD r) = true := by simp [rowD, PyData.canLay0, PyData.canLayAll0, h.k, h.g]
theorem layRows : ∀ {ps : List (Addr × Row)}, (∀ x ∈ ps, RowS x.2) → PyData.canLayAll0 (rowsD ps) = true
  | [], _ => by simp [rowsD, PyData.canLayAll0]
  | x :: r, h => by
    have ih := layRows (ps := r) fun y hy => h y (by simp [hy])
    show PyData.canLayAll0 (rowD x.2 :: rowsD r) = true
    rw [PyData.canLayAll0, rowD_lay (h x (by simp)), ih]; rfl
theorem rowD_depth (r : Row) : (rowD r).depth = 1 := by simp [rowD, PyData.depth, PyData.depthAll]
theorem depthRows : ∀ ps : List (Addr × Row), PyData.depthAll (rowsD ps) ≤ 1
  | [] => by simp [rowsD, PyData.depthAll]
  | x :: r => by
    have ih := depthRows r
    show PyData.depthAll (rowD x.2 :: rowsD r) ≤ 1
    rw [PyData.depthAll, rowD_depth]
    omega
theorem shRows {ps : List (Addr × Row)} (h : ∀ x ∈ ps, RowS x.2) : SeqAt.shaped (.list (rowsD ps)) = true := by
  have := depthRows ps
  simp [SeqAt.shaped, PyData.canLay0, PyData.depth, layRows h]
  omega
theorem shNil : SeqAt.shaped (.list []) = true := by decide +kernel
theorem neRows {K : PySem.W.Frag} {H : Hp} {Q : VK} {a b : Addr} {ps : List (Addr × Row)} (h1 : H a = some (.lst (refs ps))) (h2 : H b = some (.lst (refs ps))) (r : RowsAt H ps) (s : ∀ x ∈ ps, RowS x.2) (q : Q (.bl false) H) : rNeD K (.ref a) (.ref b) H Q :=
  ⟨_, _, dpRows h1 r, dpRows h2 r, shRows s, shRows s, by rw [SeqAt.eqv_refl _ (by rw [PyData.canLay0]; exact layRows s)]; exact q⟩
theorem eqvAll_nil : ∀ l : List PyData, PyData.eqvAll l [] = l.isEmpty
  | [] => by simp [PyData.eqvAll]
  | _ :: _ => by simp [PyData.eqvAll]
theorem eqNil {K : PySem.W.Frag} {H : Hp} {Q : VK} {a b : Addr} {ps : List (Addr × Row)} (h1 : H a = some (.lst (refs ps))) (h2 : H b = some (.lst [])) (r : RowsAt H ps) (s : ∀ x ∈ ps, RowS x.2) (q : Q (.bl ps.isEmpty) H) : rEqD K (.ref a) (.ref b) H Q :=
  ⟨_, _, dpRows h1 r, .lst (ds := []) (lstL h2) .nil, shRows s, shNil, by
    rw [PyData.eqv, eqvAll_nil]
    have e : (rowsD ps).isEmpty = ps.isEmpty := by cases ps <;> rfl
    rw [e]; exact q⟩
/-! what is a name, an item -/
def reasonOf (r : Row) : Option Str :=
  if fineB r.k = true then if fineB r.g = true then if 1 ≤ r.w ∧ r.w ≤ 1000 then if -1000 ≤ r.m ∧ r.m ≤ 1000 then none else some ("amount" : Str) else some ("weight" : Str) else some ("group" : Str) else some ("key" : Str)
def optV : Option Str → V
  | none => .non
  | some s => .str s
theorem optV_non (o : Option Str) : decide (optV o = .non) = o.isNone := by cases o <;> simp [optV]
theorem reason_key {r : Row} (h : fineB r.k = false) : reasonOf r = some ("key" : Str) := by unfold reasonOf; rw [if_neg (by rw [h]; decide)]
theorem reason_group {r : Row} (h : fineB r.k = true) (h2 : fineB r.g = false) : reasonOf r = some ("group" : Str) := by unfold reasonOf; rw [if_pos h, if_neg (by rw [h2]; decide)]
theorem reason_weight {r : Row} (h : fineB r.k = true) (h2 : fineB r.g = true) (h3 : ¬ (1 ≤ r.w ∧ r.w ≤ 1000)) : reasonOf r = some ("weight" : Str) := by unfold reasonOf; rw [if_pos h, if_pos h2, if_neg h3]
theorem reason_amount {r : Row} (h : fineB r.k = true) (h2 : fineB r.g = true) (h3 : 1 ≤ r.w ∧ r.w ≤ 1000) (h4 : ¬ (-1000 ≤ r.m ∧ r.m ≤ 1000)) : reasonOf r = some ("amount" : Str) := by unfold reasonOf; rw [if_pos h, if_pos h2, if_pos h3, if_neg h4]
theorem reason_none {r : Row} (h : fineB r.k = true) (h2 : fineB r.g = true) (h3 : 1 ≤ r.w ∧ r.w ≤ 1000) (h4 : -1000 ≤ r.m ∧ r.m ≤ 1000) : reasonOf r = none := by unfold reasonOf; rw [if_pos h, if_pos h2, if_pos h3, if_pos h4]
theorem RowOk.fine {r : Row} (h : RowOk r) : reasonOf r = none := by
  have hk : ∀ s ∈ lawNames, fineB s = true := by decide +kernel
  have hg : ∀ s ∈ lawGroups, fineB s = true := by decide +kernel
  exact reason_none (hk _ h.k) (hg _ h.g) ⟨h.w0, h.w1⟩ ⟨h.m0, h.m1⟩
/-! the first fault -/
def keysTo (ps : List (Addr × Row)) (i : Nat) : List Str := (ps.take i).map fun x => x.2.k
def reasonAt (ps : List (Addr × Row)) (i : Nat) : Option Str :=
  match ps[i]? with
  | none => none
  | some x => match reasonOf x.2 with
    | some y => some y
    | none => if x.2.k ∈ keysTo ps i then some ("taken" : Str) else none
theorem reasonAt_1 {ps : List (Addr × Row)} {i : Nat} {x : Addr × Row} {y : Str} (h : ps[i]? = some x) (h2 : reasonOf x.2 = some y) : reasonAt ps i = some y := by unfold reasonAt; rw [h]; dsimp only; rw [h2]
theorem reasonAt_2 {ps : List (Addr × Row)} {i : Nat} {x : Addr × Row} (h : ps[i]? = some x) (h2 : reasonOf x.2 = none) (h3 : x.2.k ∈ keysTo ps i) : reasonAt ps i = some ("taken" : Str) := by unfold reasonAt; rw [h]; dsimp only; rw [h2]; dsimp only; rw [if_pos h3]
theorem reasonAt_3 {ps : List (Addr × Row)} {i : Nat} {x : Addr × Row} (h : ps[i]? = some x) (h2 : reasonOf x.2 = none) (h3 : ¬ x.2.k ∈ keysTo ps i) : reasonAt ps i = none := by unfold reasonAt; rw [h]; dsimp only; rw [h2]; dsimp only; rw [if_neg h3]
theorem keysTo_succ {ps : List (Addr × Row)} {i : Nat} {x : Addr × Row} (h : ps[i]? = some x) : keysTo ps (i + 1) = keysTo ps i ++ [x.2.k] := by
  unfold keysTo
  rw [List.take_add_one, h, List.map_append]; rfl
def First (ps : List (Addr × Row)) : Option (Nat × Str) → Prop
  | none => ∀ i, i < ps.length → reasonAt ps i = none
  | some (k, y) => k < ps.length ∧ reasonAt ps k = some y ∧ ∀ i, i < k → reasonAt ps i = none
theorem First.uniq {ps : List (Addr × Row)} {o u : Option (Nat × Str)} (h : First ps o) (h2 : First ps u) : o = u := by
  match o, u, h, h2 with
  | none, none, _, _ => rfl
  | none, some (k, y), h, h2 =>
    have a1 : ∀ i, i < ps.length → reasonAt ps i = none := h
    have a2 : k < ps.length ∧ reasonAt ps k = some y ∧ ∀ i, i < k → reasonAt ps i = none := h2
    have := (a1 k a2.1).symm.trans a2.2.1
    cases this
  | some (k, y), none, h, h2 =>
    have a1 : ∀ i, i < ps.length → reasonAt ps i = none := h2
    have a2 : k < ps.length ∧ reasonAt ps k = some y ∧ ∀ i, i < k → reasonAt ps i = none := h
    have := (a1 k a2.1).symm.trans a2.2.1
    cases this
  | some (k, y), some (j, z), h, h2 =>
    have a1 : k < ps.length ∧ reasonAt ps k = some y ∧ ∀ i, i < k → reasonAt ps i = none := h
    have a2 : j < ps.length ∧ reasonAt ps j = some z ∧ ∀ i, i < j → reasonAt ps i = none := h2
    rcases Nat.lt_trichotomy k j with e | e | e
    · have := (a2.2.2 k e).symm.trans a1.2.1
      cases this
    · subst e
      have := a1.2.1.symm.trans a2.2.1
      cases this
      rfl
    · have := (a1.2.2 j e).symm.trans a2.2.1
      cases this
def FaultV (H : Hp) (v : V) : Option (Nat × Str) → Prop
  | none => v = .non
  | some (k, y) => ∃ t, v = .ref t ∧ H t = some (.tup [.int (k : Int), .str y])
theorem FaultV.kp {H H' : Hp} {v : V} {o : Option (Nat × Str)} (h : FaultV H v o) (k : Kp [] H H') : FaultV H' v o := by
  match o, h with
  | none, h => exact h
  | some (_, _), ⟨t, e, ht⟩ => exact ⟨t, e, k.get nin0 ht⟩
theorem RowAt.k0 {K : PySem.W.Frag} {H : Hp} {Q : VK} {p : Addr} {r : Row} (h : RowAt H p r) (q : Q (.str r.k) H) : rIxT K (.ref p) (.int 0) H Q := Z.ixT (tupT h) rfl q
theorem RowAt.g1 {K : PySem.W.Frag} {H : Hp} {Q : VK} {p : Addr} {r : Row} (h : RowAt H p r) (q : Q (.str r.g) H) : rIxT K (.ref p) (.int 1) H Q := Z.ixT (tupT h) rfl q
theorem RowAt.w2 {K : PySem.W.Frag} {H : Hp} {Q : VK} {p : Addr} {r : Row} (h : RowAt H p r) (q : Q (.int r.w) H) : rIxT K (.ref p) (.int 2) H Q := Z.ixT (tupT h) rfl q
theorem RowAt.m3 {K : PySem.W.Frag} {H : Hp} {Q : VK} {p : Addr} {r : Row} (h : RowAt H p r) (q : Q (.int r.m) H) : rIxT K (.ref p) (.int 3) H Q := Z.ixT (tupT h) rfl q
theorem RowAt.kp0 {H H' : Hp} {p : Addr} {r : Row} (h : RowAt H p r) (k : Kp [] H H') : RowAt H' p r := k.get nin0 h

/-! ### samphire.reader -/
def spWords (K : PySem.W.Frag) : Sp := fun vs H Q _ => ∃ s : Str, vs = [.str s] ∧ s.length ≤ 10000000 ∧ ∀ H' p, H p = none → Kp [] H H' → H' p = some (.lst ((Txt.split s " ").map V.str)) → Q (.ref p) H'
theorem ok_words_of {P : Program} {w : World} {K : PySem.W.Frag} {mg : Str → Option Value} {base : Heap} (T : T P K mg) : FnOk P w K mg base CX0 1 T.a_words_of T.fd_words_of ["line"] (spWords K) := by
  refine T.F_words_of.ok sc_words_of (fun vs H Q E h => ?_) (fun cdv A outer s H vs Q E hr h => ?_)
  · obtain ⟨s, rfl, _⟩ := h
    rfl
  · obtain ⟨s, rfl, hz, q⟩ := h
    refine ⟨_, (pss_one (ps_ret (pe_bm PySem.F.plainAttrs_str PySem.F.slot_str_split PySem.F.type_str_split Z.m_split (pv 0) (pa_cons pe_str pa_nil)))), ?_⟩
    walk_at "z0"
    walk_at "z"
    refine ⟨tyStr, ?_⟩
    walk_at "z"
    exact Z.split (by decide +kernel) hz fun p H1 np k1 e1 => q H1 p np k1 e1
/-- the lines: nothing behind the last newline is no line -/
def linesL (s : Str) : List Str := if (Txt.split s "\n").getLast? = some ("" : Str) then (Txt.split s "\n").dropLast else Txt.split s "\n"
theorem at_last (l : List V) (y : V) : atI (l ++ [y]) (-1) = some y := atI_last l y
def spLines (K : PySem.W.Frag) : Sp := fun vs H Q _ => ∃ s : Str, vs = [.str s] ∧ s.length ≤ 10000000 ∧ Txt.split s "\n" ≠ [] ∧ ∀ H' p, H p = none → Kp [] H H' → H' p = some (.lst ((linesL s).map V.str)) → Q (.ref p) H'
theorem last_of {l : List Str} (h : l ≠ []) : ∃ r x, l = r ++ [x] := by
  refine ⟨l.dropLast, l.getLast h, (List.dropLast_concat_getLast h).symm⟩
theorem ok_lines_of {P : Program} {w : World} {K : PySem.W.Frag} {mg : Str → Option Value} {base : Heap} (T : T P K mg) : FnOk P w K mg base CX0 1 T.a_lines_of T.fd_lines_of ["text"] (spLines K) := by
  refine T.F_lines_of.ok sc_lines_of (fun vs H Q E h => ?_) (fun cdv A outer s H vs Q E hr h => ?_)
  · obtain ⟨s, rfl, _⟩ := h
    rfl
  · obtain ⟨s, rfl, hz, hne, q⟩ := h
    refine ⟨_, (pss_cons (ps_set (i := 1) sc_lines_of.nd rfl (by first | exact Or.inl rfl | exact Or.inr rfl) (pe_bm PySem.F.plainAttrs_str PySem.F.slot_str_split PySem.F.type_str_split Z.m_split (pv 0) (pa_cons pe_str pa_nil)))
      (Z.pss_consJ (ps_if (pt_cmpR op_eq (pe_ix ix_list (pv 1) (pe_un un_neg pe_int) (fun _ _ => rfl)) pe_str (nomark _)) (pss_one (ps_expr (pe_bm0 PySem.F.plainAttrs_list PySem.F.slot_list_pop PySem.F.type_list_pop mt_pop (pv 1)))) pss_nil)
      (pss_one (ps_ret (pv 1))))), ?_⟩
    walk_at "z0"
    walk_at "z"
    refine ⟨tyStr, ?_⟩
    walk_at "z"
    refine Z.split (by decide +kernel) hz fun p H1 np k1 e1 => ?_
    unfold linesL at q
    obtain ⟨r, x, hrx⟩ := last_of hne
    rw [hrx] at e1 q
    rw [List.getLast?_concat, List.dropLast_concat] at q
    walk_at "z"
    have e1' : H1 p = some (.lst (r.map V.str ++ [.str x])) := by rw [e1, List.map_append]; rfl
    refine Z.seqJ (fun σ' H' => σ' = [some (.str s), some (.ref p)] ∧ Kp [] H H' ∧ H' p = some (.lst ((if some x = some ("" : Str) then r else r ++ [x]).map V.str))) ?_ ?_
    · rintro σ' H' ⟨rfl, k2, e2⟩
      walk_at "z"
      exact q H' p np k2 e2
    · intro N jn
      walk_at "z"
      refine Z.ixL (v := .str x) (lstL e1') (at_last _ _) ?_
      walk_at "z"
      refine Z.ite (fun h1 => ?_) (fun h1 => ?_)
      · walk_at "z"
        refine ⟨Z.tyL e1', ?_⟩
        refine Z.popS e1' ?_
        walk_at "z"
        exact jn _ _ ⟨rfl, k1.mut np rfl, by rw [upd_same, if_pos (by rw [h1])]⟩
      · walk_at "z"
        exact jn _ _ ⟨rfl, k1, by rw [if_neg (fun z => h1 (Option.some.inj z))]; exact e1⟩
/-! column_of -/
def colOf (ws : List Str) (k : Nat) : Int := 1 + ((ws.take k).map fun w => (w.cps.size : Int) + 1).sum
def spCol (K : PySem.W.Frag) : Sp := fun vs H Q _ => ∃ (p : Addr) (ws : List Str) (k : Nat), vs = [.ref p, .int (k : Int)] ∧ H p = some (.lst (ws.map V.str)) ∧ k ≤ ws.length ∧ ws.length ≤ 100000 ∧ (∀ w ∈ ws, w.cps.size ≤ 10000000) ∧ ∀ H', Kp [] H H' → Q (.int (colOf ws k)) H'
theorem ok_column_of {P : Program} {w : World} {K : PySem.W.Frag} {mg : Str → Option Value} {base : Heap} (T : T P K mg) : FnOk P w K mg base CX0 1 T.a_column_of T.fd_column_of ["words", "place"] (spCol K) := by
  refine T.F_column_of.ok sc_column_of (fun vs H Q E h => ?_) (fun cdv A outer s H vs Q E hr h => ?_)
  · obtain ⟨p, ws, k, rfl, _⟩ := h
    rfl
  · obtain ⟨p, ws, k, rfl, hp, hk, hl, hz, q⟩ := h
    refine ⟨_, (pss_one (ps_ret (pe_op op_add pe_int (pe_callB (cr_sum rfl) (by rfl) T.z_sum (by decide +kernel) (pa_cons (pe_lc (own := [("word", 2)]) (g := gName 2) rfl sc_column_of.nd (pi_list (pe_slice sl_list (pv 0) po_none (po_some (pv 1)))) (blkOk_by (own := [("word", 2)]) (N := N_column_of) (sc := defScope s_column_of) (by decide +kernel)) (fun _ _ _ _ _ => (pg_name (i := 2) sc_column_of.nd rfl (by first | exact Or.inl rfl | exact Or.inr rfl))) (fun _ _ _ _ _ => pts_nil) (fun _ _ _ _ _ => (pe_op op_add (pe_callB c_lens (by rfl) T.z_len (by decide +kernel) (pa_cons (pv 2) pa_nil)) pe_int))) pa_nil))))), ?_⟩
    walk_at "z0"
    walk_at "z"
    refine Z.slL (lstL hp) (fun d H1 nd k1 e1 => ?_)
    rw [Z.cut_take (by rw [List.length_map]; exact hk), ← List.map_take] at e1
    refine Z.lcl ((ws.take k).map V.str) (lstL e1) (fun D i H' => Kp [] H1 H' ∧ H' D = some (.lst ((((ws.take k).take i).map fun w => (w.cps.size : Int) + 1).map V.int))) ?_ ?_ ?_ ?_
    · intro D H2 nD k2 e2
      exact ⟨k2, e2⟩
    · rintro D i H2 nD hi ⟨k2, e2⟩
      exact lstL (k2.get nin0 e1)
    · rintro D i v H2 nD hv ⟨k2, e2⟩
      rw [List.getElem?_map] at hv
      cases ew : (ws.take k)[i]? with
      | none => rw [ew] at hv; cases hv
      | some w =>
        rw [ew] at hv
        cases hv
        have hw := hz w (List.mem_of_mem_take (List.mem_of_getElem? ew))
        have hi : i < (ws.take k).length := (List.getElem?_eq_some_iff.mp ew).1
        rw [List.length_take] at hi
        dsimp only [wipe, List.set]
        walk_at "z"
        refine ⟨rfl, ?_⟩
        walk_at "z"
        refine Z.lenS hw ?_
        walk_at "z"
        refine ⟨_, e2, Z.szl (m := 100000) (by rw [List.length_map, List.length_map, List.length_take, List.length_take]; omega), k2.mut nD rfl, ?_⟩
        rw [upd_same, List.take_add_one (i := i), ew, List.map_append, List.map_append]; rfl
    · rintro D H2 nD ⟨k2, e2⟩
      rw [List.length_map, List.take_length] at e2
      walk_at "z"
      refine Z.sumL (lstL e2) ?_
      walk_at "z"
      exact q H2 (k1.trans k2)
/-! word_fault, item_of -/
def wfault (k g w a : Str) : Option (Nat × Str) :=
  if fineB k = false then some (0, ("key" : Str)) else if fineB g = false then some (1, ("group" : Str)) else if withinO w 1 1000 = none then some (2, ("weight" : Str)) else if withinO a (-1000) 1000 = none then some (3, ("amount" : Str)) else none
def spWF : Sp := fun vs H Q _ => ∃ (p : Addr) (k g w a : Str), vs = [.ref p] ∧ H p = some (.lst [.str k, .str g, .str w, .str a]) ∧ k.cps.size ≤ 100000 ∧ g.cps.size ≤ 100000 ∧ w.cps.size ≤ 100000 ∧ a.cps.size ≤ 100000 ∧ ∀ H' v, Kp [] H H' → FaultV H' v (wfault k g w a) → Q v H'
theorem tl1 : tlen 1 ≤ 600 := by decide +kernel
theorem tl1000 : tlen 1000 ≤ 600 := by decide +kernel
theorem tlm1000 : tlen (-1000) ≤ 600 := by decide +kernel
theorem ok_word_fault {P : Program} {w : World} {K : PySem.W.Frag} {mg : Str → Option Value} {base : Heap} (T : T P K mg) : FnOk P w K mg base CX0 4 T.a_word_fault T.fd_word_fault ["words"] spWF := by
  refine T.F_word_fault.ok sc_word_fault (fun vs H Q E h => ?_) (fun cdv A outer s H vs Q E hr h => ?_)
  · obtain ⟨p, k, g, w, a, rfl, _⟩ := h
    rfl
  · obtain ⟨p, k, g, w, a, rfl, hp, zk, zg, zw, za, q⟩ := h
    refine ⟨_, (pss_cons (ps_asg (pv 0) (pg_lst rfl (pgs_cons (pg_name (i := 1) sc_word_fault.nd rfl (by first | exact Or.inl rfl | exact Or.inr rfl)) (pgs_cons (pg_name (i := 2) sc_word_fault.nd rfl (by first | exact Or.inl rfl | exact Or.inr rfl)) (pgs_cons (pg_name (i := 3) sc_word_fault.nd rfl (by first | exact Or.inl rfl | exact Or.inr rfl)) (pgs_cons (pg_name (i := 4) sc_word_fault.nd rfl (by first | exact Or.inl rfl | exact Or.inr rfl)) pgs_nil))))))
      (pss_cons (ps_if (pt_not (pt_val (pe_call (ok_is_name T) (hr.mono (by decide)) (by rfl) T.g_is_name T.F_is_name.kp T.b_is_name .nil pass0 (pa_cons (pv 1) pa_nil)))) (pss_one (ps_ret (pe_tup (pa_cons pe_int (pa_cons pe_str pa_nil))))) pss_nil)
      (pss_cons (ps_if (pt_not (pt_val (pe_call (ok_is_name T) (hr.mono (by decide)) (by rfl) T.g_is_name T.F_is_name.kp T.b_is_name .nil pass0 (pa_cons (pv 2) pa_nil)))) (pss_one (ps_ret (pe_tup (pa_cons pe_int (pa_cons pe_str pa_nil))))) pss_nil)
      (pss_cons (ps_if (pt_cmpR o_isN (pe_call (ok_integer_within T) (hr.mono (by decide)) (by rfl) T.g_integer_within T.F_integer_within.kp T.b_integer_within .nil pass0 (pa_cons (pv 3) (pa_cons pe_int (pa_cons (pe_glob (by rfl) T.g_MOST_WEIGHT T.r_MOST_WEIGHT) pa_nil)))) pe_non (nomark _)) (pss_one (ps_ret (pe_tup (pa_cons pe_int (pa_cons pe_str pa_nil))))) pss_nil)
      (pss_cons (ps_if (pt_cmpR o_isN (pe_call (ok_integer_within T) (hr.mono (by decide)) (by rfl) T.g_integer_within T.F_integer_within.kp T.b_integer_within .nil pass0 (pa_cons (pv 4) (pa_cons (pe_un un_neg (pe_glob (by rfl) T.g_MOST_AMOUNT T.r_MOST_AMOUNT)) (pa_cons (pe_glob (by rfl) T.g_MOST_AMOUNT T.r_MOST_AMOUNT) pa_nil)))) pe_non (nomark _)) (pss_one (ps_ret (pe_tup (pa_cons pe_int (pa_cons pe_str pa_nil))))) pss_nil)
      (pss_one (ps_ret pe_non))))))), ?_⟩
    unfold wfault at q
    walk_at "z0"
    walk_at "z"
    refine Z.glst (lstL hp) rfl ?_
    walk_at "z"
    refine ⟨k, rfl, zk, ?_⟩
    walk_at "z"
    cases hk : fineB k with
    | false =>
      rw [hk, if_pos rfl] at q
      walk_at "z"
      refine Z.tupK (fun t H1 nt k1 e1 => ?_)
      exact q H1 _ k1 ⟨t, rfl, e1⟩
    | true =>
      rw [hk, if_neg (by decide)] at q
      walk_at "z"
      refine ⟨g, rfl, zg, ?_⟩
      walk_at "z"
      cases hg : fineB g with
      | false =>
        rw [hg, if_pos rfl] at q
        walk_at "z"
        refine Z.tupK (fun t H1 nt k1 e1 => ?_)
        exact q H1 _ k1 ⟨t, rfl, e1⟩
      | true =>
        rw [hg, if_neg (by decide)] at q
        walk_at "z"
        refine ⟨w, 1, 1000, rfl, by omega, by decide, by decide, tl1, tl1000, ?_⟩
        walk_at "z"
        rw [optI_non]
        cases hw : withinO w 1 1000 with
        | none =>
          rw [hw, if_pos rfl] at q
          dsimp only [Option.isNone]
          walk_at "z"
          refine Z.tupK (fun t H1 nt k1 e1 => ?_)
          exact q H1 _ k1 ⟨t, rfl, e1⟩
        | some n =>
          rw [hw, if_neg (by simp)] at q
          dsimp only [Option.isNone]
          walk_at "z"
          refine ⟨a, -1000, 1000, rfl, by omega, by decide, by decide, tlm1000, tl1000, ?_⟩
          walk_at "z"
          rw [optI_non]
          cases ha : withinO a (-1000) 1000 with
          | none =>
            rw [ha, if_pos rfl] at q
            dsimp only [Option.isNone]
            walk_at "z"
            refine Z.tupK (fun t H1 nt k1 e1 => ?_)
            exact q H1 _ k1 ⟨t, rfl, e1⟩
          | some m =>
            rw [ha, if_neg (by simp)] at q
            dsimp only [Option.isNone]
            walk_at "z"
            exact q H _ (Kp.refl _) rfl
theorem within_some {w : Str} {lo hi n : Int} (h : withinO w lo hi = some n) (hc : capOf lo hi ≤ 600) : intText? w = some n ∧ w.length ≤ 640 ∧ lo ≤ n ∧ n ≤ hi := by
  unfold withinO at h
  split at h
  · cases h
  · rename_i h1
    split at h
    · split at h
      · rename_i m hm
        split at h
        · rename_i h3
          cases h
          exact ⟨hm, by show w.cps.size ≤ 640; omega, h3.1, h3.2⟩
        · cases h
      · cases h
    · cases h
def spItemOf : Sp := fun vs H Q _ => ∃ (p : Addr) (k g w a : Str) (n m : Int), vs = [.ref p] ∧ H p = some (.lst [.str k, .str g, .str w, .str a]) ∧ intText? w = some n ∧ w.length ≤ 640 ∧ intText? a = some m ∧ a.length ≤ 640 ∧ ∀ H' t, H t = none → Kp [] H H' → RowAt H' t ⟨k, g, n, m⟩ → Q (.ref t) H'
theorem ok_item_of {P : Program} {w : World} {K : PySem.W.Frag} {mg : Str → Option Value} {base : Heap} (T : T P K mg) : FnOk P w K mg base CX0 1 T.a_item_of T.fd_item_of ["words"] spItemOf := by
  refine T.F_item_of.ok sc_item_of (fun vs H Q E h => ?_) (fun cdv A outer s H vs Q E hr h => ?_)
  · obtain ⟨p, k, g, w, a, n, m, rfl, _⟩ := h
    rfl
  · obtain ⟨p, k, g, w, a, n, m, rfl, hp, hw, lw, ha, la, q⟩ := h
    refine ⟨_, (pss_cons (ps_asg (pv 0) (pg_lst rfl (pgs_cons (pg_name (i := 1) sc_item_of.nd rfl (by first | exact Or.inl rfl | exact Or.inr rfl)) (pgs_cons (pg_name (i := 2) sc_item_of.nd rfl (by first | exact Or.inl rfl | exact Or.inr rfl)) (pgs_cons (pg_name (i := 3) sc_item_of.nd rfl (by first | exact Or.inl rfl | exact Or.inr rfl)) (pgs_cons (pg_name (i := 4) sc_item_of.nd rfl (by first | exact Or.inl rfl | exact Or.inr rfl)) pgs_nil))))))
      (pss_one (ps_ret (pe_tup (pa_cons (pv 1) (pa_cons (pv 2) (pa_cons (pe_callTy call_int_str (by rfl) T.z_int (by decide +kernel) (pa_cons (pv 3) pa_nil)) (pa_cons (pe_callTy call_int_str (by rfl) T.z_int (by decide +kernel) (pa_cons (pv 4) pa_nil)) pa_nil)))))))), ?_⟩
    walk_at "z0"
    walk_at "z"
    refine Z.glst (lstL hp) rfl ?_
    walk_at "z"
    refine ⟨w, n, rfl, hw, lw, ?_⟩
    walk_at "z"
    refine ⟨a, m, rfl, ha, la, ?_⟩
    walk_at "z"
    refine Z.tupK (fun t H1 nt k1 e1 => ?_)
    exact q H1 t nt k1 e1
/-! line_fault -/
def lfault (ws : List Str) (num : Nat) (tk : Str → Bool) : Option (Int × Str) :=
  match ws with
  | [k, g, w, a] => match wfault k g w a with
    | some (p, r) => some (colOf [k, g, w, a] p, r)
    | none => if tk k = true then some (1, ("taken" : Str)) else if num > 1000 then some (1, ("many" : Str)) else none
  | _ => some (1, ("count" : Str))
def FaultI (H : Hp) (v : V) : Option (Int × Str) → Prop
  | none => v = .non
  | some (k, y) => ∃ t, v = .ref t ∧ H t = some (.tup [.int k, .str y])
theorem wfault_lt {k g w a : Str} {p : Nat} {r : Str} (h : wfault k g w a = some (p, r)) : p ≤ 4 := by
  unfold wfault at h
  split at h
  · cases h; decide
  · split at h
    · cases h; decide
    · split at h
      · cases h; decide
      · split at h
        · cases h; decide
        · cases h
def spLF (K : PySem.W.Frag) : Sp := fun vs H Q _ => ∃ (p d : Addr) (ws : List Str) (num : Nat) (kvs : List (Key × V)), vs = [.ref p, .int (num : Int), .ref d] ∧ H p = some (.lst (ws.map V.str)) ∧ ws.length ≤ 100000 ∧ (∀ w ∈ ws, w.cps.size ≤ 100000) ∧ H d = some (.dK kvs) ∧
  ∀ H' v, Kp [] H H' → FaultI H' v (lfault ws num fun s => (valV kvs (.inr s)).isSome) → Q v H'
theorem ok_line_fault {P : Program} {w : World} {K : PySem.W.Frag} {mg : Str → Option Value} {base : Heap} (T : T P K mg) : FnOk P w K mg base CX0 5 T.a_line_fault T.fd_line_fault ["words", "number", "taken"] (spLF K) := by
  refine T.F_line_fault.ok sc_line_fault (fun vs H Q E h => ?_) (fun cdv A outer s H vs Q E hr h => ?_)
  · obtain ⟨p, d, ws, num, kvs, rfl, _⟩ := h
    rfl
  · obtain ⟨p, d, ws, num, kvs, rfl, hp, hl, hz, hd, q⟩ := h
    refine ⟨_, (pss_cons (ps_if (pt_cmpR op_ne (pe_callB c_len (by rfl) T.z_len (by decide +kernel) (pa_cons (pv 0) pa_nil)) (pe_glob (by rfl) T.g_WORDS_OF_ITEM T.r_WORDS_OF_ITEM) (nomark _)) (pss_one (ps_ret (pe_tup (pa_cons pe_int (pa_cons pe_str pa_nil))))) pss_nil)
      (pss_cons (ps_set (i := 3) sc_line_fault.nd rfl (by first | exact Or.inl rfl | exact Or.inr rfl) (pe_call (ok_word_fault T) (hr.mono (by decide)) (by rfl) T.g_word_fault T.F_word_fault.kp T.b_word_fault .nil pass0 (pa_cons (pv 0) pa_nil)))
      (pss_cons (ps_if (pt_cmpR o_notN (pv 3) pe_non (nomark _)) (pss_cons (ps_asg (pv 3) (pg_tup rfl (pgs_cons (pg_name (i := 4) sc_line_fault.nd rfl (by first | exact Or.inl rfl | exact Or.inr rfl)) (pgs_cons (pg_name (i := 5) sc_line_fault.nd rfl (by first | exact Or.inl rfl | exact Or.inr rfl)) pgs_nil))))
      (pss_one (ps_ret (pe_tup (pa_cons (pe_call (ok_column_of T) (hr.mono (by decide)) (by rfl) T.g_column_of T.F_column_of.kp T.b_column_of .nil pass0 (pa_cons (pv 0) (pa_cons (pv 4) pa_nil))) (pa_cons (pv 5) pa_nil)))))) pss_nil)
      (pss_cons (ps_if (pt_cmp (pc_din (hu_of hr) (pe_ix ix_list (pv 0) pe_int (fun _ _ => rfl)) (pv 2)) rfl) (pss_one (ps_ret (pe_tup (pa_cons pe_int (pa_cons pe_str pa_nil))))) pss_nil)
      (pss_cons (ps_if (pt_cmpR op_gt (pv 1) (pe_glob (by rfl) T.g_MOST_LINES T.r_MOST_LINES) (nomark _)) (pss_one (ps_ret (pe_tup (pa_cons pe_int (pa_cons pe_str pa_nil))))) pss_nil)
      (pss_one (ps_ret pe_non))))))), ?_⟩
    walk_at "z0"
    walk_at "z"
    refine Z.lenL (lstL hp) ?_
    walk_at "z"
    rw [List.length_map]
    refine Z.iteN (fun h1 => ?_) (fun h1 => ?_)
    · walk_at "z"
      refine Z.tupK (fun t H1 nt k1 e1 => ?_)
      refine q H1 _ k1 ?_
      have e : lfault ws num (fun s => (valV kvs (.inr s)).isSome) = some (1, ("count" : Str)) := by
        unfold lfault
        split
        · exact absurd rfl h1
        · rfl
      rw [e]
      exact ⟨t, rfl, e1⟩
    · obtain ⟨k, g, w, a, rfl⟩ : ∃ k g w a, ws = [k, g, w, a] := by
        match ws, h1 with
        | [k, g, w, a], _ => exact ⟨k, g, w, a, rfl⟩
        | [], h1 => simp at h1
        | [_], h1 => simp at h1
        | [_, _], h1 => simp at h1
        | [_, _, _], h1 => simp at h1
        | _ :: _ :: _ :: _ :: _ :: r, h1 => simp at h1; omega
      walk_at "z"
      refine ⟨p, k, g, w, a, rfl, hp, hz k (by simp), hz g (by simp), hz w (by simp), hz a (by simp), fun H1 v k1 hv => ?_⟩
      walk_at "z"
      generalize etk : (fun s => (valV kvs (.inr s)).isSome) = tk at q
      have htk : (valV kvs (.inr k)).isSome = tk k := by rw [← etk]
      unfold lfault at q
      dsimp only at q
      have hp1 := k1.get nin0 hp
      cases ho : wfault k g w a with
      | some pr =>
        obtain ⟨pl, rs⟩ := pr
        rw [ho] at hv q
        obtain ⟨t, rfl, et⟩ := hv
        walk_at "z"
        refine Z.yesN (by simp) ?_
        walk_at "z"
        refine Z.gtup (tupT et) rfl ?_
        walk_at "z"
        refine ⟨p, [k, g, w, a], pl, rfl, hp1, wfault_lt ho, by show 4 ≤ 100000; decide, fun z hz' => Nat.le_trans (hz z hz') (by decide), fun H2 k2 => ?_⟩
        walk_at "z"
        refine Z.tupK (fun t2 H3 nt k3 e3 => ?_)
        exact q H3 _ ((k1.trans k2).trans k3) ⟨t2, rfl, e3⟩
      | none =>
        rw [ho] at hv q
        have hv' : v = .non := hv
        subst hv'
        walk_at "z"
        refine Z.noN rfl ?_
        walk_at "z"
        refine Z.ixL (v := .str k) (lstL hp1) rfl ?_
        walk_at "z"
        refine ⟨d, _, rfl, DGet.k (k := .inr k) (k1.get nin0 hd), ?_⟩
        walk_at "z"
        dsimp only at q
        rw [htk]
        cases ht : tk k with
        | true =>
          rw [ht, if_pos rfl] at q
          walk_at "z"
          refine Z.tupK (fun t2 H3 nt k3 e3 => ?_)
          exact q H3 _ (k1.trans k3) ⟨t2, rfl, e3⟩
        | false =>
          rw [ht, if_neg (by decide)] at q
          walk_at "z"
          refine Z.ite (fun h2 => ?_) (fun h2 => ?_)
          · rw [if_pos (by omega)] at q
            walk_at "z"
            refine Z.tupK (fun t2 H3 nt k3 e3 => ?_)
            exact q H3 _ (k1.trans k3) ⟨t2, rfl, e3⟩
          · rw [if_neg (by omega)] at q
            walk_at "z"
            exact q H1 _ k1 rfl
/-! read_items -/
def nxtTk (tk : Str → Bool) (ws : List Str) : Str → Bool := fun s => if s = ws.headD "" then true else tk s
def readL : Nat → (Str → Bool) → List (List Str) → Option (Nat × Int × Str)
  | _, _, [] => none
  | num, tk, ws :: r => match lfault ws num tk with
    | some (c, y) => some (num, c, y)
    | none => readL (num + 1) (nxtTk tk ws) r
def rowOf (ws : List Str) : Row := ⟨ws.getD 0 "", ws.getD 1 "", (intText? (ws.getD 2 "")).getD 0, (intText? (ws.getD 3 "")).getD 0⟩
def spRead (C : Addr) : Sp := fun vs H Q E => ∃ (s : Str) (W : List (List Str)), vs = [.str s] ∧ s.length ≤ 100000 ∧ Txt.split s "\n" ≠ [] ∧ W = (linesL s).map (fun l => Txt.split l " ") ∧ (linesL s).length ≤ 100000 ∧ (∀ l ∈ linesL s, l.length ≤ 100000) ∧ (∀ ws ∈ W, ws.length ≤ 100000 ∧ ∀ w ∈ ws, w.cps.size ≤ 100000) ∧
  (∀ l c y, readL 1 (fun _ => false) W = some (l, c, y) → ∀ H' d, Kp [] H H' → H' d = none → E (.ref C) (some d) (upd H' d (.xd (flText [.int (l : Int), .int c, .str y])))) ∧
  (readL 1 (fun _ => false) W = none → ∀ H' p ps, H p = none → Kp [] H H' → H' p = some (.lst (refs ps)) → RowsAt H' ps → ps.map (fun x => x.2) = W.map rowOf → Q (.ref p) H')
theorem readL_cons {num : Nat} {tk : Str → Bool} {ws : List Str} {r : List (List Str)} : readL num tk (ws :: r) = match lfault ws num tk with | some (c, y) => some (num, c, y) | none => readL (num + 1) (nxtTk tk ws) r := rfl
theorem nxt_put {kvs : List (Key × V)} {k : Str} {r : List Str} : (nxtTk (fun z => (valV kvs (.inr z)).isSome) (k :: r)) = fun z => (valV (putK kvs (.inr k) (.bl true)) (.inr z)).isSome := by
  funext z
  unfold nxtTk
  rw [valV_put]
  by_cases h : z = k
  · subst h; simp
  · rw [if_neg (by simpa using h), if_neg (by intro e; cases e; exact h rfl)]
theorem putK_le9 {κ : Type} [DecidableEq κ] (kvs : List (κ × V)) (k : κ) (v : V) : (putK kvs k v).length ≤ kvs.length + 1 := by
  unfold putK
  split
  · rw [List.length_map]; omega
  · rw [List.length_append]; simp
theorem wfault_none {k g w a : Str} (h : wfault k g w a = none) : ∃ n m, withinO w 1 1000 = some n ∧ withinO a (-1000) 1000 = some m := by
  unfold wfault at h
  split at h
  · cases h
  · split at h
    · cases h
    · split at h
      · cases h
      · split at h
        · cases h
        · rename_i h3 h4
          cases hw : withinO w 1 1000 with
          | none => exact absurd hw h3
          | some n =>
            cases ha : withinO a (-1000) 1000 with
            | none => exact absurd ha h4
            | some m => exact ⟨n, m, rfl, rfl⟩
theorem lfault_none {ws : List Str} {num : Nat} {tk : Str → Bool} (h : lfault ws num tk = none) : ∃ k g w a, ws = [k, g, w, a] ∧ wfault k g w a = none := by
  unfold lfault at h
  split at h
  · rename_i k g w a
    cases e : wfault k g w a with
    | none => exact ⟨k, g, w, a, rfl, e⟩
    | some pr =>
      obtain ⟨p, r⟩ := pr
      rw [e] at h
      cases h
  · cases h
def words9 : List Str := ["key", "group", "weight", "amount", "taken", "many", "count"]
theorem words9_small : smallS words9 = true := by decide +kernel
theorem wfault_in {k g w a : Str} {p : Nat} {r : Str} (h : wfault k g w a = some (p, r)) : r ∈ words9 := by
  unfold wfault at h
  unfold words9
  split at h
  · cases h; simp
  · split at h
    · cases h; simp
    · split at h
      · cases h; simp
      · split at h
        · cases h; simp
        · cases h
theorem colOf_le {k g w a : Str} {p : Nat} (hp : p ≤ 4) (h : ∀ z ∈ [k, g, w, a], z.cps.size ≤ 100000) : 1 ≤ colOf [k, g, w, a] p ∧ colOf [k, g, w, a] p < 1000000000 := by
  have h1 := h k (by simp)
  have h2 := h g (by simp)
  have h3 := h w (by simp)
  have h4 := h a (by simp)
  unfold colOf
  match p, hp with
  | 0, _ => simp
  | 1, _ => simp; omega
  | 2, _ => simp; omega
  | 3, _ => simp; omega
  | 4, _ => simp; omega
theorem lfault_ok {ws : List Str} {num : Nat} {tk : Str → Bool} {c : Int} {y : Str} (h : lfault ws num tk = some (c, y)) (hz : ∀ z ∈ ws, z.cps.size ≤ 100000) : 1 ≤ c ∧ c < 1000000000 ∧ y.length ≤ 1000 := by
  have sm : ∀ z ∈ words9, z.length ≤ 1000 := fun z hz => Nat.le_trans (smallS_of words9_small hz).2 (by decide)
  unfold lfault at h
  split at h
  · rename_i k g w a
    cases e : wfault k g w a with
    | some pr =>
      obtain ⟨p, r⟩ := pr
      rw [e] at h
      cases h
      exact ⟨(colOf_le (wfault_lt e) hz).1, (colOf_le (wfault_lt e) hz).2, sm _ (wfault_in e)⟩
    | none =>
      rw [e] at h
      dsimp only at h
      split at h
      · cases h; exact ⟨by decide, by decide, sm _ (by unfold words9; simp)⟩
      · split at h
        · cases h; exact ⟨by decide, by decide, sm _ (by unfold words9; simp)⟩
        · cases h
  · cases h; exact ⟨by decide, by decide, sm _ (by unfold words9; simp)⟩
theorem cap1 : capOf 1 1000 ≤ 600 := by unfold capOf; have := tl1; have := tl1000; split <;> omega
theorem capm : capOf (-1000) 1000 ≤ 600 := by unfold capOf; have := tlm1000; have := tl1000; split <;> omega
theorem ok_read_items {P : Program} {w : World} {K : PySem.W.Frag} {mg : Str → Option Value} {base : Heap} (T : T P K mg) : FnOk P w K mg base (L2.CX P w) 6 T.a_read_items T.fd_read_items ["text"] (spRead T.C_TextError) := by
  refine T.F_read_items.okX sc_read_items (fun vs H Q E h => ?_) (fun cdv A outer s H vs Q E hr h => ?_)
  · obtain ⟨s, W, rfl, _⟩ := h
    rfl
  · obtain ⟨s, W, rfl, hz, hne, hWe, hll, hlz, hW, hx, q⟩ := h
    refine ⟨_, (pss_cons (ps_if (pt_cmpR op_gt (pe_callB c_lens (by rfl) T.z_len (by decide +kernel) (pa_cons (pv 0) pa_nil)) (pe_glob (by rfl) T.g_MOST_CHARACTERS_reader T.r_MOST_CHARACTERS_reader) (nomark _)) (pss_one (ps_raise rfl (takes_of rfl rfl rfl rfl) (pmk_oex T.x_TooLarge.S.T T.x_TooLarge.iC T.x_TooLarge.tI (ok_TooLarge_init T) (hr.mono (by decide)) (T.bx_TooLarge) .nil pass0 (by rfl) T.x_TooLarge.g (pa_cons pe_str pa_nil)))) pss_nil)
      (pss_cons (ps_set (i := 1) sc_read_items.nd rfl (by first | exact Or.inl rfl | exact Or.inr rfl) (pe_lst pa_nil))
      (pss_cons (ps_set (i := 2) sc_read_items.nd rfl (by first | exact Or.inl rfl | exact Or.inr rfl) pe_dnewK)
      (pss_cons (ps_for (passes_of rfl) rfl (RL.pi_enumS (by rfl) T.z_enumerate (pa_cons (pe_call (ok_lines_of T) (hr.mono (by decide)) (by rfl) T.g_lines_of T.F_lines_of.kp T.b_lines_of .nil pass0 (pa_cons (pv 0) pa_nil)) pa_nil) (pk_cons pe_int pk_nil)) (pg_tup rfl (pgs_cons (pg_name (i := 3) sc_read_items.nd rfl (by first | exact Or.inl rfl | exact Or.inr rfl)) (pgs_cons (pg_name (i := 4) sc_read_items.nd rfl (by first | exact Or.inl rfl | exact Or.inr rfl)) pgs_nil))) (pss_cons (ps_set (i := 5) sc_read_items.nd rfl (by first | exact Or.inl rfl | exact Or.inr rfl) (pe_call (ok_words_of T) (hr.mono (by decide)) (by rfl) T.g_words_of T.F_words_of.kp T.b_words_of .nil pass0 (pa_cons (pv 4) pa_nil)))
      (pss_cons (ps_set (i := 6) sc_read_items.nd rfl (by first | exact Or.inl rfl | exact Or.inr rfl) (pe_call (ok_line_fault T) (hr.mono (by decide)) (by rfl) T.g_line_fault T.F_line_fault.kp T.b_line_fault .nil pass0 (pa_cons (pv 5) (pa_cons (pv 3) (pa_cons (pv 2) pa_nil)))))
      (pss_cons (ps_if (pt_cmpR o_notN (pv 6) pe_non (nomark _)) (pss_cons (ps_asg (pv 6) (pg_tup rfl (pgs_cons (pg_name (i := 7) sc_read_items.nd rfl (by first | exact Or.inl rfl | exact Or.inr rfl)) (pgs_cons (pg_name (i := 8) sc_read_items.nd rfl (by first | exact Or.inl rfl | exact Or.inr rfl)) pgs_nil))))
      (pss_one (ps_raise rfl (takes_of rfl rfl rfl rfl) (pmk_oex T.x_TextError.S.T T.x_TextError.iC T.x_TextError.tI (ok_TextError_init T) (hr.mono (by decide)) (T.bx_TextError) .nil pass0 (by rfl) T.x_TextError.g (pa_cons (pv 3) (pa_cons (pv 7) (pa_cons (pv 8) pa_nil))))))) pss_nil)
      (pss_cons (ps_dput (hu_of hr) (pv 2) (pe_ix ix_list (pv 5) pe_int (fun _ _ => rfl)) pe_bl rfl)
      (pss_one (ps_expr (pe_bm PySem.F.plainAttrs_list PySem.F.slot_list_append PySem.F.type_list_append mt_append (pv 1) (pa_cons (pe_call (ok_item_of T) (hr.mono (by decide)) (by rfl) T.g_item_of T.F_item_of.kp T.b_item_of .nil pass0 (pa_cons (pv 5) pa_nil)) pa_nil)))))))))
      (pss_one (ps_ret (pv 1))))))), ?_⟩
    walk_at "z0"
    walk_at "z"
    have hz' : s.cps.size ≤ 100000 := hz
    refine Z.lenS (by omega) ?_
    walk_at "z"
    refine Z.no (by omega) ?_
    walk_at "z"
    refine Z.lstK (fun R H1 nR k1 e1 => ?_)
    walk_at "z"
    refine Z.dnew (fun d H2 nd k2 e2 => ?_)
    have e2R := k2.get nin0 e1
    have nRd : R ≠ d := ne_of_none e1 nd
    have nd0 : H d = none := k1.none nin0 nd
    walk_at "z"
    refine ⟨s, rfl, by omega, hne, fun H3 lp nl k3 e3 => ?_⟩
    walk_at "z"
    have k03 := (k1.trans k2).trans k3
    have nRl : lp ≠ R := (ne_of_none e2R nl).symm
    have ndl : lp ≠ d := (ne_of_none e2 nl).symm
    have hlen : W.length = (linesL s).length := by rw [hWe, List.length_map]
    refine Z.fores ((linesL s).map V.str) (by decide) (by decide) (lstL e3) (fun i σ' H' => ∃ y3 y4 y5 y6 y7 y8, ∃ (kvs : List (Key × V)) (ps : List (Addr × Row)), σ' = [some (.str s), some (.ref R), some (.ref d), y3, y4, y5, y6, y7, y8] ∧ Kp [] H H' ∧ H' lp = some (.lst ((linesL s).map V.str)) ∧ H' R = some (.lst (refs ps)) ∧ H' d = some (.dK kvs) ∧ kvs.length ≤ i ∧ ps.length = i ∧ RowsAt H' ps ∧ ps.map (fun x => x.2) = (W.take i).map rowOf ∧
      readL 1 (fun _ => false) W = readL (i + 1) (fun z => (valV kvs (.inr z)).isSome) (W.drop i)) ⟨_, _, _, _, _, _, [], [], rfl, k03, e3, k3.get nin0 e2R, k3.get nin0 e2, by simp, rfl, (fun _ h => by cases h), by simp, rfl⟩ ?_ ?_ ?_
    · rintro i σ' H' hi ⟨_, _, _, _, _, _, _, _, _, _, el, _⟩
      exact lstL el
    · rintro i v σ' H4 H5 Tp hv ⟨y3, y4, y5, y6, y7, y8, kvs, ps, rfl, k4, e4l, e4R, e4d, hkl, hpl, r4, hrows, hread⟩ nT kT eT
      obtain ⟨l, hl, rfl⟩ : ∃ l, (linesL s)[i]? = some l ∧ v = .str l := by
        rw [List.getElem?_map] at hv
        cases e : (linesL s)[i]? with
        | none => rw [e] at hv; cases hv
        | some l => rw [e] at hv; exact ⟨l, rfl, (Option.some.inj hv).symm⟩
      have hil : i < (linesL s).length := (List.getElem?_eq_some_iff.mp hl).1
      have hlm := List.mem_of_getElem? hl
      have hWi : W[i]? = some (Txt.split l " ") := by rw [hWe, List.getElem?_map, hl]; rfl
      have hdrop : W.drop i = Txt.split l " " :: W.drop (i + 1) := by
        have h1 : i < W.length := by omega
        rw [List.drop_eq_getElem_cons h1]
        congr 1
        rw [List.getElem?_eq_getElem h1] at hWi
        exact Option.some.inj hWi
      obtain ⟨hwl, hwz⟩ := hW _ (List.mem_of_getElem? hWi)
      generalize hws : Txt.split l " " = ws at hWi hdrop hwl hwz
      have k5 := k4.trans kT
      refine Z.gtup (tupT eT) rfl ?_
      walk_at "z"
      have hl7 := hlz l hlm
      refine ⟨l, rfl, by omega, fun H6 wp nw k6 e6 => ?_⟩
      rw [hws] at e6
      have k06 := k5.trans k6
      have e6d := k6.get nin0 (kT.get nin0 e4d)
      have e6R := k6.get nin0 (kT.get nin0 e4R)
      have e6l := k6.get nin0 (kT.get nin0 e4l)
      have r6 := (r4.kp0 kT).kp0 k6
      walk_at "z"
      rw [show (1 + ((i : Nat) : Int)) = ((i + 1 : Nat) : Int) by omega]
      refine ⟨wp, d, ws, i + 1, kvs, rfl, e6, hwl, hwz, e6d, fun H7 v k7 hv => ?_⟩
      have k07 := k06.trans k7
      rw [hdrop, readL_cons] at hread
      walk_at "z"
      cases ho : lfault ws (i + 1) (fun z => (valV kvs (.inr z)).isSome) with
      | some cy =>
        obtain ⟨c, y⟩ := cy
        rw [ho] at hv hread
        obtain ⟨t, rfl, et⟩ := hv
        obtain ⟨c0, c1, hy⟩ := lfault_ok ho hwz
        refine Z.yesN (by simp) ?_
        walk_at "z"
        refine Z.gtup (tupT et) rfl ?_
        walk_at "z"
        refine mkErr ?_ (fun hRS h => ?_)
        · refine ⟨_, rfl, _, rfl, _, rfl, by simp, ⟨i + 1, c.toNat, y, ?_, by omega, by omega, hy⟩, fun d2 hd2 => ?_⟩
          · rw [show ((c.toNat : Nat) : Int) = c by omega]
          · exact hx (i + 1) c y hread H7 d2 k07 hd2
        · obtain ⟨v1, e1, v2, e2, v3, e3, h⟩ := h
          exact ⟨v1, e1, v2, e2, v3, e3, hRS _ _ h⟩
      | none =>
        rw [ho] at hv hread
        have hv' : v = .non := hv
        subst hv'
        obtain ⟨k, g, w, a, rfl, hwf⟩ := lfault_none ho
        obtain ⟨n, m, hwn, hwm⟩ := wfault_none hwf
        obtain ⟨tn, ln, _, _⟩ := within_some hwn cap1
        obtain ⟨tm, lm, _, _⟩ := within_some hwm capm
        have e7 := k7.get nin0 e6
        have e7d := k7.get nin0 e6d
        have e7R := k7.get nin0 e6R
        have e7l := k7.get nin0 e6l
        have r7 := r6.kp0 k7
        refine Z.noN rfl ?_
        walk_at "z"
        have nwd : wp ≠ d := (ne_of_none (kT.get nin0 e4d) nw).symm
        have nwR : wp ≠ R := (ne_of_none (kT.get nin0 e4R) nw).symm
        refine Z.ixL (v := .str k) (lstL e7) rfl ?_
        refine ⟨d, _, rfl, DPut.k (k := .inr k) e7d (Z.szl (m := 100000) (by omega)), ?_⟩
        have k8 : Kp [d] H7 (upd H7 d (.dK (putK kvs (.inr k) (.bl true)))) := Kp.put (by simp)
        have e8d : (upd H7 d (.dK (putK kvs (.inr k) (.bl true)))) d = some (.dK (putK kvs (.inr k) (.bl true))) := upd_same
        have r8 : RowsAt (upd H7 d (.dK (putK kvs (.inr k) (.bl true)))) ps := fun x hx => k8 _ _ (fun z => by
          have e := r7 x hx
          unfold RowAt at e
          rw [List.mem_singleton.mp z, e7d] at e
          cases e) (r7 x hx)
        revert k8 e8d r8
        generalize upd H7 d (.dK (putK kvs (.inr k) (.bl true))) = H8
        intro k8 e8d r8
        have e8R := k8.get (nin1 nRd) e7R
        have e8l := k8.get (nin1 ndl) e7l
        have e8w := k8.get (nin1 nwd) e7
        walk_at "z"
        refine ⟨Z.tyL e8R, ?_⟩
        walk_at "z"
        refine ⟨wp, k, g, w, a, n, m, rfl, e8w, tn, ln, tm, lm, fun H9 t nt k9 e9 => ?_⟩
        have e9R := k9.get nin0 e8R
        have r9 := r8.kp0 k9
        have ntR : t ≠ R := (ne_of_none e8R nt).symm
        walk_at "z"
        refine Z.app e9R (Z.szl (m := 100000) (by rw [refs_len]; omega)) ?_
        have kR : Kp [R] H9 (upd H9 R (.lst (refs ps ++ [.ref t]))) := Kp.put (by simp)
        have k09 : Kp [] H H9 := (k07.then1 k8 nd0).trans k9
        refine ⟨_, _, _, _, _, _, putK kvs (.inr k) (.bl true), ps ++ [(t, ⟨k, g, n, m⟩)], rfl, k09.mut nR rfl, kR.get (nin1 nRl) (k9.get nin0 e8l), by rw [upd_same, refs_snoc], kR.get (nin1 nRd.symm) (k9.get nin0 e8d), ?_, by simp [hpl], ?_, ?_, ?_⟩
        · have := putK_le9 kvs (.inr k) (.bl true)
          omega
        · exact (r9.kp1 kR e9R).snoc (show RowAt _ t _ from kR.get (nin1 ntR) e9)
        · rw [List.map_append, hrows, List.take_add_one, hWi, List.map_append]
          congr 1
          show [_] = [rowOf [k, g, w, a]]
          congr 1
          unfold rowOf
          simp [tn, tm]
        · rw [hread]
          dsimp only
          rw [nxt_put]
    · rintro σ' H4 ⟨y3, y4, y5, y6, y7, y8, kvs, ps, rfl, k4, e4l, e4R, e4d, hkl, hpl, r4, hrows, hread⟩
      rw [List.length_map, ← hlen, List.drop_length] at hread
      rw [List.length_map, ← hlen, List.take_length] at hrows
      walk_at "z"
      exact q hread H4 R ps nR k4 e4R r4 hrows

/-! ### samphire.writer -/
def numS (i : Int) : Str := Str.ofString (toString i)
def lineN (r : Row) : Str := Str.empty ++ r.k ++ " " ++ r.g ++ " " ++ numS r.w ++ " " ++ numS r.m ++ "\n"
structure RowT (r : Row) : Prop where
  kz : r.k.length ≤ 100
  gz : r.g.length ≤ 100
  wz : r.w.natAbs < 2 ^ 30
  mz : r.m.natAbs < 2 ^ 30
  wl : (numS r.w).length ≤ 100
  ml : (numS r.m).length ≤ 100
theorem lineN_len {r : Row} (h : RowT r) : (lineN r).length ≤ 1000 := by
  have z1 : (" " : Str).length = 1 := by decide +kernel
  have z2 : ("\n" : Str).length = 1 := by decide +kernel
  have z0 : Str.empty.length = 0 := rfl
  have := h.kz
  have := h.gz
  have := h.wl
  have := h.ml
  unfold lineN
  rw [app_len, app_len, app_len, app_len, app_len, app_len, app_len, app_len, z0, z1, z2]
  omega
def spWriteI (K : PySem.W.Frag) : Sp := fun vs H Q _ => ∃ (p : Addr) (ps : List (Addr × Row)), vs = [.ref p] ∧ H p = some (.lst (refs ps)) ∧ RowsAt H ps ∧ ps.length ≤ 1000 ∧ (∀ x ∈ ps, RowT x.2) ∧ ∀ H', Kp [] H H' → Q (.str (Txt.join "" (ps.map fun x => lineN x.2))) H'
theorem ok_write_items {P : Program} {w : World} {K : PySem.W.Frag} {mg : Str → Option Value} {base : Heap} (T : T P K mg) : FnOk P w K mg base CX0 1 T.a_write_items T.fd_write_items ["rows"] (spWriteI K) := by
  refine T.F_write_items.ok sc_write_items (fun vs H Q E h => ?_) (fun cdv A outer s H vs Q E hr h => ?_)
  · obtain ⟨p, ps, rfl, _⟩ := h
    rfl
  · obtain ⟨p, ps, rfl, hp, hps, hl, hT, q⟩ := h
    refine ⟨_, (pss_one (ps_ret (pe_bm PySem.F.plainAttrs_str PySem.F.slot_str_join PySem.F.type_str_join Z.m_join pe_str (pa_cons (pe_lc (own := [("key", 1), ("group", 2), ("weight", 3), ("amount", 4)]) (g := gTup K 4 (gCons (gName 1) (gCons (gName 2) (gCons (gName 3) (gCons (gName 4) gNil))))) rfl sc_write_items.nd (pi_list (pv 0)) (blkOk_by (own := [("key", 1), ("group", 2), ("weight", 3), ("amount", 4)]) (N := N_write_items) (sc := defScope s_write_items) (by decide +kernel)) (fun _ _ _ _ _ => (pg_tup rfl (pgs_cons (pg_name (i := 1) sc_write_items.nd rfl (by first | exact Or.inl rfl | exact Or.inr rfl)) (pgs_cons (pg_name (i := 2) sc_write_items.nd rfl (by first | exact Or.inl rfl | exact Or.inr rfl)) (pgs_cons (pg_name (i := 3) sc_write_items.nd rfl (by first | exact Or.inl rfl | exact Or.inr rfl)) (pgs_cons (pg_name (i := 4) sc_write_items.nd rfl (by first | exact Or.inl rfl | exact Or.inr rfl)) pgs_nil)))))) (fun _ _ _ _ _ => pts_nil) (fun _ _ _ _ _ => (Z.pe_joinedN (.cons (pe_fmt (pv 1)) (.cons pe_str (.cons (pe_fmt (pv 2)) (.cons pe_str (.cons (pe_fmt (pv 3)) (.cons pe_str (.cons (pe_fmt (pv 4)) (.cons pe_str .nil))))))))))) pa_nil)))), ?_⟩
    walk_at "z0"
    walk_at "z"
    refine ⟨tyStr, ?_⟩
    walk_at "z"
    refine Z.lcl (refs ps) (lstL hp) (fun D i H' => Kp [] H H' ∧ H' D = some (.lst (((ps.take i).map fun x => lineN x.2).map V.str))) ?_ ?_ ?_ ?_
    · intro D H1 nD k1 e1
      exact ⟨k1, e1⟩
    · rintro D i H1 nD hi ⟨k1, e1⟩
      exact lstL (k1.get nin0 hp)
    · rintro D i v H1 nD hv ⟨k1, e1⟩
      obtain ⟨x, hx, rfl⟩ := refs_of hv
      have hm := List.mem_of_getElem? hx
      have hi : i < ps.length := (List.getElem?_eq_some_iff.mp hx).1
      have hrow := hps.kp0 k1 x hm
      have ht := hT x hm
      dsimp only [wipe, List.set]
      walk_at "z"
      refine Z.gtup (tupT hrow) rfl ?_
      dsimp only [Row.vs]
      walk_at "z"
      refine ⟨rfl, ?_⟩
      walk_at "z"
      obtain ⟨a1, a2, a3, a4, a5, a6⟩ := ht
      have z1 : (" " : Str).length = 1 := by decide +kernel
      have z2 : ("\n" : Str).length = 1 := by decide +kernel
      have z0 : Str.empty.length = 0 := rfl
      have zl : 100000 ≤ sizeLine := by decide
      have l3 : x.2.w.natAbs.log2 < 1920 := Nat.lt_of_lt_of_le (PySem.Flt.log2_lt_of (k := 30) (by decide) a3) (by decide)
      have l4 : x.2.m.natAbs.log2 < 1920 := Nat.lt_of_lt_of_le (PySem.Flt.log2_lt_of (k := 30) (by decide) a4) (by decide)
      have b5 : (Str.ofString (toString x.2.w)).length ≤ 100 := a5
      have b6 : (Str.ofString (toString x.2.m)).length ≤ 100 := a6
      refine ⟨_, rfl, .inl ⟨_, rfl, by omega, _, rfl, ?_, _, rfl, ?_, _, rfl, .inl ⟨_, rfl, by omega, _, rfl, ?_, _, rfl, ?_, _, rfl, .inr ⟨_, rfl, l3, _, rfl, ?_, _, rfl, ?_, _, rfl, .inr ⟨_, rfl, l4, _, rfl, ?_, _, rfl, ?_, ?_⟩⟩⟩⟩⟩
      · rw [app_len, z0]; omega
      · rw [app_len, app_len, z0, z1]; omega
      · rw [app_len, app_len, app_len, z0, z1]; omega
      · rw [app_len, app_len, app_len, app_len, z0, z1]; omega
      · rw [app_len, app_len, app_len, app_len, app_len, z0, z1]; omega
      · rw [app_len, app_len, app_len, app_len, app_len, app_len, z0, z1]; omega
      · rw [app_len, app_len, app_len, app_len, app_len, app_len, app_len, z0, z1]; omega
      · rw [app_len, app_len, app_len, app_len, app_len, app_len, app_len, app_len, z0, z1, z2]; omega
      refine ⟨_, e1, Z.szl (m := 1000) (by rw [List.length_map, List.length_map, List.length_take]; omega), k1.mut nD rfl, ?_⟩
      rw [upd_same, List.take_add_one, hx, List.map_append, List.map_append]; rfl
    · rintro D H1 nD ⟨k1, e1⟩
      rw [refs_len, List.take_length] at e1
      walk_at "z"
      refine Z.join (lstL e1) ?_ (q H1 k1)
      have hs := Z.lens_le (n := 1000) (ys := ps.map fun x => lineN x.2) (fun y hy => by
        obtain ⟨x, hx, rfl⟩ := List.mem_map.mp hy
        exact lineN_len (hT x hx))
      rw [List.length_map] at hs ⊢
      rw [show ("" : Str).length = 0 by decide +kernel]
      omega

/-! ### texts of items -/
theorem emp_app (s : Str) : Str.empty ++ s = s := by
  refine TL.ext_tl ?_
  rw [TL.tl_append]
  rfl
theorem app_assoc (a b c : Str) : a ++ b ++ c = a ++ (b ++ c) := by
  refine TL.ext_tl ?_
  rw [TL.tl_append, TL.tl_append, TL.tl_append, TL.tl_append, List.append_assoc]
def lineL (r : Row) : Str := r.k ++ " " ++ r.g ++ " " ++ numS r.w ++ " " ++ numS r.m
theorem lineN_eq (r : Row) : lineN r = lineL r ++ "\n" := by
  unfold lineN lineL
  rw [emp_app]
def parts (r : Row) : List Str := [r.k, r.g, numS r.w, numS r.m]
theorem lineL_join (r : Row) : lineL r = Txt.join " " (parts r) := by
  rw [TL.join_eq]
  refine TL.ext_tl ?_
  rw [TL.tl_join]
  unfold lineL parts
  simp only [TL.tl_append, List.map, TL.joinL, List.append_assoc]
theorem lineL_split {r : Row} (h : ∀ p ∈ parts r, 32 ∉ TL.tl p) : Txt.split (lineL r) " " = parts r := by
  rw [lineL_join]
  exact TL.split_join (s := 32) (S := []) (by decide +kernel) (by decide +kernel) (by simp [parts]) h
theorem split_text {ls : List Str} (hne : ls ≠ []) (h : ∀ l ∈ ls, 10 ∉ TL.tl l) : Txt.split (Txt.join "\n" ls) "\n" = ls :=
  TL.split_join (s := 10) (S := []) (by decide +kernel) (by decide +kernel) hne h
theorem linesL_text {ls : List Str} (hne : ls ≠ []) (h : ∀ l ∈ ls, 10 ∉ TL.tl l) (he : ∀ l ∈ ls, l ≠ "") : linesL (Txt.join "\n" ls) = ls := by
  unfold linesL
  rw [split_text hne h]
  obtain ⟨r, x, hx⟩ := last_of hne
  rw [if_neg]
  rw [hx, List.getLast?_concat]
  intro z
  exact he x (by rw [hx]; simp) (Option.some.inj z)
theorem joinE : ∀ ls : List Str, TL.tl (Txt.join "" ls) = (ls.map TL.tl).flatten := by
  intro ls
  rw [TL.join_eq, TL.tl_join]
  have e : TL.tl ("" : Str) = [] := by decide +kernel
  rw [e]
  induction ls with
  | nil => rfl
  | cons a r ih =>
    cases r with
    | nil => simp [TL.joinL]
    | cons b r =>
      show TL.tl a ++ ([] ++ TL.joinL [] ((b :: r).map TL.tl)) = _
      rw [ih, List.nil_append]
      rfl
theorem joinN : ∀ ls : List Str, TL.tl (Txt.join "\n" (ls ++ [("" : Str)])) = ((ls.map fun l => l ++ ("\n" : Str)).map TL.tl).flatten := by
  intro ls
  rw [TL.join_eq, TL.tl_join]
  have e : TL.tl ("\n" : Str) = [10] := by decide +kernel
  have e0 : TL.tl ("" : Str) = [] := by decide +kernel
  rw [e]
  induction ls with
  | nil => exact e0
  | cons a r ih =>
    have h2 : ((a :: r) ++ [("" : Str)]).map TL.tl = TL.tl a :: (r ++ [("" : Str)]).map TL.tl := rfl
    rw [h2]
    have h3 : ∀ (p : List Nat) (q : List (List Nat)), q ≠ [] → TL.joinL [10] (p :: q) = p ++ ([10] ++ TL.joinL [10] q) := fun p q hq => by
      cases q with
      | nil => exact absurd rfl hq
      | cons x y => rfl
    rw [h3 _ _ (by simp), ih, List.map_cons, List.map_cons, List.flatten_cons, TL.tl_append, e, List.append_assoc]
theorem text2_eq (ls : List Str) : Txt.join "" (ls.map fun l => l ++ ("\n" : Str)) = Txt.join "\n" (ls ++ [("" : Str)]) := TL.ext_tl (by rw [joinE, joinN])
theorem linesL_text2 {ls : List Str} (h : ∀ l ∈ ls, 10 ∉ TL.tl l) : linesL (Txt.join "" (ls.map fun l => l ++ ("\n" : Str))) = ls := by
  rw [text2_eq]
  unfold linesL
  rw [split_text (by simp) (fun l hl => by
    rcases List.mem_append.mp hl with z | z
    · exact h l z
    · rw [List.mem_singleton.mp z]; decide +kernel)]
  rw [List.getLast?_concat, if_pos rfl, List.dropLast_concat]
/-- rows that can be read -/
structure RowG (r : Row) : Prop where
  k : fineB r.k = true
  g : fineB r.g = true
  w0 : 1 ≤ r.w
  w1 : r.w ≤ 1000
  m0 : -1000 ≤ r.m
  m1 : r.m ≤ 1000
theorem fine_all {s : Str} (h : fineB s = true) : fineB s = true ∧ 32 ∉ TL.tl s ∧ 10 ∉ TL.tl s ∧ s.length ≤ 100 := by
  have h0 := h
  unfold fineB at h
  rw [Bool.and_eq_true, Bool.and_eq_true, decide_eq_true_eq, decide_eq_true_eq] at h
  have hs : ∀ c ∈ TL.tl s, c ∈ signs.cps.toList := fun c hc => of_decide_eq_true (List.all_eq_true.mp h.2.2 c hc)
  refine ⟨h0, fun z => absurd (hs _ z) (by decide +kernel), fun z => absurd (hs _ z) (by decide +kernel), ?_⟩
  have : s.length ≤ 12 := h.2.1
  omega
/-! ### the items of a law are read back -/
def chkW (i : Int) : Bool := decide (withinO (numS i) 1 1000 = some i) && decide ((numS i).length ≤ 10)
def chkM (i : Int) : Bool := decide (withinO (numS i) (-1000) 1000 = some i) && decide ((numS i).length ≤ 10)
theorem chkW_all : ∀ i : Fin 1000, chkW ((i.val : Int) + 1) = true := by decide +kernel
theorem chkM_all : ∀ i : Fin 2001, chkM ((i.val : Int) - 1000) = true := by decide +kernel
theorem wOk {w : Int} (h0 : 1 ≤ w) (h1 : w ≤ 1000) : withinO (numS w) 1 1000 = some w ∧ (numS w).length ≤ 10 := by
  have h := chkW_all ⟨(w - 1).toNat, by omega⟩
  rw [show (((w - 1).toNat : Nat) : Int) + 1 = w by omega] at h
  unfold chkW at h
  rw [Bool.and_eq_true, decide_eq_true_eq, decide_eq_true_eq] at h
  exact h
theorem mOk {w : Int} (h0 : -1000 ≤ w) (h1 : w ≤ 1000) : withinO (numS w) (-1000) 1000 = some w ∧ (numS w).length ≤ 10 := by
  have h := chkM_all ⟨(w + 1000).toNat, by omega⟩
  rw [show (((w + 1000).toNat : Nat) : Int) - 1000 = w by omega] at h
  unfold chkM at h
  rw [Bool.and_eq_true, decide_eq_true_eq, decide_eq_true_eq] at h
  exact h
theorem num_free (c : Nat) (h : c < 45) (i : Int) : c ∉ TL.tl (numS i) := by
  intro hm
  exact PyProof.Rows.int_text_free' c ⟨by omega, by omega⟩ i hm
theorem RowG.parts_free {r : Row} (h : RowG r) {c : Nat} (hc : c = 32 ∨ c = 10) : ∀ p ∈ parts r, c ∉ TL.tl p := by
  intro p hp
  unfold parts at hp
  simp only [List.mem_cons, List.not_mem_nil, or_false] at hp
  have hk := fine_all h.k
  have hg := fine_all h.g
  rcases hp with rfl | rfl | rfl | rfl
  · rcases hc with rfl | rfl
    · exact hk.2.1
    · exact hk.2.2.1
  · rcases hc with rfl | rfl
    · exact hg.2.1
    · exact hg.2.2.1
  · exact num_free c (by omega) _
  · exact num_free c (by omega) _
theorem RowG.split {r : Row} (h : RowG r) : Txt.split (lineL r) " " = parts r := lineL_split (h.parts_free (.inl rfl))
theorem RowG.t {r : Row} (h : RowG r) : RowT r := by
  have h0 := h.w0
  have h1 := h.w1
  have h2 := h.m0
  have h3 := h.m1
  exact ⟨(fine_all h.k).2.2.2, (fine_all h.g).2.2.2, Nat.lt_of_le_of_lt (by omega : r.w.natAbs ≤ 1000) (by decide), Nat.lt_of_le_of_lt (by omega : r.m.natAbs ≤ 1000) (by decide), Nat.le_trans (wOk h0 h1).2 (by decide), Nat.le_trans (mOk h2 h3).2 (by decide)⟩
theorem RowG.wf {r : Row} (h : RowG r) : wfault r.k r.g (numS r.w) (numS r.m) = none := by
  unfold wfault
  rw [if_neg (by rw [(fine_all h.k).1]; decide), if_neg (by rw [(fine_all h.g).1]; decide), (wOk h.w0 h.w1).1, (mOk h.m0 h.m1).1, if_neg (by simp), if_neg (by simp)]
theorem RowG.lf {r : Row} (h : RowG r) {num : Nat} {tk : Str → Bool} (h1 : tk r.k = false) (h2 : num ≤ 1000) : lfault (parts r) num tk = none := by
  unfold parts lfault
  dsimp only
  rw [h.wf]
  dsimp only
  rw [if_neg (by rw [h1]; decide), if_neg (by omega)]
theorem RowG.row {r : Row} (h : RowG r) : rowOf (parts r) = r := by
  have h1 := (within_some (wOk h.w0 h.w1).1 cap1).1
  have h2 := (within_some (mOk h.m0 h.m1).1 capm).1
  unfold rowOf parts
  simp [h1, h2]
theorem nxt_false {tk : Str → Bool} {ws : List Str} {s : Str} (h : tk s = false) (h2 : ¬ s = ws.headD "") : nxtTk tk ws s = false := by
  unfold nxtTk
  rw [if_neg h2]
  exact h
/-- items and what follows them -/
theorem readL_items : ∀ {rs : List Row} {num : Nat} {tk : Str → Bool} {rest : List (List Str)}, (∀ r ∈ rs, RowG r) → (rs.map fun r => r.k).Nodup → (∀ r ∈ rs, tk r.k = false) → num + rs.length ≤ 1001 →
    ∃ tk', (∀ s, tk' s = (tk s || decide (s ∈ rs.map fun r => r.k))) ∧ readL num tk (rs.map parts ++ rest) = readL (num + rs.length) tk' rest
  | [], num, tk, rest, _, _, _, _ => ⟨tk, fun s => by simp, rfl⟩
  | r :: rs, num, tk, rest, h, hn, ht, hl => by
    have hr := h r (by simp)
    rw [List.length_cons] at hl
    rw [List.map_cons, List.nodup_cons] at hn
    have e : lfault (parts r) num tk = none := hr.lf (ht r (by simp)) (by omega)
    obtain ⟨tk', h1, h2⟩ := readL_items (rs := rs) (num := num + 1) (tk := nxtTk tk (parts r)) (rest := rest) (fun z hz => h z (by simp [hz])) hn.2 (fun z hz => nxt_false (ht z (by simp [hz])) (fun e => hn.1 (by
      have e' : z.k = r.k := e
      rw [← e']
      exact List.mem_map.mpr ⟨z, hz, rfl⟩))) (by omega)
    refine ⟨tk', fun s => ?_, ?_⟩
    · rw [h1]
      unfold nxtTk
      by_cases hs : s = r.k
      · rw [if_pos (show s = (parts r).headD "" from hs)]
        simp [hs]
      · rw [if_neg (show ¬ s = (parts r).headD "" from hs)]
        simp [hs]
    · rw [List.map_cons, List.cons_append, readL_cons, e]
      dsimp only
      rw [h2, List.length_cons]
      congr 1
      omega

/-! ### samphire.things -/
def spReason : Sp := fun vs H Q _ => ∃ (p : Addr) (r : Row), vs = [.ref p] ∧ RowAt H p r ∧ RowS r ∧ Q (optV (reasonOf r)) H
theorem ok_reason_against {P : Program} {w : World} {K : PySem.W.Frag} {mg : Str → Option Value} {base : Heap} (T : T P K mg) : FnOk P w K mg base CX0 3 T.a_reason_against T.fd_reason_against ["row"] spReason := by
  refine T.F_reason_against.ok sc_reason_against (fun vs H Q E h => ?_) (fun cdv A outer s H vs Q E hr h => ?_)
  · obtain ⟨p, r, rfl, _⟩ := h
    rfl
  · obtain ⟨p, r, rfl, hp, hrs, q⟩ := h
    refine ⟨_, (pss_cons (ps_asg (pv 0) (pg_tup rfl (pgs_cons (pg_name (i := 1) sc_reason_against.nd rfl (by first | exact Or.inl rfl | exact Or.inr rfl)) (pgs_cons (pg_name (i := 2) sc_reason_against.nd rfl (by first | exact Or.inl rfl | exact Or.inr rfl)) (pgs_cons (pg_name (i := 3) sc_reason_against.nd rfl (by first | exact Or.inl rfl | exact Or.inr rfl)) (pgs_cons (pg_name (i := 4) sc_reason_against.nd rfl (by first | exact Or.inl rfl | exact Or.inr rfl)) pgs_nil))))))
      (pss_cons (ps_if (pt_not (pt_val (pe_call (ok_is_name T) (hr.mono (by decide)) (by rfl) T.g_is_name T.F_is_name.kp T.b_is_name .nil pass0 (pa_cons (pv 1) pa_nil)))) (pss_one (ps_ret pe_str)) pss_nil)
      (pss_cons (ps_if (pt_not (pt_val (pe_call (ok_is_name T) (hr.mono (by decide)) (by rfl) T.g_is_name T.F_is_name.kp T.b_is_name .nil pass0 (pa_cons (pv 2) pa_nil)))) (pss_one (ps_ret pe_str)) pss_nil)
      (pss_cons (ps_if (pt_not (pt_chain op_le op_le pe_int (pv 3) (pe_glob (by rfl) T.g_MOST_WEIGHT T.r_MOST_WEIGHT))) (pss_one (ps_ret pe_str)) pss_nil)
      (pss_cons (ps_if (pt_not (pt_chain op_le op_le (pe_un un_neg (pe_glob (by rfl) T.g_MOST_AMOUNT T.r_MOST_AMOUNT)) (pv 4) (pe_glob (by rfl) T.g_MOST_AMOUNT T.r_MOST_AMOUNT))) (pss_one (ps_ret pe_str)) pss_nil)
      (pss_one (ps_ret pe_non))))))), ?_⟩
    walk_at "z0"
    walk_at "z"
    refine Z.gtup (tupT hp) rfl ?_
    dsimp only [Row.vs]
    walk_at "z"
    refine ⟨r.k, rfl, Nat.le_trans hrs.kz (by decide), ?_⟩
    walk_at "z"
    cases hk : fineB r.k with
    | false =>
      walk_at "z"
      rw [reason_key hk] at q
      exact q
    | true =>
      walk_at "z"
      refine ⟨r.g, rfl, Nat.le_trans hrs.gz (by decide), ?_⟩
      walk_at "z"
      cases hg : fineB r.g with
      | false =>
        walk_at "z"
        rw [reason_group hk hg] at q
        exact q
      | true =>
        walk_at "z"
        refine Z.ite (fun h1 => ?_) (fun h1 => ?_)
        · walk_at "z"
          refine Z.iteN (fun h2 => ?_) (fun h2 => ?_)
          · walk_at "z"
            rw [reason_weight hk hg (by omega)] at q
            exact q
          · walk_at "z"
            refine Z.ite (fun h3 => ?_) (fun h3 => ?_)
            · walk_at "z"
              refine Z.iteN (fun h4 => ?_) (fun h4 => ?_)
              · walk_at "z"
                rw [reason_amount hk hg (by omega) (by omega)] at q
                exact q
              · walk_at "z"
                rw [reason_none hk hg (by omega) (by omega)] at q
                exact q
            · walk_at "z"
              rw [reason_amount hk hg (by omega) (by omega)] at q
              exact q
        · walk_at "z"
          rw [reason_weight hk hg (by omega)] at q
          exact q
theorem putK_le {κ : Type} [DecidableEq κ] (kvs : List (κ × V)) (k : κ) (v : V) : (putK kvs k v).length ≤ kvs.length + 1 := by
  unfold putK
  split
  · rw [List.length_map]; omega
  · rw [List.length_append]; simp
def spCheck (K : PySem.W.Frag) : Sp := fun vs H Q _ => ∃ (p : Addr) (ps : List (Addr × Row)), vs = [.ref p] ∧ H p = some (.lst (refs ps)) ∧ RowsAt H ps ∧ (∀ x ∈ ps, RowS x.2) ∧ ps.length ≤ 1000 ∧ ∀ H' v o, Kp [] H H' → First ps o → FaultV H' v o → Q v H'
theorem ok_check_items {P : Program} {w : World} {K : PySem.W.Frag} {mg : Str → Option Value} {base : Heap} (T : T P K mg) : FnOk P w K mg base CX0 4 T.a_check_items T.fd_check_items ["rows"] (spCheck K) := by
  refine T.F_check_items.ok sc_check_items (fun vs H Q E h => ?_) (fun cdv A outer s H vs Q E hr h => ?_)
  · obtain ⟨p, ps, rfl, _⟩ := h
    rfl
  · obtain ⟨p, ps, rfl, hp, hps, hs, hl, q⟩ := h
    refine ⟨_, (pss_cons (ps_set (i := 1) sc_check_items.nd rfl (by first | exact Or.inl rfl | exact Or.inr rfl) pe_dnewK)
      (pss_cons (ps_for PassesOwn.never rfl (pi_enum (by rfl) T.z_enumerate (pa_cons (pv 0) pa_nil)) (pg_tup rfl (pgs_cons (pg_name (i := 2) sc_check_items.nd rfl (by first | exact Or.inl rfl | exact Or.inr rfl)) (pgs_cons (pg_name (i := 3) sc_check_items.nd rfl (by first | exact Or.inl rfl | exact Or.inr rfl)) pgs_nil))) (pss_cons (ps_set (i := 4) sc_check_items.nd rfl (by first | exact Or.inl rfl | exact Or.inr rfl) (pe_call (ok_reason_against T) (hr.mono (by decide)) (by rfl) T.g_reason_against T.F_reason_against.kp T.b_reason_against .nil pass0 (pa_cons (pv 3) pa_nil)))
      (Z.pss_consJ (ps_if (PW.pt (pw_and (pt_cmpR o_isN (pv 4) pe_non (nomark _)) (pw_and1 (pt_cmp (pc_din (hu_of hr) (pe_ix ix_tup (pv 3) pe_int (fun _ _ => rfl)) (pv 1)) rfl)))) (pss_one (ps_set (i := 4) sc_check_items.nd rfl (by first | exact Or.inl rfl | exact Or.inr rfl) pe_str)) pss_nil)
      (pss_cons (ps_if (pt_cmpR o_notN (pv 4) pe_non (nomark _)) (pss_one (ps_ret (pe_tup (pa_cons (pv 2) (pa_cons (pv 4) pa_nil))))) pss_nil)
      (pss_one (ps_dput (hu_of hr) (pv 1) (pe_ix ix_tup (pv 3) pe_int (fun _ _ => rfl)) pe_bl rfl))))))
      (pss_one (ps_ret pe_non)))), ?_⟩
    walk_at "z0"
    walk_at "z"
    refine Z.dnew (fun d H1 nd k1 e1 => ?_)
    walk_at "z"
    refine Z.fore (refs ps) (lstL (k1.get nin0 hp)) (fun i σ' H' => ∃ y2 y3 y4, ∃ kvs : List (Key × V), σ' = [some (.ref p), some (.ref d), y2, y3, y4] ∧ Kp [] H H' ∧ H' d = some (.dK kvs) ∧ kvs.length ≤ i ∧ (∀ s, (valV kvs (.inr s)).isSome = decide (s ∈ keysTo ps i)) ∧ ∀ j, j < i → reasonAt ps j = none) ?_ ?_ ?_ ?_
    · exact ⟨_, _, _, [], rfl, k1, e1, by simp, fun s => by simp [keysTo, valV], fun j hj => by omega⟩
    · rintro i σ' H' hi ⟨y2, y3, y4, kvs, rfl, k2, _⟩
      exact lstL (k2.get nin0 hp)
    · rintro i v σ' H2 H3 Tp hv ⟨y2, y3, y4, kvs, rfl, k2, e2, hkl, hkeys, hno⟩ nT kT eT
      obtain ⟨x, hx, rfl⟩ := refs_of hv
      have hmem : x ∈ ps := List.mem_of_getElem? hx
      have hlt : i < ps.length := (List.getElem?_eq_some_iff.mp hx).1
      have k3 := k2.trans kT
      have e3 := kT.get nin0 e2
      have hrow := hps.kp0 k3 x hmem
      refine Z.gtup (tupT eT) rfl ?_
      walk_at "z"
      refine ⟨x.1, x.2, rfl, hrow, hs x hmem, ?_⟩
      walk_at "z"
      refine Z.seqJ (fun σ' H' => ∃ o : Option Str, σ' = [some (.ref p), some (.ref d), some (.int (i : Nat)), some (.ref x.1), some (optV o)] ∧ H' = H3 ∧ reasonAt ps i = o) ?_ ?_
      · rintro σ' H' ⟨o, rfl, rfl, ho⟩
        walk_at "z"
        rw [optV_non]
        cases o with
        | none =>
          dsimp only [Option.isNone]
          walk_at "z"
          refine RowAt.k0 hrow ?_
          have hnt : ¬ x.2.k ∈ keysTo ps i ∧ reasonOf x.2 = none := by
            cases hr2 : reasonOf x.2 with
            | some y => rw [reasonAt_1 hx hr2] at ho; cases ho
            | none =>
              refine ⟨fun z => ?_, rfl⟩
              rw [reasonAt_2 hx hr2 z] at ho
              cases ho
          refine ⟨d, _, rfl, DPut.k (k := .inr x.2.k) e3 (Z.szl (m := 1000) (by omega)), ?_⟩
          refine ⟨_, _, _, putK kvs (.inr x.2.k) (.bl true), rfl, k3.mut nd rfl, upd_same, ?_, ?_, ?_⟩
          · have := putK_le kvs (.inr x.2.k) (.bl true)
            omega
          · intro s
            rw [valV_put, keysTo_succ hx]
            by_cases e : s = x.2.k
            · subst e; simp
            · rw [if_neg (by intro z; cases z; exact e rfl), hkeys s]
              simp [e]
          · intro j hj
            by_cases e : j = i
            · rw [e]; exact ho
            · exact hno j (by omega)
        | some y =>
          dsimp only [Option.isNone]
          walk_at "z"
          refine Z.tupK (fun t H4 nt k4 e4 => ?_)
          exact q H4 (.ref t) (some (i, y)) (k3.trans k4) ⟨hlt, ho, hno⟩ ⟨t, rfl, e4⟩
      · intro N jn
        walk_at "z"
        rw [optV_non]
        cases hr2 : reasonOf x.2 with
        | some y =>
          dsimp only [Option.isNone]
          walk_at "z"
          exact jn _ _ ⟨some y, rfl, rfl, reasonAt_1 hx hr2⟩
        | none =>
          dsimp only [Option.isNone]
          walk_at "z"
          refine RowAt.k0 hrow ?_
          walk_at "z"
          refine ⟨d, _, rfl, DGet.k (k := .inr x.2.k) e3, ?_⟩
          walk_at "z"
          rw [hkeys]
          refine Z.ite (fun h1 => ?_) (fun h1 => ?_)
          · walk_at "z"
            exact jn _ _ ⟨some ("taken" : Str), rfl, rfl, reasonAt_2 hx hr2 h1⟩
          · walk_at "z"
            exact jn _ _ ⟨none, rfl, rfl, reasonAt_3 hx hr2 h1⟩
    · rintro σ' H' ⟨y2, y3, y4, kvs, rfl, k2, e2, hkl, hkeys, hno⟩
      rw [refs_len] at hno
      walk_at "z"
      exact q H' .non none k2 hno rfl
/-! ### the law's own reading -/

/-! ### any text: its lines and words -/
theorem spl_bd (s : Nat) : ∀ (l acc : List Nat), TL.spl [s] 0 acc l ≠ [] ∧ (TL.spl [s] 0 acc l).length ≤ l.length + 1 ∧ ∀ p ∈ TL.spl [s] 0 acc l, p.length ≤ acc.length + l.length
  | [], acc => by
    rw [TL.spl_nil]
    refine ⟨by simp, by simp, fun p hp => ?_⟩
    rw [List.mem_singleton.mp hp]; simp
  | c :: r, acc => by
    cases h : TL.pre [s] (c :: r) with
    | true =>
      obtain ⟨h1, h2, h3⟩ := spl_bd s r []
      rw [TL.spl_hit h, show ([s] : List Nat).length - 1 = 0 from rfl]
      refine ⟨by simp, by rw [List.length_cons, List.length_cons]; omega, fun p hp => ?_⟩
      rw [List.length_cons]
      rcases List.mem_cons.mp hp with rfl | hp
      · omega
      · have := h3 p hp
        rw [List.length_nil] at this
        omega
    | false =>
      obtain ⟨h1, h2, h3⟩ := spl_bd s r (acc ++ [c])
      rw [TL.spl_miss h]
      refine ⟨h1, by rw [List.length_cons]; omega, fun p hp => ?_⟩
      have := h3 p hp
      rw [List.length_append, List.length_singleton] at this
      rw [List.length_cons]
      omega
theorem split_bd {x y : Str} {s : Nat} (ey : TL.tl y = [s]) (hk : y.cps.all (· < 256) = true) : Txt.split x y ≠ [] ∧ (Txt.split x y).length ≤ x.length + 1 ∧ ∀ p ∈ Txt.split x y, p.length ≤ x.length := by
  have e := TL.split_spl x y (by rw [ey]; simp) (TL.kind_ok hk)
  obtain ⟨h1, h2, h3⟩ := spl_bd s (TL.tl x) []
  rw [ey] at e
  have hx : (TL.tl x).length = x.length := Array.length_toList
  refine ⟨fun z => ?_, ?_, fun p hp => ?_⟩
  · rw [z] at e
    exact h1 e.symm
  · rw [← List.length_map (f := TL.tl), e]; omega
  · have := h3 (TL.tl p) (by rw [← e]; exact List.mem_map_of_mem hp)
    have hpl : (TL.tl p).length = p.length := Array.length_toList
    rw [List.length_nil] at this
    omega
theorem tl_nl : TL.tl ("\n" : Str) = [10] := by decide +kernel
theorem tl_sp1 : TL.tl (" " : Str) = [32] := by decide +kernel
theorem split_nl (x : Str) : Txt.split x "\n" ≠ [] ∧ (Txt.split x "\n").length ≤ x.length + 1 ∧ ∀ p ∈ Txt.split x "\n", p.length ≤ x.length := split_bd tl_nl (by decide +kernel)
theorem split_sp (x : Str) : Txt.split x " " ≠ [] ∧ (Txt.split x " ").length ≤ x.length + 1 ∧ ∀ p ∈ Txt.split x " ", p.length ≤ x.length := split_bd tl_sp1 (by decide +kernel)
theorem lines_bd (x : Str) : (linesL x).length ≤ x.length + 1 ∧ ∀ p ∈ linesL x, p.length ≤ x.length := by
  obtain ⟨h1, h2, h3⟩ := split_nl x
  unfold linesL
  split
  · exact ⟨by rw [List.length_dropLast]; omega, fun p hp => h3 p (List.dropLast_subset _ hp)⟩
  · exact ⟨h2, h3⟩
def linesW (s : Str) : List (List Str) := (linesL s).map fun l => Txt.split l " "
theorem linesW_bd {s : Str} (h : s.length ≤ 90000) : ∀ ws ∈ linesW s, ws.length ≤ 100000 ∧ ∀ w ∈ ws, w.cps.size ≤ 100000 := by
  intro ws hw
  obtain ⟨l, hl, rfl⟩ := List.mem_map.mp hw
  have h1 := (lines_bd s).2 l hl
  obtain ⟨g1, g2, g3⟩ := split_sp l
  refine ⟨by omega, fun w hw => ?_⟩
  have : w.length ≤ l.length := g3 w hw
  show w.length ≤ 100000
  omega
def readO (s : Str) : Option (Nat × Int × Str) := readL 1 (fun _ => false) (linesW s)
def rowsX (s : Str) : List Row := (linesW s).map rowOf
/-! rows of a text without a fault -/
theorem wfault_fine {k g w a : Str} (h : wfault k g w a = none) : fineB k = true ∧ fineB g = true ∧ ∃ n m, withinO w 1 1000 = some n ∧ withinO a (-1000) 1000 = some m := by
  refine ⟨?_, ?_, wfault_none h⟩
  · cases e : fineB k with
    | true => rfl
    | false => unfold wfault at h; rw [if_pos e] at h; cases h
  · cases e : fineB g with
    | true => rfl
    | false =>
      unfold wfault at h
      rw [if_pos e] at h
      split at h <;> cases h
theorem lfault_rows {ws : List Str} {num : Nat} {tk : Str → Bool} (h : lfault ws num tk = none) : RowG (rowOf ws) ∧ tk (rowOf ws).k = false ∧ num ≤ 1000 ∧ ws.headD "" = (rowOf ws).k := by
  obtain ⟨k, g, w, a, rfl, hw⟩ := lfault_none h
  obtain ⟨hk, hg, n, m, hn, hm⟩ := wfault_fine hw
  obtain ⟨n1, n2, n3, n4⟩ := within_some hn cap1
  obtain ⟨m1, m2, m3, m4⟩ := within_some hm capm
  have er : rowOf [k, g, w, a] = ⟨k, g, n, m⟩ := by
    unfold rowOf
    simp [n1, m1]
  rw [er]
  unfold lfault at h
  dsimp only at h
  rw [hw] at h
  dsimp only at h
  refine ⟨⟨hk, hg, n3, n4, m3, m4⟩, ?_, ?_, rfl⟩
  · cases e : tk k with
    | false => rfl
    | true => rw [e, if_pos rfl] at h; cases h
  · by_cases hn : num > 1000
    · rw [if_pos hn] at h
      split at h <;> cases h
    · omega
theorem readL_rows : ∀ {W : List (List Str)} {num : Nat} {tk : Str → Bool}, readL num tk W = none → (∀ r ∈ W.map rowOf, RowG r) ∧ ((W.map rowOf).map fun r => r.k).Nodup ∧ (∀ r ∈ W.map rowOf, tk r.k = false) ∧ (num + W.length ≤ 1001 ∨ W = [])
  | [], num, tk, _ => ⟨fun r h => (by cases h), by simp, fun r h => (by cases h), .inr rfl⟩
  | ws :: W, num, tk, h => by
    rw [readL_cons] at h
    cases e : lfault ws num tk with
    | some x => obtain ⟨c, y⟩ := x; rw [e] at h; cases h
    | none =>
      rw [e] at h
      dsimp only at h
      obtain ⟨g1, g2, g3, g4⟩ := lfault_rows e
      obtain ⟨h1, h2, h3, h4⟩ := readL_rows h
      have hx : ∀ r ∈ W.map rowOf, tk r.k = false ∧ ¬ r.k = (rowOf ws).k := fun r hr => by
        have := h3 r hr
        unfold nxtTk at this
        rw [g4] at this
        by_cases hk : r.k = (rowOf ws).k
        · rw [if_pos hk] at this; cases this
        · rw [if_neg hk] at this
          exact ⟨this, hk⟩
      rw [List.map_cons]
      refine ⟨fun r hr => ?_, ?_, fun r hr => ?_, .inl ?_⟩
      · rcases List.mem_cons.mp hr with rfl | hr
        · exact g1
        · exact h1 r hr
      · rw [List.map_cons, List.nodup_cons]
        refine ⟨fun hm => ?_, h2⟩
        obtain ⟨r, hr, er⟩ := List.mem_map.mp hm
        exact (hx r hr).2 er
      · rcases List.mem_cons.mp hr with rfl | hr
        · exact g2
        · exact (hx r hr).1
      · rw [List.length_cons]
        rcases h4 with h4 | h4
        · omega
        · subst h4
          rw [List.length_nil]
          omega
structure RowsG (rs : List Row) : Prop where
  ok : ∀ r ∈ rs, RowG r
  nd : (rs.map fun r => r.k).Nodup
  len : rs.length ≤ 1000
theorem rowsX_ok {s : Str} (h : readO s = none) : RowsG (rowsX s) := by
  obtain ⟨h1, h2, _, h4⟩ := readL_rows h
  refine ⟨h1, h2, ?_⟩
  unfold rowsX
  rw [List.length_map]
  rcases h4 with h4 | h4
  · omega
  · rw [h4]; exact Nat.zero_le _
/-! their text is read as them -/
def textR (rs : List Row) : Str := Txt.join "" (rs.map lineN)
theorem lineL_free {r : Row} (h : RowG r) : 10 ∉ TL.tl (lineL r) := by
  have hf := h.parts_free (c := 10) (.inr rfl)
  unfold parts at hf
  simp only [List.mem_cons, List.not_mem_nil, or_false] at hf
  unfold lineL
  simp only [TL.tl_append, List.mem_append, tl_sp1, List.mem_singleton]
  intro z
  rcases z with (((((z | z) | z) | z) | z) | z) | z
  · exact hf _ (.inl rfl) z
  · cases z
  · exact hf _ (.inr (.inl rfl)) z
  · cases z
  · exact hf _ (.inr (.inr (.inl rfl))) z
  · cases z
  · exact hf _ (.inr (.inr (.inr rfl))) z
theorem textR_eq (rs : List Row) : textR rs = Txt.join "" ((rs.map lineL).map fun l => l ++ ("\n" : Str)) := by
  unfold textR
  rw [List.map_map]
  congr 1
  exact List.map_congr_left fun r _ => lineN_eq r
theorem textR_lines {rs : List Row} (h : ∀ r ∈ rs, RowG r) : linesW (textR rs) = rs.map parts := by
  unfold linesW
  rw [textR_eq, linesL_text2 (fun l hl => by
    obtain ⟨r, hr, rfl⟩ := List.mem_map.mp hl
    exact lineL_free (h r hr)), List.map_map]
  exact List.map_congr_left fun r hr => (h r hr).split
theorem textR_back {rs : List Row} (h : RowsG rs) : readO (textR rs) = none ∧ rowsX (textR rs) = rs := by
  unfold readO rowsX
  rw [textR_lines h.ok]
  refine ⟨?_, ?_⟩
  · obtain ⟨tk, _, e⟩ := readL_items (rest := []) (tk := fun _ => false) (num := 1) h.ok h.nd (fun _ _ => rfl) (by have := h.len; omega)
    rw [List.append_nil] at e
    exact e
  · rw [List.map_map]
    have : rs.map (rowOf ∘ parts) = rs.map id := List.map_congr_left fun r hr => (h.ok r hr).row
    rw [this, List.map_id]
theorem fine12 {s : Str} (h : fineB s = true) : s.length ≤ 12 := by
  unfold fineB at h
  rw [Bool.and_eq_true, Bool.and_eq_true, decide_eq_true_eq, decide_eq_true_eq] at h
  exact h.2.1
theorem lineN_short {r : Row} (h : RowG r) : (lineN r).length ≤ 60 := by
  have z1 : (" " : Str).length = 1 := by decide +kernel
  have z2 : ("\n" : Str).length = 1 := by decide +kernel
  have := fine12 h.k
  have := fine12 h.g
  have := (wOk h.w0 h.w1).2
  have := (mOk h.m0 h.m1).2
  rw [lineN_eq]
  unfold lineL
  rw [app_len, app_len, app_len, app_len, app_len, app_len, app_len, z1, z2]
  omega
theorem join_len {n : Nat} : ∀ {ls : List Str}, (∀ l ∈ ls, l.length ≤ n) → (Txt.join "" ls).length ≤ n * ls.length := by
  intro ls h
  have e := joinE ls
  have hx : (TL.tl (Txt.join "" ls)).length = (Txt.join "" ls).length := Array.length_toList
  rw [← hx, e]
  induction ls with
  | nil => simp
  | cons a r ih =>
    have ha := h a (by simp)
    have hr := ih (fun l hl => h l (by simp [hl])) (joinE r) Array.length_toList
    have hal : (TL.tl a).length = a.length := Array.length_toList
    rw [List.map_cons, List.flatten_cons, List.length_append, List.length_cons, Nat.mul_succ]
    omega
theorem textR_len {rs : List Row} (h : ∀ r ∈ rs, RowG r) : (textR rs).length ≤ 60 * rs.length := by
  have := join_len (n := 60) (ls := rs.map lineN) (fun l hl => by
    obtain ⟨r, hr, rfl⟩ := List.mem_map.mp hl
    exact lineN_short (h r hr))
  rwa [List.length_map] at this
theorem RowOk.gg {r : Row} (h : RowOk r) : RowG r := by
  have hk : ∀ s ∈ lawNames, fineB s = true := by decide +kernel
  have hg : ∀ s ∈ lawGroups, fineB s = true := by decide +kernel
  exact ⟨hk _ h.k, hg _ h.g, h.w0, h.w1, h.m0, h.m1⟩
theorem fine_strok {s : Str} (h : fineB s = true) : PyData.strOk s = true := by
  unfold fineB at h
  rw [Bool.and_eq_true, Bool.and_eq_true, decide_eq_true_eq, decide_eq_true_eq] at h
  have hs : ∀ c ∈ signs.cps.toList, c < 0x110000 := by decide +kernel
  show s.cps.all (· < 0x110000) = true
  rw [← Array.all_toList, List.all_eq_true]
  intro c hc
  exact decide_eq_true (hs c (of_decide_eq_true (List.all_eq_true.mp h.2.2 c hc)))
theorem RowG.s {r : Row} (h : RowG r) : RowS r := ⟨fine_strok h.k, fine_strok h.g, Nat.le_trans (fine12 h.k) (by decide), Nat.le_trans (fine12 h.g) (by decide)⟩
theorem RowG.fine {r : Row} (h : RowG r) : reasonOf r = none := reason_none h.k h.g ⟨h.w0, h.w1⟩ ⟨h.m0, h.m1⟩
theorem first_none {ps : List (Addr × Row)} (h : RowsG (ps.map fun x => x.2)) : First ps none := by
  intro i hi
  have hx : ps[i]? = some ps[i] := List.getElem?_eq_getElem hi
  refine reasonAt_3 hx (h.ok _ (List.mem_map_of_mem (List.getElem_mem hi))).fine fun hm => ?_
  have hn := h.nd
  rw [List.map_map] at hn
  unfold keysTo at hm
  have e : ps.take i ++ ps[i] :: ps.drop (i + 1) = ps := by rw [← List.drop_eq_getElem_cons hi, List.take_append_drop]
  rw [← e, List.map_append, List.map_cons, List.nodup_append] at hn
  exact hn.2.2 _ hm _ (by simp) rfl
theorem neRows2 {K : PySem.W.Frag} {H : Hp} {Q : VK} {a b : Addr} {ps qs : List (Addr × Row)} (h1 : H a = some (.lst (refs ps))) (h2 : H b = some (.lst (refs qs))) (r1 : RowsAt H ps) (r2 : RowsAt H qs) (e : ps.map (fun x => x.2) = qs.map fun x => x.2) (s : ∀ x ∈ ps, RowS x.2) (q : Q (.bl false) H) : rNeD K (.ref a) (.ref b) H Q := by
  have e2 : rowsD qs = rowsD ps := by
    have := congrArg (fun l : List Row => l.map rowD) e
    unfold rowsD
    simpa only [List.map_map, Function.comp_def] using this.symm
  exact ⟨_, _, dpRows h1 r1, by rw [← e2]; exact dpRows h2 r2, shRows s, shRows s, by rw [SeqAt.eqv_refl _ (by rw [PyData.canLay0]; exact layRows s)]; exact q⟩
/-! _law_read -/
def spReadL : Sp := fun vs H Q _ => ∃ s : Str, vs = [.str s] ∧ s.length ≤ 90000 ∧ (readO s = none → ∀ H' p ps, H p = none → Kp [] H H' → H' p = some (.lst (refs ps)) → RowsAt H' ps → ps.map (fun x => x.2) = rowsX s → Q (.ref p) H') ∧ (readO s ≠ none → ∀ H', Kp [] H H' → Q .non H')
theorem ok__law_read {P : Program} {w : World} {K : PySem.W.Frag} {mg : Str → Option Value} {base : Heap} (T : T P K mg) : FnOk P w K mg base CX0 7 T.a__law_read T.fd__law_read ["text"] spReadL := by
  refine T.F__law_read.ok sc__law_read (fun vs H Q E h => ?_) (fun cdv A outer s H vs Q E hr h => ?_)
  · obtain ⟨s, rfl, _⟩ := h
    rfl
  · obtain ⟨s, rfl, hz, q, qn⟩ := h
    refine ⟨_, (pss_one (ps_try_as (i := 1) rfl rfl sc__law_read.nd rfl rfl ⟨by rfl, by decide, .inl T.x_TextError.g⟩ takes0 (fun W pn xe tk po => (pss_one (ps_ret (pe_callS (ok_read_items T) (hr.mono (by decide)) (by rfl) T.g_read_items T.F_read_items.kp T.b_read_items (fun σ => passAt tk σ) (pa_cons (pv 0) pa_nil))))) (fun a oe cls d pn hz hf => (pss_one (ps_ret pe_non))))), ?_⟩
    have hb := lines_bd s
    walk_at "z0"
    walk_at "z"
    refine ⟨_, rfl, s, linesW s, rfl, by omega, (split_nl s).1, rfl, by omega, fun l hl => by have := hb.2 l hl; omega, linesW_bd hz, ?_, ?_⟩
    · intro l c y hr H1 d k1 hd
      refine ⟨true, T.x_TextError.te, fun _ a ha => ?_, fun z => by cases z⟩
      walk_at "z"
      exact qn (by unfold readO; rw [hr]; simp) _ (k1.trans (Kp.new hd))
    · intro hr H1 p ps np k1 e1 r1 hrows
      walk_at "z"
      exact q hr H1 p ps np k1 e1 r1 hrows

/-! ### words of a text, with their columns -/
theorem cutS_list {z : Str} {a b : Nat} (h : b ≤ z.length) : (cutS z (some (a : Int)) (some (b : Int))).cps.toList = (z.cps.toList.take b).drop a := by
  unfold cutS
  rw [HT.sIx_nat, HT.sIx_nat, Nat.min_eq_left h]
  show (List.take (b - min a z.length) (List.drop (min a z.length) z.cps.toList)) = _
  have hz : z.cps.toList.length = z.length := by rw [Array.length_toList]; rfl
  rcases Nat.le_total a z.length with h1 | h1
  · rw [Nat.min_eq_left h1, List.drop_take]
  · rw [Nat.min_eq_right h1, List.drop_of_length_le (by omega), List.drop_of_length_le (by rw [List.length_take]; omega), List.take_nil]
def isW (c : Nat) : Bool := decide (c ∈ signs.cps.toList)
def opsS : Str := "<=>-()"
def opLen : List Nat → Option Nat
  | [] => none
  | c :: _ => if c ∈ opsS.cps.toList then some 1 else none
/-- how long the first word of a text is -/
def wordLen (s : List Nat) : Option Nat :=
  if 0 < (s.takeWhile isW).length then some (s.takeWhile isW).length
  else if (⟨(s.take 2).toArray⟩ : Str) = "<=" ∨ (⟨(s.take 2).toArray⟩ : Str) = ">=" then some 2
  else opLen s
def optN : Option Nat → V
  | some n => .int (n : Int)
  | none => .non
def spTokEnd (K : PySem.W.Frag) : Sp := fun vs H Q _ => ∃ (z : Str) (a : Nat), vs = [.str z, .int (a : Int)] ∧ a < z.cps.size ∧ z.cps.size ≤ 1000000 ∧ ∀ H', Kp [] H H' → Q (optN ((wordLen (z.cps.toList.drop a)).map (a + ·))) H'
def twoOps : List Str := ["<=", ">="]
theorem takeWhile_at {s : List Nat} {j : Nat} (h1 : ∀ i, i < j → ∃ c, s[i]? = some c ∧ isW c = true) (h2 : ∀ c, s[j]? = some c → isW c = false) (hj : j ≤ s.length) : (s.takeWhile isW).length = j := by
  induction j generalizing s with
  | zero =>
    cases s with
    | nil => rfl
    | cons c r => rw [List.takeWhile_cons_of_neg (by rw [h2 c rfl]; decide)]; rfl
  | succ j ih =>
    cases s with
    | nil => simp at hj
    | cons c r =>
      obtain ⟨d, hd, hw⟩ := h1 0 (by omega)
      cases hd
      rw [List.takeWhile_cons_of_pos hw, List.length_cons]
      rw [ih (s := r) (fun i hi => by
        obtain ⟨e, he, hw⟩ := h1 (i + 1) (by omega)
        exact ⟨e, by simpa using he, hw⟩) (fun e he => h2 e (by simpa using he)) (by simpa using hj)]
theorem ok_token_end {P : Program} {w : World} {K : PySem.W.Frag} {mg : Str → Option Value} {base : Heap} (T : T P K mg) : FnOk P w K mg base CX0 1 T.a_token_end T.fd_token_end ["text", "start"] (spTokEnd K) := by
  refine T.F_token_end.ok sc_token_end (fun vs H Q E h => ?_) (fun cdv A outer s H vs Q E hr h => ?_)
  · obtain ⟨z, a, rfl, _⟩ := h
    rfl
  · obtain ⟨z, a, rfl, ha, hz, q⟩ := h
    refine ⟨_, (pss_cons (ps_set (i := 2) sc_token_end.nd rfl (by first | exact Or.inl rfl | exact Or.inr rfl) (pv 1))
      (pss_cons (ps_while PassesOwn.never (PW.pt (pw_and (pt_cmpR op_lt (pv 2) (pe_callB c_lens (by rfl) T.z_len (by decide +kernel) (pa_cons (pv 0) pa_nil)) (nomark _)) (pw_and1 (pt_cmpR o_inSg (pe_ix ix_str (pv 0) (pv 2) (fun _ _ => rfl)) (pe_glob (by rfl) T.g_WORD_SIGNS T.r_WORD_SIGNS) rfl)))) (pss_one (ps_aug (i := 2) sc_token_end.nd rfl (by first | exact Or.inl rfl | exact Or.inr rfl) pe_int ip_add)))
      (pss_cons (ps_if (pt_cmpR op_gt (pv 2) (pv 1) (nomark _)) (pss_one (ps_ret (pv 2))) pss_nil)
      (pss_cons (ps_if (pt_cmpR op_in_seq (pe_slice sl_str (pv 0) (po_some (pv 1)) (po_some (pe_op op_add (pv 1) pe_int))) (pe_tup (pa_cons pe_str (pa_cons pe_str pa_nil))) rfl) (pss_one (ps_ret (pe_op op_add (pv 1) pe_int))) pss_nil)
      (pss_cons (ps_if (pt_cmpR o_inSg (pe_ix ix_str (pv 0) (pv 1) (fun _ _ => rfl)) pe_str rfl) (pss_one (ps_ret (pe_op op_add (pv 1) pe_int))) pss_nil)
      (pss_one (ps_ret pe_non))))))), ?_⟩
    have hzl : z.cps.toList.length = z.cps.size := Array.length_toList
    walk_at "z0"
    walk_at "z"
    have hgS : signs.cps.toList = ("abcdefghijklmnopqrstuvwxyz0123456789" : Str).cps.toList := rfl
    generalize hs : z.cps.toList.drop a = s at q
    have hsl : s.length = z.cps.size - a := by rw [← hs, List.length_drop, hzl]
    have hat : ∀ j, s[j]? = z.cps.toList[a + j]? := fun j => by rw [← hs, List.getElem?_drop]
    refine Z.wh (fun m σ' H' => ∃ j : Nat, σ' = [some (.str z), some (.int (a : Int)), some (.int ((a + j : Nat) : Int))] ∧ H' = H ∧ m + j = s.length ∧ ∀ i, i < j → ∃ c, s[i]? = some c ∧ isW c = true) s.length ⟨0, rfl, rfl, by omega, fun i hi => absurd hi (by omega)⟩ ?_
    rintro m σ' H' ⟨j, rfl, rfl, hm, hall⟩
    have done : (∀ c, s[j]? = some c → isW c = false) → (tSeq (tIfS (tTest (tOp (rI0 fun i j => V.bl (decide (j < i))) (tVar 2) (tVar 1))) (tRet (tVar 2)) tNext)
          (tSeq
            (tIfS
              (tTest
                (tOp (rIn K false)
                  (tSl rSlS (tVar 0) (tPart (tVar 1))
                    (tPart (tOp (rI0 fun i j => V.int (i + j)) (tVar 1) (tC (V.int 2)))))
                  (tTup (tCons (tC (V.str ("<=" : Str))) (tCons (tC (V.str (">=" : Str))) tNil)))))
              (tRet (tOp (rI0 fun i j => V.int (i + j)) (tVar 1) (tC (V.int 2)))) tNext)
            (tSeq
              (tIfS (tTest (tOp rInSg (tOp rIxS (tVar 0) (tVar 1)) (tC (V.str ("<=>-()" : Str)))))
                (tRet (tOp (rI0 fun i j => V.int (i + j)) (tVar 1) (tC (V.int 1)))) tNext)
              (tRet (tC V.non))))
          { nx := fun x H' => Q V.non H', rt := Q }) [some (.str z), some (.int (a : Int)), some (.int ((a + j : Nat) : Int))] H' := by
      intro hno
      have htw := takeWhile_at hall hno (by omega)
      have hw : wordLen s = if 0 < j then some j else if (⟨(s.take 2).toArray⟩ : Str) = "<=" ∨ (⟨(s.take 2).toArray⟩ : Str) = ">=" then some 2
  else opLen s := by
        unfold wordLen
        rw [htw]
      walk_at "z"
      refine Z.ite (fun h1 => ?_) (fun h1 => ?_)
      · walk_at "z"
        have := q _ (Kp.refl _)
        rw [hw, if_pos (by omega)] at this
        exact this
      · rw [if_neg (by omega)] at hw
        have hj0 : j = 0 := by omega
        walk_at "z"
        refine ⟨z, rfl, Nat.le_trans hz (by decide), ?_⟩
        have hcut : cutS z (some (a : Int)) (some ((a : Int) + 2)) = ⟨(s.take 2).toArray⟩ := by
          unfold cutS
          rw [show ((a : Int) + 2) = ((a + 2 : Nat) : Int) by omega, HT.sIx_nat, HT.sIx_nat]
          have hzz : z.length = z.cps.size := rfl
          rw [hzz, Nat.min_eq_left (show a ≤ z.cps.size by omega), hs]
          rcases Nat.le_total (a + 2) z.cps.size with h | h
          · rw [Nat.min_eq_left h, show a + 2 - a = 2 by omega]
          · rw [Nat.min_eq_right h, List.take_of_length_le (by omega), List.take_of_length_le (by omega)]
        rw [hcut]
        walk_at "z"
        refine Z.tupK (fun t H1 nt k1 e1 => ?_)
        refine Z.inq (xs := twoOps.map V.str) (.inr (tupT e1)) rfl Z.strs_flat ?_
        rw [if_neg Bool.false_ne_true, Z.inV_strs]
        walk_at "z"
        refine Z.ite (fun h2 => ?_) (fun h2 => ?_)
        · walk_at "z"
          have := q _ k1
          rw [hw, if_pos (by simpa [twoOps] using h2)] at this
          exact this
        · rw [if_neg (by simpa [twoOps] using h2)] at hw
          walk_at "z"
          obtain ⟨c, hc⟩ : ∃ c, z.cps.toList[a]? = some c := ⟨_, List.getElem?_eq_getElem (by omega)⟩
          have hcs : s[0]? = some c := by rw [hat 0]; exact hc
          refine ⟨z, (a : Int), c, rfl, rfl, Nat.le_trans hz (by decide), atI_nat hc, ?_⟩
          walk_at "z"
          have hs2 : ∃ r, s = c :: r := by
            cases s with
            | nil => simp at hcs
            | cons d r => simp at hcs; exact ⟨r, by rw [hcs]⟩
          obtain ⟨r, hr2⟩ := hs2
          rw [hr2] at hw
          refine Z.ite (fun h3 => ?_) (fun h3 => ?_)
          · walk_at "z"
            have := q _ k1
            rw [hr2, hw, show opLen (c :: r) = some 1 from if_pos h3] at this
            exact this
          · walk_at "z"
            have := q _ k1
            rw [hr2, hw, show opLen (c :: r) = none from if_neg h3] at this
            exact this
    walk_at "z"
    refine Z.lenS (Nat.le_trans hz (by decide)) ?_
    walk_at "z"
    refine Z.ite (fun h1 => ?_) (fun h1 => ?_)
    · obtain ⟨c, hc⟩ : ∃ c, z.cps.toList[a + j]? = some c := ⟨_, List.getElem?_eq_getElem (by omega)⟩
      walk_at "z"
      refine ⟨z, ((a + j : Nat) : Int), c, rfl, rfl, Nat.le_trans hz (by decide), atI_nat (by rw [hc]), ?_⟩
      walk_at "z"
      refine Z.ite (fun h2 => ?_) (fun h2 => ?_)
      · refine Z.whb ?_
        walk_at "z"
        have hjs : j < s.length := by omega
        refine ⟨m - 1, by omega, j + 1, by rw [show ((a + j : Nat) : Int) + 1 = ((a + (j + 1) : Nat) : Int) by omega]; rfl, rfl, by omega, fun i hi => ?_⟩
        rcases Nat.lt_or_ge i j with h | h
        · exact hall i h
        · obtain rfl : i = j := by omega
          exact ⟨c, by rw [hat]; exact hc, decide_eq_true h2⟩
      · refine done fun d hd => ?_
        rw [hat, hc] at hd
        cases hd
        exact decide_eq_false h2
    · refine done fun d hd => ?_
      have := (List.getElem?_eq_some_iff.mp hd).1
      omega
/-- the words of a text from place a on, or where it stops being one -/
def toks : Nat → List Nat → Nat → Except Nat (List (Str × Nat))
  | 0, _, _ => .ok []
  | _ + 1, [], _ => .ok []
  | n + 1, c :: r, a => if c = 32 then toks n r (a + 1) else match wordLen (c :: r) with
    | none => .error (a + 1)
    | some k => match toks n ((c :: r).drop k) (a + k) with
      | .error e => .error e
      | .ok l => .ok ((⟨((c :: r).take k).toArray⟩, a + 1) :: l)
theorem wordLen_pos {s : List Nat} {k : Nat} (h : wordLen s = some k) (hs : 0 < s.length) : 0 < k ∧ (k ≤ s.length) := by
  unfold wordLen at h
  split at h
  · rename_i h1
    cases h
    exact ⟨h1, (List.takeWhile_sublist _).length_le⟩
  · split at h
    · rename_i h2
      cases h
      refine ⟨by decide, ?_⟩
      have e : (s.take 2).length = 2 := by
        rcases h2 with h | h
        · have := congrArg (fun z : Str => z.cps.size) h
          exact (by simpa using this : (s.take 2).length = ("<=" : Str).cps.size).trans (by decide +kernel)
        · have := congrArg (fun z : Str => z.cps.size) h
          exact (by simpa using this : (s.take 2).length = (">=" : Str).cps.size).trans (by decide +kernel)
      rw [List.length_take] at e
      omega
    · unfold opLen at h
      cases s with
      | nil => simp at hs
      | cons c r =>
        simp only at h
        split at h
        · cases h; simp
        · cases h
/-- a word at its place -/
structure Tk where
  p : Addr
  w : Str
  c : Nat
def TkAt (H : Hp) (t : Tk) : Prop := H t.p = some (.tup [.str t.w, .int (t.c : Int)])
def TksAt (H : Hp) (ts : List Tk) : Prop := ∀ t ∈ ts, TkAt H t
def tkrefs (ts : List Tk) : List V := ts.map fun t => V.ref t.p
def tkw (ts : List Tk) : List (Str × Nat) := ts.map fun t => (t.w, t.c)
theorem tkrefs_len (ts : List Tk) : (tkrefs ts).length = ts.length := by unfold tkrefs; rw [List.length_map]
theorem TksAt.kp {M : List Addr} {H H' : Hp} {ts : List Tk} (h : TksAt H ts) (k : Kp M H H') (n : ∀ x ∈ M, ∀ vs, H x ≠ some (.tup vs)) : TksAt H' ts := fun t ht => k.get (fun z => n _ z _ (h t ht)) (h t ht)
theorem TksAt.kp0 {H H' : Hp} {ts : List Tk} (h : TksAt H ts) (k : Kp [] H H') : TksAt H' ts := h.kp k fun x hx => by cases hx
def spTokens (K : PySem.W.Frag) (C : Addr) : Sp := fun vs H Q E => ∃ z : Str, vs = [.str z] ∧ z.cps.size ≤ 10000 ∧
  (∀ l, toks (z.cps.size + 1) z.cps.toList 0 = .ok l → ∀ H' d ts, H d = none → Kp [] H H' → H' d = some (.lst (tkrefs ts)) → TksAt H' ts → tkw ts = l → Q (.ref d) H') ∧
  (∀ c, toks (z.cps.size + 1) z.cps.toList 0 = .error c → ∀ H' d, Kp [] H H' → H' d = none → E (.ref C) (some d) (upd H' d (.xd (flText [.int 1, .int (c : Int), .str "character"]))))
/-- what is found so far, ahead of the rest -/
def pre (f : List (Str × Nat)) : Except Nat (List (Str × Nat)) → Except Nat (List (Str × Nat))
  | .ok l => .ok (f ++ l)
  | .error e => .error e
theorem toks_more : ∀ {n m : Nat} {s : List Nat} {a : Nat}, s.length < n → s.length < m → toks n s a = toks m s a
  | 0, _, _, _, h, _ => by omega
  | _, 0, _, _, _, h => by omega
  | n + 1, m + 1, [], a, _, _ => rfl
  | n + 1, m + 1, c :: r, a, h1, h2 => by
    rw [List.length_cons] at h1 h2
    unfold toks
    by_cases e : c = 32
    · rw [if_pos e, if_pos e]
      exact toks_more (by omega) (by omega)
    · rw [if_neg e, if_neg e]
      cases hw : wordLen (c :: r) with
      | none => rfl
      | some k =>
        have hk := wordLen_pos hw (by simp)
        simp only
        rw [toks_more (n := n) (m := m) (s := (c :: r).drop k) (a := a + k) (by rw [List.length_drop, List.length_cons]; omega) (by rw [List.length_drop, List.length_cons]; omega)]
theorem ok_tokens_of {P : Program} {w : World} {K : PySem.W.Frag} {mg : Str → Option Value} {base : Heap} (T : T P K mg) : FnOk P w K mg base (L2.CX P w) 3 T.a_tokens_of T.fd_tokens_of ["text"] (spTokens K T.C_TextError) := by
  refine T.F_tokens_of.okX sc_tokens_of (fun vs H Q E h => ?_) (fun cdv A outer s H vs Q E hr h => ?_)
  · obtain ⟨z, rfl, _⟩ := h
    rfl
  · obtain ⟨z, rfl, hz, q, e⟩ := h
    refine ⟨_, (pss_cons (ps_set (i := 1) sc_tokens_of.nd rfl (by first | exact Or.inl rfl | exact Or.inr rfl) (pe_lst pa_nil))
      (pss_cons (ps_set (i := 2) sc_tokens_of.nd rfl (by first | exact Or.inl rfl | exact Or.inr rfl) pe_int)
      (pss_cons (ps_while (passes_of rfl) (pt_cmpR op_lt (pv 2) (pe_callB c_lens (by rfl) T.z_len (by decide +kernel) (pa_cons (pv 0) pa_nil)) (nomark _)) (pss_one (ps_if (pt_cmpR op_eq (pe_ix ix_str (pv 0) (pv 2) (fun _ _ => rfl)) pe_str (nomark _)) (pss_one (ps_aug (i := 2) sc_tokens_of.nd rfl (by first | exact Or.inl rfl | exact Or.inr rfl) pe_int ip_add)) (pss_cons (ps_set (i := 3) sc_tokens_of.nd rfl (by first | exact Or.inl rfl | exact Or.inr rfl) (pe_call (ok_token_end T) (hr.mono (by decide)) (by rfl) T.g_token_end T.F_token_end.kp T.b_token_end .nil pass0 (pa_cons (pv 0) (pa_cons (pv 2) pa_nil))))
      (pss_cons (ps_if (pt_cmpR o_isN (pv 3) pe_non (nomark _)) (pss_one (ps_raise rfl (takes_of rfl rfl rfl rfl) (pmk_oex T.x_TextError.S.T T.x_TextError.iC T.x_TextError.tI (ok_TextError_init T) (hr.mono (by decide)) (T.bx_TextError) .nil pass0 (by rfl) T.x_TextError.g (pa_cons pe_int (pa_cons (pe_op op_add (pv 2) pe_int) (pa_cons pe_str pa_nil)))))) pss_nil)
      (pss_cons (ps_expr (pe_bm PySem.F.plainAttrs_list PySem.F.slot_list_append PySem.F.type_list_append mt_append (pv 1) (pa_cons (pe_tup (pa_cons (pe_slice sl_str (pv 0) (po_some (pv 2)) (po_some (pv 3))) (pa_cons (pe_op op_add (pv 2) pe_int) pa_nil))) pa_nil)))
      (pss_one (ps_set (i := 2) sc_tokens_of.nd rfl (by first | exact Or.inl rfl | exact Or.inr rfl) (pv 3)))))))))
      (pss_one (ps_ret (pv 1)))))), ?_⟩
    have hzl : z.cps.toList.length = z.cps.size := Array.length_toList
    walk_at "z0"
    walk_at "z"
    refine Z.lstK (fun F H1 nF k1 e1 => ?_)
    walk_at "z"
    refine Z.wh (fun m σ' H' => ∃ (a : Nat) (y : Option V) (ts : List Tk), σ' = [some (.str z), some (.ref F), some (.int (a : Int)), y] ∧ m + a = z.cps.size ∧ Kp [] H H' ∧ H' F = some (.lst (tkrefs ts)) ∧ TksAt H' ts ∧ ts.length ≤ a ∧ toks (z.cps.size + 1) z.cps.toList 0 = pre (tkw ts) (toks (z.cps.size + 1) (z.cps.toList.drop a) a)) z.cps.size ⟨0, none, [], rfl, rfl, k1, e1, fun t ht => (by cases ht), Nat.le_refl _, ?_⟩ ?_
    · rw [List.drop_zero]
      cases toks (z.cps.size + 1) z.cps.toList 0 <;> rfl
    rintro m σ' H' ⟨a, y, ts, rfl, hm, kk, eF, hT, hlt, htk⟩
    walk_at "z"
    refine Z.lenS (Nat.le_trans hz (by decide)) ?_
    walk_at "z"
    refine Z.ite (fun h1 => ?_) (fun h1 => ?_)
    · refine Z.whb ?_
      have haz : a < z.cps.toList.length := by omega
      obtain ⟨c, hc⟩ : ∃ c, z.cps.toList[a]? = some c := ⟨_, List.getElem?_eq_getElem haz⟩
      have hdrop : z.cps.toList.drop a = c :: z.cps.toList.drop (a + 1) := by
        rw [List.drop_eq_getElem_cons haz, (List.getElem?_eq_some_iff.mp hc).2]
      walk_at "z"
      refine ⟨z, (a : Int), c, rfl, rfl, Nat.le_trans hz (by decide), atI_nat hc, ?_⟩
      walk_at "z"
      have hsp : ((⟨#[c]⟩ : Str) = " ") ↔ c = 32 := by
        constructor
        · intro h
          have := congrArg (fun z : Str => z.cps.toList) h
          simp at this
          exact (List.cons.inj (this.trans (show (" " : Str).cps.toList = [32] by decide +kernel))).1
        · rintro rfl
          decide +kernel
      refine Z.ite (fun h2 => ?_) (fun h2 => ?_)
      · walk_at "z"
        refine ⟨m - 1, by omega, a + 1, y, ts, rfl, by omega, kk, eF, hT, by omega, ?_⟩
        rw [htk, hdrop]
        rw [show toks (z.cps.size + 1) (c :: z.cps.toList.drop (a + 1)) a = toks z.cps.size (z.cps.toList.drop (a + 1)) (a + 1) by rw [toks, if_pos (hsp.mp h2)]]
        rw [toks_more (n := z.cps.size) (m := z.cps.size + 1) (s := z.cps.toList.drop (a + 1)) (a := a + 1) (by rw [List.length_drop]; omega) (by rw [List.length_drop]; omega)]
      · have h32 : ¬ c = 32 := fun h => h2 (hsp.mpr h)
        walk_at "z"
        refine ⟨z, a, rfl, by omega, by omega, fun H2 k2 => ?_⟩
        rw [hdrop] at htk ⊢
        have htk2 : toks (z.cps.size + 1) (c :: z.cps.toList.drop (a + 1)) a = match wordLen (c :: z.cps.toList.drop (a + 1)) with
          | none => .error (a + 1)
          | some k => match toks z.cps.size ((c :: z.cps.toList.drop (a + 1)).drop k) (a + k) with
            | .error e => .error e
            | .ok l => .ok ((⟨((c :: z.cps.toList.drop (a + 1)).take k).toArray⟩, a + 1) :: l) := by
          rw [toks, if_neg h32]
        cases hw : wordLen (c :: z.cps.toList.drop (a + 1)) with
        | none =>
          rw [hw] at htk2
          walk_at "z"
          refine Z.yes rfl ?_
          refine mkErr ?_ (fun hRS h => ?_)
          · refine ⟨_, rfl, (a : Int), 1, rfl, rfl, by simp, ⟨1, a + 1, "character", rfl, by omega, by omega, by decide +kernel⟩, fun d hd => ?_⟩
            exact e (a + 1) (by rw [htk, htk2]; rfl) H2 d (kk.trans k2) hd
          · obtain ⟨v1, e1, i, j, e2, e3, h⟩ := h
            exact ⟨v1, e1, i, j, e2, e3, hRS _ _ h⟩
        | some k =>
          rw [hw] at htk2
          dsimp only at htk2
          obtain ⟨hk0, hk1⟩ := wordLen_pos hw (by simp)
          have hrl : (c :: z.cps.toList.drop (a + 1)).length = z.cps.size - a := by rw [← hdrop, List.length_drop, hzl]
          rw [hrl] at hk1
          walk_at "z"
          refine Z.no (by simp [optN]) ?_
          walk_at "z"
          have eF2 := k2.get nin0 eF
          refine ⟨Z.tyL eF2, ?_⟩
          walk_at "z"
          refine ⟨((a + k : Nat) : Int), rfl, ?_⟩
          refine ⟨z, rfl, Nat.le_trans hz (by decide), ?_⟩
          walk_at "z"
          refine Z.tupK (fun t H3 nt k3 e3 => ?_)
          walk_at "z"
          have eF3 := k3.get nin0 eF2
          refine Z.app eF3 (Z.szl (m := 100000) (by rw [tkrefs_len]; omega)) ?_
          walk_at "z"
          have htF : t ≠ F := fun y => by rw [y, eF3] at e3; cases e3
          have kF : Kp [F] H3 (upd H3 F (.lst (tkrefs ts ++ [.ref t]))) := Kp.put (by simp)
          have hcut : cutS z (some (a : Int)) (some ((a + k : Nat) : Int)) = ⟨((c :: z.cps.toList.drop (a + 1)).take k).toArray⟩ := by
            have hh := cutS_list (z := z) (a := a) (b := a + k) (by show a + k ≤ z.cps.size; omega)
            rw [List.drop_take, show a + k - a = k by omega, hdrop] at hh
            generalize cutS z (some (a : Int)) (some ((a + k : Nat) : Int)) = w at hh ⊢
            obtain ⟨⟨l⟩⟩ := w
            cases hh
            rfl
          refine ⟨m - k, by omega, a + k, some (.int ((a + k : Nat) : Int)), ts ++ [⟨t, ⟨((c :: z.cps.toList.drop (a + 1)).take k).toArray⟩, a + 1⟩], rfl, by omega, ((kk.trans k2).trans k3).mut nF rfl, ?_, fun x hx => ?_, by rw [List.length_append, List.length_singleton]; omega, ?_⟩
          · rw [upd_same]
            unfold tkrefs
            rw [List.map_append]; rfl
          · rcases List.mem_append.mp hx with h | h
            · have := ((hT.kp0 k2).kp0 k3) x h
              exact kF.get (nin1 fun y => by unfold TkAt at this; rw [y, eF3] at this; cases this) this
            · rw [List.mem_singleton.mp h]
              refine kF.get (nin1 htF) ?_
              rw [e3, ← hcut]; rfl
          · rw [htk, htk2]
            have hd2 : (c :: z.cps.toList.drop (a + 1)).drop k = z.cps.toList.drop (a + k) := by rw [← hdrop, List.drop_drop]
            rw [hd2]
            rw [toks_more (n := z.cps.size) (m := z.cps.size + 1) (s := z.cps.toList.drop (a + k)) (a := a + k) (by rw [List.length_drop]; omega) (by rw [List.length_drop]; omega)]
            unfold tkw
            rw [List.map_append]
            cases toks (z.cps.size + 1) (z.cps.toList.drop (a + k)) (a + k) with
            | error e => rfl
            | ok l => simp [pre]
    · walk_at "z"
      have haz : z.cps.toList.drop a = [] := List.drop_of_length_le (by omega)
      rw [haz] at htk
      exact q (tkw ts) (by rw [htk]; simp [toks, pre]) H' F ts nF kk eF hT rfl

/-! ### the reader of a condition -/
abbrev TT (P : Program) (K : PySem.W.Frag) (mg : Str → Option Value) := T P K mg
theorem ne_ba : ¬ (("_behind" : Str) = "_at") := by decide +kernel
theorem ne_bd : ¬ (("_behind" : Str) = "_depth") := by decide +kernel
theorem ne_ta : ¬ (("_tokens" : Str) = "_at") := by decide +kernel
theorem ne_tb : ¬ (("_tokens" : Str) = "_behind") := by decide +kernel
theorem ne_td : ¬ (("_tokens" : Str) = "_depth") := by decide +kernel
theorem ne_ad : ¬ (("_at" : Str) = "_depth") := by decide +kernel
def rf (l : Addr) (b a d : Int) : List (Str × V) := [("_tokens", .ref l), ("_behind", .int b), ("_at", .int a), ("_depth", .int d)]
theorem rf_t {l : Addr} {b a d : Int} : (rf l b a d).lookup ("_tokens" : Str) = some (.ref l) := rfl
theorem rf_b {l : Addr} {b a d : Int} : (rf l b a d).lookup ("_behind" : Str) = some (.int b) := rfl
theorem rf_a {l : Addr} {b a d : Int} : (rf l b a d).lookup ("_at" : Str) = some (.int a) := rfl
theorem rf_d {l : Addr} {b a d : Int} : (rf l b a d).lookup ("_depth" : Str) = some (.int d) := rfl
theorem rf_refuse {l : Addr} {b a d : Int} : (rf l b a d).lookup ("_refuse" : Str) = none := rfl
theorem rf_here {l : Addr} {b a d : Int} : (rf l b a d).lookup ("_here" : Str) = none := rfl
theorem rf_take {l : Addr} {b a d : Int} : (rf l b a d).lookup ("_take" : Str) = none := rfl
theorem rf_go_in {l : Addr} {b a d : Int} : (rf l b a d).lookup ("_go_in" : Str) = none := rfl
theorem rf_either {l : Addr} {b a d : Int} : (rf l b a d).lookup ("_either" : Str) = none := rfl
theorem rf_both {l : Addr} {b a d : Int} : (rf l b a d).lookup ("_both" : Str) = none := rfl
theorem rf_turned {l : Addr} {b a d : Int} : (rf l b a d).lookup ("_turned" : Str) = none := rfl
theorem rf_atom {l : Addr} {b a d : Int} : (rf l b a d).lookup ("_atom" : Str) = none := rfl
theorem rf_bracket {l : Addr} {b a d : Int} : (rf l b a d).lookup ("_bracket" : Str) = none := rfl
theorem rf_number {l : Addr} {b a d : Int} : (rf l b a d).lookup ("_number" : Str) = none := rfl
theorem rf_whole {l : Addr} {b a d : Int} : (rf l b a d).lookup ("whole" : Str) = none := rfl
theorem rf_mk {l : Addr} {b a d : Int} : putF "_depth" (.int d) (putF "_at" (.int a) (putF "_behind" (.int b) (putF "_tokens" (.ref l) []))) = rf l b a d := by
  show (if ("_tokens" : Str) = "_depth" then _ else _) = _
  simp [putF, ne_ba, ne_bd, ne_ta, ne_tb, ne_td, ne_ad, rf]
theorem rf_pa {l : Addr} {b a d e : Int} : putF "_at" (.int e) (rf l b a d) = rf l b e d := by
  simp [putF, ne_ba, ne_bd, ne_ta, ne_tb, ne_td, ne_ad, rf]
theorem rf_pd {l : Addr} {b a d e : Int} : putF "_depth" (.int e) (rf l b a d) = rf l b a e := by
  simp [putF, ne_ba, ne_bd, ne_ta, ne_tb, ne_td, ne_ad, rf]
/-- what holds of the words from the start on -/
structure RdOk (ts : List Tk) (bh : Nat) : Prop where
  len : ts.length ≤ 10000
  bh : bh < 1000000000
  col : ∀ t ∈ ts, t.c < 1000000000
  wd : ∀ t ∈ ts, t.w.cps.size ≤ 10000
/-- the reader, with the words ws left, dp deep -/
structure RdAt (C : Addr) (H : Hp) (S L dx : Addr) (ts : List Tk) (bh a : Nat) (ws : List Str) (dp : Nat) : Prop where
  len : a + ws.length = ts.length
  ws : (ts.drop a).map Tk.w = ws
  at_ : H S = some (.ins C dx (rf L bh a dp))
  l : H L = some (.lst (tkrefs ts))
  t : TksAt H ts
  ok : RdOk ts bh
theorem RdAt.kp {C : Addr} {H H' : Hp} {S L dx : Addr} {ts : List Tk} {bh a : Nat} {ws : List Str} {dp : Nat} (h : RdAt C H S L dx ts bh a ws dp) (k : Kp [] H H') : RdAt C H' S L dx ts bh a ws dp := ⟨h.len, h.ws, k.get nin0 h.at_, k.get nin0 h.l, h.t.kp0 k, h.ok⟩
theorem RdAt.put {C : Addr} {H : Hp} {S L dx : Addr} {ts : List Tk} {bh a b : Nat} {ws us : List Str} {dp e : Nat} (h : RdAt C H S L dx ts bh a ws dp) (h1 : b + us.length = ts.length) (h2 : (ts.drop b).map Tk.w = us) : RdAt C (upd H S (.ins C dx (rf L bh b e))) S L dx ts bh b us e := by
  have nls : L ≠ S := ne_of h.l h.at_ (by intro e; cases e)
  refine ⟨h1, h2, upd_same, (upd_ne nls).trans h.l, fun t ht => ?_, h.ok⟩
  have := h.t t ht
  unfold TkAt at this ⊢
  exact (upd_ne (ne_of this h.at_ (by intro e; cases e))).trans this
theorem RdAt.tok {C : Addr} {H : Hp} {S L dx : Addr} {ts : List Tk} {bh a : Nat} {ws : List Str} {dp : Nat} (h : RdAt C H S L dx ts bh a ws dp) (ha : a < ts.length) : ∃ t u, ts[a]? = some t ∧ (tkrefs ts)[a]? = some (.ref t.p) ∧ H t.p = some (.tup [.str t.w, .int (t.c : Int)]) ∧ ws = t.w :: u ∧ (ts.drop (a + 1)).map Tk.w = u ∧ t ∈ ts := by
  have e := List.getElem?_eq_getElem ha
  have hd := List.drop_eq_getElem_cons ha
  refine ⟨ts[a], (ts.drop (a + 1)).map Tk.w, e, ?_, h.t _ (List.getElem_mem ha), ?_, rfl, List.getElem_mem ha⟩
  · unfold tkrefs
    rw [List.getElem?_map, e]; rfl
  · rw [← h.ws, hd]; rfl
def here (ws : List Str) : Str := ws.headD ""
theorem RdAt.nil {C : Addr} {H : Hp} {S L dx : Addr} {ts : List Tk} {bh a : Nat} {ws : List Str} {dp : Nat} (h : RdAt C H S L dx ts bh a ws dp) (ha : ¬ a < ts.length) : ws = [] := by
  have := h.len
  exact List.length_eq_zero_iff.mp (by omega)
theorem RdAt.step {C : Addr} {H : Hp} {S L dx : Addr} {ts : List Tk} {bh a : Nat} {ws : List Str} {dp e : Nat} (h : RdAt C H S L dx ts bh a ws dp) (hn : ws ≠ []) : RdAt C (upd H S (.ins C dx (rf L bh ((a : Int) + 1) e))) S L dx ts bh (a + 1) ws.tail e := by
  have hp : 0 < ws.length := List.length_pos_iff.mpr hn
  have hl := h.len
  obtain ⟨t, u, e1, e2, e3, e4, e5, e6⟩ := h.tok (by omega)
  have := h.put (b := a + 1) (us := ws.tail) (e := e) (by rw [List.length_tail]; omega) (by rw [e5, e4]; rfl)
  exact this
/-- the column of the word with which l words are left -/
def colR (ts : List Tk) (bh l : Nat) : Nat := if l = 0 then bh else ((ts[ts.length - l]?).map Tk.c).getD 0
def spHere (C : Addr) : Sp := fun vs H Q _ => ∃ S L dx ts bh a ws dp, vs = [.ref S] ∧ RdAt C H S L dx ts bh a ws dp ∧ Q (.str (here ws)) H
theorem ok_ConditionReader__here {P : Program} {w : World} {K : PySem.W.Frag} {mg : Str → Option Value} {base : Heap} (T : T P K mg) : FnOk P w K mg base CX0 1 T.a_ConditionReader__here T.fd_ConditionReader__here ["self"] (spHere T.C_ConditionReader) := by
  refine T.F_ConditionReader__here.ok sc_ConditionReader__here (fun vs H Q E h => ?_) (fun cdv A outer s H vs Q E hr h => ?_)
  · obtain ⟨S, L, dx, ts, bh, a, ws, dp, rfl, _⟩ := h
    rfl
  · obtain ⟨S, L, dx, ts, bh, a, ws, dp, rfl, hR, q⟩ := h
    refine ⟨_, (pss_cons (ps_if (pt_cmpR op_lt (pe_fld (pv 0) rfl) (pe_callB c_len (by rfl) T.z_len (by decide +kernel) (pa_cons (pe_fld (pv 0) rfl) pa_nil)) (nomark _)) (pss_one (ps_ret (pe_ix ix_tup (pe_ix ix_list (pe_fld (pv 0) rfl) (pe_fld (pv 0) rfl) (fun _ _ => rfl)) pe_int (fun _ _ => rfl)))) pss_nil)
      (pss_one (ps_ret pe_str))), ?_⟩
    have hlen := hR.ok.len
    walk_at "z0"
    walk_at "z"
    refine ⟨S, _, dx, _, _, rfl, hR.at_, T.cl_ConditionReader, T.na_ConditionReader__at, rf_a, ?_⟩
    walk_at "z"
    refine ⟨S, _, dx, _, _, rfl, hR.at_, T.cl_ConditionReader, T.na_ConditionReader__tokens, rf_t, ?_⟩
    walk_at "z"
    refine Z.lenL (lstL hR.l) ?_
    walk_at "z"
    rw [tkrefs_len]
    refine Z.ite (fun h1 => ?_) (fun h1 => ?_)
    · obtain ⟨t, u, e1, e2, e3, e4, e5, e6⟩ := hR.tok (by omega)
      walk_at "z"
      refine ⟨S, _, dx, _, _, rfl, hR.at_, T.cl_ConditionReader, T.na_ConditionReader__tokens, rf_t, ?_⟩
      walk_at "z"
      refine ⟨S, _, dx, _, _, rfl, hR.at_, T.cl_ConditionReader, T.na_ConditionReader__at, rf_a, ?_⟩
      refine Z.ixL (lstL hR.l) (atI_nat e2) ?_
      walk_at "z"
      refine Z.ixT (tupT e3) rfl ?_
      walk_at "z"
      rw [e4] at q
      exact q
    · walk_at "z"
      rw [hR.nil (by omega)] at q
      exact q
def spRefuse (C CE : Addr) : Sp := fun vs H Q E => ∃ S L dx ts bh a ws dp re, vs = [.ref S, .str re] ∧ RdAt C H S L dx ts bh a ws dp ∧ re.length ≤ 1000 ∧ ∀ d, H d = none → E (.ref CE) (some d) (upd H d (.xd (flText [.int 1, .int (colR ts bh ws.length : Int), .str re])))
theorem ok_ConditionReader__refuse {P : Program} {w : World} {K : PySem.W.Frag} {mg : Str → Option Value} {base : Heap} (T : T P K mg) : FnOk P w K mg base (L2.CX P w) 3 T.a_ConditionReader__refuse T.fd_ConditionReader__refuse ["self", "reason"] (spRefuse T.C_ConditionReader T.C_TextError) := by
  refine T.F_ConditionReader__refuse.okX sc_ConditionReader__refuse (fun vs H Q E h => ?_) (fun cdv A outer s H vs Q E hr h => ?_)
  · obtain ⟨S, L, dx, ts, bh, a, ws, dp, re, rfl, _⟩ := h
    rfl
  · obtain ⟨S, L, dx, ts, bh, a, ws, dp, re, rfl, hR, hre, e⟩ := h
    refine ⟨_, (pss_cons (ps_set (i := 2) sc_ConditionReader__refuse.nd rfl (by first | exact Or.inl rfl | exact Or.inr rfl) (pe_fld (pv 0) rfl))
      (Z.pss_consJ (ps_if (pt_cmpR op_lt (pe_fld (pv 0) rfl) (pe_callB c_len (by rfl) T.z_len (by decide +kernel) (pa_cons (pe_fld (pv 0) rfl) pa_nil)) (nomark _)) (pss_one (ps_set (i := 2) sc_ConditionReader__refuse.nd rfl (by first | exact Or.inl rfl | exact Or.inr rfl) (pe_ix ix_tup (pe_ix ix_list (pe_fld (pv 0) rfl) (pe_fld (pv 0) rfl) (fun _ _ => rfl)) pe_int (fun _ _ => rfl)))) pss_nil)
      (pss_one (ps_raise rfl (takes_of rfl rfl rfl rfl) (pmk_oex T.x_TextError.S.T T.x_TextError.iC T.x_TextError.tI (ok_TextError_init T) (hr.mono (by decide)) (T.bx_TextError) .nil pass0 (by rfl) T.x_TextError.g (pa_cons pe_int (pa_cons (pv 2) (pa_cons (pv 1) pa_nil)))))))), ?_⟩
    have hlen := hR.ok.len
    have hl2 := hR.len
    walk_at "z0"
    walk_at "z"
    refine ⟨S, _, dx, _, _, rfl, hR.at_, T.cl_ConditionReader, T.na_ConditionReader__behind, rf_b, ?_⟩
    walk_at "z"
    refine Z.seqJ (fun σ' H' => σ' = [some (.ref S), some (.str re), some (.int (colR ts bh ws.length : Int))] ∧ H' = H) ?_ ?_
    · rintro σ' H' ⟨rfl, rfl⟩
      walk_at "z"
      have hc : colR ts bh ws.length < 1000000000 := by
        unfold colR
        split
        · exact hR.ok.bh
        · cases e1 : ts[ts.length - ws.length]? with
          | none => decide
          | some t => exact hR.ok.col t (List.mem_of_getElem? e1)
      refine mkErr ?_ (fun hRS h => ?_)
      · refine ⟨_, rfl, _, rfl, by simp, ⟨1, colR ts bh ws.length, re, rfl, by omega, hc, hre⟩, fun d hd => ?_⟩
        exact e d hd
      · obtain ⟨v1, e1, v2, e2, h⟩ := h
        exact ⟨v1, e1, v2, e2, hRS _ _ h⟩
    · intro N jn
      walk_at "z"
      refine ⟨S, _, dx, _, _, rfl, hR.at_, T.cl_ConditionReader, T.na_ConditionReader__at, rf_a, ?_⟩
      walk_at "z"
      refine ⟨S, _, dx, _, _, rfl, hR.at_, T.cl_ConditionReader, T.na_ConditionReader__tokens, rf_t, ?_⟩
      walk_at "z"
      refine Z.lenL (lstL hR.l) ?_
      walk_at "z"
      rw [tkrefs_len]
      refine Z.ite (fun h1 => ?_) (fun h1 => ?_)
      · obtain ⟨t, u, e1, e2, e3, e4, e5, e6⟩ := hR.tok (by omega)
        walk_at "z"
        refine ⟨S, _, dx, _, _, rfl, hR.at_, T.cl_ConditionReader, T.na_ConditionReader__tokens, rf_t, ?_⟩
        walk_at "z"
        refine ⟨S, _, dx, _, _, rfl, hR.at_, T.cl_ConditionReader, T.na_ConditionReader__at, rf_a, ?_⟩
        refine Z.ixL (lstL hR.l) (atI_nat e2) ?_
        walk_at "z"
        refine Z.ixT (tupT e3) rfl ?_
        walk_at "z"
        refine jn _ _ ⟨?_, rfl⟩
        unfold colR
        rw [if_neg (by omega), show ts.length - ws.length = a by omega, e1]; rfl
      · walk_at "z"
        refine jn _ _ ⟨?_, rfl⟩
        unfold colR
        rw [if_pos (by omega)]
def spRTake (C CE : Addr) : Sp := fun vs H Q E => ∃ S L dx ts bh a ws dp, ∃ b : Bool, vs = [.ref S, .bl b] ∧ RdAt C H S L dx ts bh a ws dp ∧
  (b = true → ws ≠ [] ∧ ∀ H', Kp [S] H H' → RdAt C H' S L dx ts bh (a + 1) ws.tail dp → Q (.str (here ws)) H') ∧
  (b = false → ∀ d, H d = none → E (.ref CE) (some d) (upd H d (.xd (flText [.int 1, .int (colR ts bh ws.length : Int), .str "expected"]))))
theorem ok_ConditionReader__take {P : Program} {w : World} {K : PySem.W.Frag} {mg : Str → Option Value} {base : Heap} (T : T P K mg) : FnOk P w K mg base (L2.CX P w) 4 T.a_ConditionReader__take T.fd_ConditionReader__take ["self", "can_stand"] (spRTake T.C_ConditionReader T.C_TextError) := by
  refine T.F_ConditionReader__take.okX sc_ConditionReader__take (fun vs H Q E h => ?_) (fun cdv A outer s H vs Q E hr h => ?_)
  · obtain ⟨S, L, dx, ts, bh, a, ws, dp, b, rfl, _⟩ := h
    rfl
  · obtain ⟨S, L, dx, ts, bh, a, ws, dp, b, rfl, hR, q, e⟩ := h
    refine ⟨_, (Z.pss_consJ (ps_if (pt_not (pt_val (pv 1))) (pss_one (ps_expr (pe_meth (pv 0) T.cl_ConditionReader T.me_ConditionReader__refuse (ok_ConditionReader__refuse T) (hr.mono (by decide)) T.b_ConditionReader__refuse .nil (passes_call (takes_of rfl rfl rfl rfl) (fun _ _ _ _ h => h)) (pa_cons pe_str pa_nil)))) pss_nil)
      (pss_cons (ps_set (i := 2) sc_ConditionReader__take.nd rfl (by first | exact Or.inl rfl | exact Or.inr rfl) (pe_meth0 (pv 0) T.cl_ConditionReader T.me_ConditionReader__here (ok_ConditionReader__here T) (hr.mono (by decide)) T.b_ConditionReader__here .nil pass0))
      (pss_cons (ps_fldaug (pv 0) pe_int in_add)
      (pss_one (ps_ret (pv 2)))))), ?_⟩
    walk_at "z0"
    walk_at "z"
    cases b with
    | false =>
      refine Z.seqJ (fun σ' H' => False) (fun _ _ h => h.elim) ?_
      intro N jn
      walk_at "z"
      refine ⟨S, dx, _, rfl, hR.at_, rf_refuse, ?_⟩
      walk_at "z"
      exact ⟨S, L, dx, ts, bh, a, ws, dp, "expected", rfl, hR, by decide +kernel, e rfl⟩
    | true =>
      obtain ⟨hn, q⟩ := q rfl
      refine Z.seqJ (fun σ' H' => σ' = [some (.ref S), some (.bl true), none] ∧ H' = H) ?_ ?_
      · rintro σ' H' ⟨rfl, rfl⟩
        walk_at "z"
        refine ⟨S, dx, _, rfl, hR.at_, rf_here, ?_⟩
        walk_at "z"
        refine ⟨S, L, dx, ts, bh, a, ws, dp, rfl, hR, ?_⟩
        walk_at "z"
        refine ⟨S, _, dx, _, _, rfl, hR.at_, T.cl_ConditionReader, T.na_ConditionReader__at, rf_a, ?_⟩
        walk_at "z"
        refine ⟨dx, _, hR.at_, by show 4 < 1000; decide, ?_⟩
        walk_at "z"
        rw [rf_pa]
        exact q _ (Kp.put (by simp)) (hR.step hn)
      · intro N jn
        walk_at "z"
        exact jn _ _ ⟨rfl, rfl⟩
def spGo (C CE : Addr) : Sp := fun vs H Q E => ∃ S L dx ts bh a ws dp, vs = [.ref S] ∧ RdAt C H S L dx ts bh a ws dp ∧ dp ≤ 20 ∧
  (dp < 20 → ws ≠ [] ∧ ∀ H', Kp [S] H H' → RdAt C H' S L dx ts bh (a + 1) ws.tail (dp + 1) → Q .non H') ∧
  (dp = 20 → ∀ d, H d = none → E (.ref CE) (some d) (upd H d (.xd (flText [.int 1, .int (colR ts bh ws.length : Int), .str "deep"]))))
theorem ok_ConditionReader__go_in {P : Program} {w : World} {K : PySem.W.Frag} {mg : Str → Option Value} {base : Heap} (T : T P K mg) : FnOk P w K mg base (L2.CX P w) 4 T.a_ConditionReader__go_in T.fd_ConditionReader__go_in ["self"] (spGo T.C_ConditionReader T.C_TextError) := by
  refine T.F_ConditionReader__go_in.okX sc_ConditionReader__go_in (fun vs H Q E h => ?_) (fun cdv A outer s H vs Q E hr h => ?_)
  · obtain ⟨S, L, dx, ts, bh, a, ws, dp, rfl, _⟩ := h
    rfl
  · obtain ⟨S, L, dx, ts, bh, a, ws, dp, rfl, hR, hdp, q, e⟩ := h
    refine ⟨_, (Z.pss_consJ (ps_if (pt_cmpR op_eq (pe_fld (pv 0) rfl) (pe_glob (by rfl) T.g_MOST_OPEN T.r_MOST_OPEN) (nomark _)) (pss_one (ps_expr (pe_meth (pv 0) T.cl_ConditionReader T.me_ConditionReader__refuse (ok_ConditionReader__refuse T) (hr.mono (by decide)) T.b_ConditionReader__refuse .nil (passes_call (takes_of rfl rfl rfl rfl) (fun _ _ _ _ h => h)) (pa_cons pe_str pa_nil)))) pss_nil)
      (pss_cons (ps_fldaug (pv 0) pe_int in_add)
      (pss_one (ps_fldaug (pv 0) pe_int in_add)))), ?_⟩
    walk_at "z0"
    walk_at "z"
    refine Z.seqJ (fun σ' H' => dp < 20 ∧ σ' = [some (.ref S)] ∧ H' = H) ?_ ?_
    · rintro σ' H' ⟨h1, rfl, rfl⟩
      obtain ⟨hn, q⟩ := q h1
      walk_at "z"
      refine ⟨S, _, dx, _, _, rfl, hR.at_, T.cl_ConditionReader, T.na_ConditionReader__depth, rf_d, ?_⟩
      walk_at "z"
      refine ⟨dx, _, hR.at_, by show 4 < 1000; decide, ?_⟩
      walk_at "z"
      rw [rf_pd]
      refine ⟨S, _, dx, _, _, rfl, upd_same, T.cl_ConditionReader, T.na_ConditionReader__at, rf_a, ?_⟩
      walk_at "z"
      refine ⟨dx, _, upd_same, by show 4 < 1000; decide, ?_⟩
      walk_at "z"
      rw [rf_pa, upd_upd]
      exact q _ (Kp.put (by simp)) (hR.step (e := dp + 1) hn)
    · intro N jn
      walk_at "z"
      refine ⟨S, _, dx, _, _, rfl, hR.at_, T.cl_ConditionReader, T.na_ConditionReader__depth, rf_d, ?_⟩
      walk_at "z"
      refine Z.ite (fun h1 => ?_) (fun h1 => ?_)
      · walk_at "z"
        refine ⟨S, dx, _, rfl, hR.at_, rf_refuse, ?_⟩
        walk_at "z"
        exact ⟨S, L, dx, ts, bh, a, ws, dp, "deep", rfl, hR, by decide +kernel, e (by omega)⟩
      · walk_at "z"
        exact jn _ _ ⟨by omega, rfl, rfl⟩

/-! ### numbers, and what a part of a condition reads -/
def spRd {α : Type} (C CE : Addr) (f : List Str → Except (Nat × Str) (α × List Str)) (val : α → V → Hp → Prop) (D : Nat) : Sp := fun vs H Q E => ∃ S L dx ts bh a ws dp, vs = [.ref S] ∧ RdAt C H S L dx ts bh a ws dp ∧ dp + D = 20 ∧
  (∀ x r, f ws = .ok (x, r) → ∀ H' v a', Kp [S] H H' → RdAt C H' S L dx ts bh a' r dp → val x v H' → Q v H') ∧
  (∀ l re, f ws = .error (l, re) → ∀ H' d, Kp [S] H H' → H' d = none → E (.ref CE) (some d) (upd H' d (.xd (flText [.int 1, .int (colR ts bh l : Int), .str re]))))
def numF (ws : List Str) : Except (Nat × Str) (Int × List Str) :=
  if intW (here (if here ws = "-" then ws.tail else ws)) = false ∨ (here ws = "-" ∧ here (if here ws = "-" then ws.tail else ws) = "0") then .error ((if here ws = "-" then ws.tail else ws).length, "expected")
  else match withinO (here (if here ws = "-" then ws.tail else ws)) 0 1000000 with
    | none => .error ((if here ws = "-" then ws.tail else ws).length, "range")
    | some n => .ok (if here ws = "-" then -n else n, (if here ws = "-" then ws.tail else ws).tail)
theorem here_sz {C : Addr} {H : Hp} {S L dx : Addr} {ts : List Tk} {bh a : Nat} {ws : List Str} {dp : Nat} (h : RdAt C H S L dx ts bh a ws dp) : (here ws).cps.size ≤ 10000 := by
  by_cases ha : a < ts.length
  · obtain ⟨t, u, e1, e2, e3, e4, e5, e6⟩ := h.tok ha
    rw [e4]
    exact h.ok.wd t e6
  · rw [h.nil ha]
    exact Nat.zero_le _
theorem here_ne {ws : List Str} {w : Str} (h : here ws = w) (hw : ¬ (w = "")) : ws ≠ [] := by
  rintro rfl
  exact hw h.symm
theorem here_int {ws : List Str} (h : intW (here ws) = true) : ws ≠ [] := by
  rintro rfl
  revert h
  show intW "" = true → False
  decide +kernel
theorem number_ok {P : Program} {w : World} {K : PySem.W.Frag} {mg : Str → Option Value} {base : Heap} (T : T P K mg) (D : Nat) : FnOk P w K mg base (L2.CX P w) 4 T.a_ConditionReader__number T.fd_ConditionReader__number ["self"] (spRd T.C_ConditionReader T.C_TextError numF (fun n v _ => v = .int n) D) := by
  refine T.F_ConditionReader__number.okX sc_ConditionReader__number (fun vs H Q E h => ?_) (fun cdv A outer s H vs Q E hr h => ?_)
  · obtain ⟨S, L, dx, ts, bh, a, ws, dp, rfl, _⟩ := h
    rfl
  · obtain ⟨S, L, dx, ts, bh, a, ws, dp, rfl, hR, hdp, q, e⟩ := h
    refine ⟨_, (pss_cons (ps_set (i := 1) sc_ConditionReader__number.nd rfl (by first | exact Or.inl rfl | exact Or.inr rfl) (pe_cmpR op_eq (pe_meth0 (pv 0) T.cl_ConditionReader T.me_ConditionReader__here (ok_ConditionReader__here T) (hr.mono (by decide)) T.b_ConditionReader__here .nil pass0) pe_str (nomark _)))
      (Z.pss_consJ (ps_if (pt_val (pv 1)) (pss_one (ps_fldaug (pv 0) pe_int in_add)) pss_nil)
      (pss_cons (ps_set (i := 2) sc_ConditionReader__number.nd rfl (by first | exact Or.inl rfl | exact Or.inr rfl) (pe_meth0 (pv 0) T.cl_ConditionReader T.me_ConditionReader__here (ok_ConditionReader__here T) (hr.mono (by decide)) T.b_ConditionReader__here .nil pass0))
      (Z.pss_consJ (ps_if (PW.pt (pw_or (pt_not (pt_val (pe_call (ok_writes_integer T) (hr.mono (by decide)) (by rfl) T.g_writes_integer T.F_writes_integer.kp T.b_writes_integer .nil pass0 (pa_cons (pv 2) pa_nil)))) (pw_or1 (PW.pt (pw_and (pt_val (pv 1)) (pw_and1 (pt_cmpR op_eq (pv 2) pe_str (nomark _)))))))) (pss_one (ps_expr (pe_meth (pv 0) T.cl_ConditionReader T.me_ConditionReader__refuse (ok_ConditionReader__refuse T) (hr.mono (by decide)) T.b_ConditionReader__refuse .nil (passes_call (takes_of rfl rfl rfl rfl) (fun _ _ _ _ h => h)) (pa_cons pe_str pa_nil)))) pss_nil)
      (pss_cons (ps_set (i := 3) sc_ConditionReader__number.nd rfl (by first | exact Or.inl rfl | exact Or.inr rfl) (pe_call (ok_integer_within T) (hr.mono (by decide)) (by rfl) T.g_integer_within T.F_integer_within.kp T.b_integer_within .nil pass0 (pa_cons (pv 2) (pa_cons pe_int (pa_cons (pe_glob (by rfl) T.g_MOST_NUMBER T.r_MOST_NUMBER) pa_nil)))))
      (Z.pss_consJ (ps_if (pt_cmpR o_isN (pv 3) pe_non (nomark _)) (pss_one (ps_expr (pe_meth (pv 0) T.cl_ConditionReader T.me_ConditionReader__refuse (ok_ConditionReader__refuse T) (hr.mono (by decide)) T.b_ConditionReader__refuse .nil (passes_call (takes_of rfl rfl rfl rfl) (fun _ _ _ _ h => h)) (pa_cons pe_str pa_nil)))) pss_nil)
      (pss_cons (ps_fldaug (pv 0) pe_int in_add)
      (pss_cons (ps_if (pt_val (pv 1)) (pss_one (ps_ret (pe_un un_neg (pv 3)))) pss_nil)
      (pss_one (ps_ret (pv 3))))))))))), ?_⟩
    walk_at "z0"
    walk_at "z"
    refine ⟨S, dx, _, rfl, hR.at_, rf_here, ?_⟩
    refine ⟨S, L, dx, ts, bh, a, ws, dp, rfl, hR, ?_⟩
    walk_at "z"
    generalize hr1 : (if here ws = "-" then ws.tail else ws) = r1
    have hN : numF ws = if intW (here r1) = false ∨ (here ws = "-" ∧ here r1 = "0") then .error (r1.length, "expected")
      else match withinO (here r1) 0 1000000 with
      | none => .error (r1.length, "range")
      | some n => .ok (if here ws = "-" then -n else n, r1.tail) := by
      unfold numF
      rw [hr1]
    refine Z.seqJ (fun σ' H' => σ' = [some (.ref S), some (.bl (decide (here ws = "-"))), none, none] ∧ Kp [S] H H' ∧ ∃ a1, RdAt T.C_ConditionReader H' S L dx ts bh a1 r1 dp) ?_ ?_
    · rintro σ' H1 ⟨rfl, k1, a1, hR1⟩
      have hsz := here_sz hR1
      walk_at "z"
      refine ⟨S, dx, _, rfl, hR1.at_, rf_here, ?_⟩
      refine ⟨S, L, dx, ts, bh, a1, r1, dp, rfl, hR1, ?_⟩
      walk_at "z"
      refine Z.seqJ (fun σ' H' => ¬ (intW (here r1) = false ∨ (here ws = "-" ∧ here r1 = "0")) ∧ σ' = [some (.ref S), some (.bl (decide (here ws = "-"))), some (.str (here r1)), none] ∧ H' = H1) ?_ ?_
      · rintro σ' H2 ⟨hno, rfl, rfl⟩
        rw [if_neg hno] at hN
        have hne : r1 ≠ [] := here_int (by
          cases h : intW (here r1) with
          | true => rfl
          | false => exact absurd (.inl h) hno)
        walk_at "z"
        refine ⟨here r1, 0, 1000000, rfl, by omega, by decide, by decide, by decide +kernel, by decide +kernel, ?_⟩
        walk_at "z"
        cases hw : withinO (here r1) 0 1000000 with
        | none =>
          rw [hw] at hN
          refine Z.seqJ (fun σ' H' => False) (fun _ _ h => h.elim) ?_
          intro N jn
          walk_at "z"
          refine Z.yes rfl ?_
          walk_at "z"
          refine ⟨S, dx, _, rfl, hR1.at_, rf_refuse, ?_⟩
          walk_at "z"
          exact ⟨S, L, dx, ts, bh, a1, r1, dp, "range", rfl, hR1, by decide +kernel, fun d hd => e r1.length "range" hN _ d k1 hd⟩
        | some n =>
          rw [hw] at hN
          dsimp only at hN
          refine Z.seqJ (fun σ' H' => σ' = [some (.ref S), some (.bl (decide (here ws = "-"))), some (.str (here r1)), some (.int n)] ∧ H' = H2) ?_ ?_
          · rintro σ' H' ⟨rfl, rfl⟩
            walk_at "z"
            refine ⟨S, _, dx, _, _, rfl, hR1.at_, T.cl_ConditionReader, T.na_ConditionReader__at, rf_a, ?_⟩
            walk_at "z"
            refine ⟨dx, _, hR1.at_, by show 4 < 1000; decide, ?_⟩
            walk_at "z"
            rw [rf_pa]
            have hR2 := hR1.step (e := dp) hne
            have k2 : Kp [S] H (upd H' S (.ins T.C_ConditionReader dx (rf L bh ((a1 : Int) + 1) dp))) := k1.trans (Kp.put (by simp))
            refine Z.ite (fun h1 => ?_) (fun h1 => ?_)
            · walk_at "z"
              have h1' : here ws = "-" := by simpa using h1
              rw [if_pos h1'] at hN
              exact q _ _ hN _ _ _ k2 hR2 rfl
            · walk_at "z"
              have h1' : ¬ here ws = "-" := by simpa using h1
              rw [if_neg h1'] at hN
              exact q _ _ hN _ _ _ k2 hR2 rfl
          · intro N jn
            walk_at "z"
            refine Z.no (by simp [optI]) ?_
            walk_at "z"
            exact jn _ _ ⟨rfl, rfl⟩
      · intro N jn
        walk_at "z"
        refine ⟨here r1, rfl, Nat.le_trans hsz (by decide), intW (here r1), rfl, ?_⟩
        have bad : (intW (here r1) = false ∨ (here ws = "-" ∧ here r1 = "0")) → ∀ d, H1 d = none → E (.ref T.C_TextError) (some d) (upd H1 d (.xd (flText [.int 1, .int (colR ts bh r1.length : Int), .str "expected"]))) := fun hb d hd => by
          rw [if_pos hb] at hN
          exact e _ _ hN _ d k1 hd
        cases h1' : intW (here r1) with
        | false =>
          rw [if_pos (show (!false) = true from rfl), if_pos rfl]
          walk_at "z"
          refine ⟨S, dx, _, rfl, hR1.at_, rf_refuse, ?_⟩
          walk_at "z"
          exact ⟨S, L, dx, ts, bh, a1, r1, dp, "expected", rfl, hR1, by decide +kernel, bad (.inl h1')⟩
        | true =>
          rw [if_neg (show ¬ (!true) = true by simp)]
          walk_at "z"
          refine Z.ite (fun h2 => ?_) (fun h2 => ?_)
          · have h2' : here ws = "-" := by simpa using h2
            walk_at "z"
            refine Z.ite (fun h3 => ?_) (fun h3 => ?_)
            · have h3' : here r1 = "0" := by simpa using h3
              walk_at "z"
              refine ⟨S, dx, _, rfl, hR1.at_, rf_refuse, ?_⟩
              walk_at "z"
              exact ⟨S, L, dx, ts, bh, a1, r1, dp, "expected", rfl, hR1, by decide +kernel, bad (.inr ⟨h2', h3'⟩)⟩
            · have h3' : ¬ here r1 = "0" := by simpa using h3
              walk_at "z"
              refine jn _ _ ⟨?_, rfl, rfl⟩
              rintro (h | ⟨_, h⟩)
              · rw [h1'] at h; cases h
              · exact h3' h
          · have h2' : ¬ here ws = "-" := by simpa using h2
            walk_at "z"
            refine jn _ _ ⟨?_, rfl, rfl⟩
            rintro (h | ⟨h, _⟩)
            · rw [h1'] at h; cases h
            · exact h2' h
    · intro N jn
      walk_at "z"
      refine Z.ite (fun h1 => ?_) (fun h1 => ?_)
      · walk_at "z"
        have h1' : here ws = "-" := by simpa using h1
        refine ⟨S, _, dx, _, _, rfl, hR.at_, T.cl_ConditionReader, T.na_ConditionReader__at, rf_a, ?_⟩
        walk_at "z"
        refine ⟨dx, _, hR.at_, by show 4 < 1000; decide, ?_⟩
        walk_at "z"
        rw [rf_pa]
        rw [if_pos h1'] at hr1
        refine jn _ _ ⟨rfl, Kp.put (by simp), a + 1, ?_⟩
        rw [← hr1]
        exact hR.step (here_ne h1' (by decide +kernel))
      · walk_at "z"
        have h1' : ¬ here ws = "-" := by simpa using h1
        rw [if_neg h1'] at hr1
        exact jn _ _ ⟨rfl, Kp.refl _, a, by rw [← hr1]; exact hR⟩

/-! ### conditions as trees -/
inductive Atom where
  | cmp (a : Bool) (s : Str) (n : Int)
  | grp (s : Str)
  | key (s : Str)
  | all
def cmpW (a : Bool) : Str := if a then "amount" else "weight"
def twoW (o : Bool) : Str := if o then "or" else "and"
def Atom.vs : Atom → List V
  | .cmp a s n => [.str (cmpW a), .str s, .int n]
  | .grp s => [.str "group", .str s]
  | .key s => [.str "key", .str s]
  | .all => [.str "all"]
inductive PT where
  | leaf (a : Atom)
  | neg (c : PT)
  | two (o : Bool) (c d : PT)
def TrAt (H : Hp) : PT → V → Prop
  | .leaf a, v => ∃ p, v = .ref p ∧ H p = some (.tup a.vs)
  | .neg c, v => ∃ p u, v = .ref p ∧ H p = some (.tup [.str "not", u]) ∧ TrAt H c u
  | .two o c d, v => ∃ p u x, v = .ref p ∧ H p = some (.tup [.str (twoW o), u, x]) ∧ TrAt H c u ∧ TrAt H d x
theorem TrAt.kp {M : List Addr} {H H' : Hp} (k : Kp M H H') (n : ∀ x ∈ M, ∀ vs, H x ≠ some (.tup vs)) : ∀ {t : PT} {v : V}, TrAt H t v → TrAt H' t v
  | .leaf a, v, ⟨p, e, h⟩ => ⟨p, e, k.get (fun z => n _ z _ h) h⟩
  | .neg c, v, ⟨p, u, e, h, h1⟩ => ⟨p, u, e, k.get (fun z => n _ z _ h) h, h1.kp k n⟩
  | .two o c d, v, ⟨p, u, x, e, h, h1, h2⟩ => ⟨p, u, x, e, k.get (fun z => n _ z _ h) h, h1.kp k n, h2.kp k n⟩
theorem TrAt.kp0 {H H' : Hp} {t : PT} {v : V} (h : TrAt H t v) (k : Kp [] H H') : TrAt H' t v := h.kp k fun _ h => by cases h
theorem TrAt.kpS {S C dx : Addr} {fs : List (Str × V)} {H H' : Hp} {t : PT} {v : V} (h : TrAt H t v) (k : Kp [S] H H') (e : H S = some (.ins C dx fs)) : TrAt H' t v := h.kp k fun x hx vs y => by
  rw [List.mem_singleton.mp hx, e] at y; cases y
/-! ### the parser as functions of words -/
abbrev Res := Except (Nat × Str) (PT × List Str)
def atomWs : List Str := ["all", "weight", "amount", "group", "key"]
def signs5 : List Str := ["<", "<=", "=", ">=", ">"]
def leafF (ws : List Str) : Res :=
  if here ws ∈ atomWs then
    if here ws = "all" then .ok (.leaf .all, ws.tail)
    else if here ws ∈ ([("group" : Str), "key"] : List Str) then
      if fineB (here ws.tail) then .ok (.leaf (if here ws = "group" then .grp (here ws.tail) else .key (here ws.tail)), ws.tail.tail)
      else .error (ws.tail.length, "expected")
    else if here ws.tail ∈ signs5 then
      match numF ws.tail.tail with
      | .ok (n, r) => .ok (.leaf (.cmp (decide (here ws = "amount")) (here ws.tail) n), r)
      | .error e => .error e
    else .error (ws.tail.length, "expected")
  else .error (ws.length, "expected")
def chainL (o : Bool) (tu : List Str → Res) : Nat → PT → List Str → Res
  | 0, t, ws => .ok (t, ws)
  | n + 1, t, ws => if here ws = twoW o then match tu ws.tail with
      | .ok (t2, r) => chainL o tu n (.two o t t2) r
      | .error e => .error e
    else .ok (t, ws)
def chain (o : Bool) (tu : List Str → Res) (ws : List Str) : Res := match tu ws with
  | .ok (t, r) => chainL o tu r.length t r
  | .error e => .error e
def brF (ei : Option (List Str → Res)) (ws : List Str) : Res := match ei with
  | none => .error (ws.length, "deep")
  | some f => match f ws.tail with
    | .ok (t, r) => if here r = ")" then .ok (t, r.tail) else .error (r.length, "expected")
    | .error e => .error e
def atomF (br : List Str → Res) (ws : List Str) : Res := if here ws = "(" then br ws else leafF ws
def turnS (dn : Option (List Str → Res)) (ws : List Str) : Res :=
  if here ws = "not" then match dn with
    | none => .error (ws.length, "deep")
    | some f => match f ws.tail with
      | .ok (t, r) => .ok (.neg t, r)
      | .error e => .error e
  else atomF (brF (dn.map fun f => chain true (chain false f))) ws
def turnF : Nat → List Str → Res
  | 0 => turnS none
  | D + 1 => turnS (some (turnF D))
/-- nothing is put back -/
def Shr (f : List Str → Res) : Prop := ∀ ws t r, f ws = .ok (t, r) → r.length ≤ ws.length
theorem tail_le (ws : List Str) : ws.tail.length ≤ ws.length := by rw [List.length_tail]; omega
theorem numF_shr {ws : List Str} {n : Int} {r : List Str} (h : numF ws = .ok (n, r)) : r.length ≤ ws.length := by
  unfold numF at h
  generalize hr1 : (if here ws = "-" then ws.tail else ws) = r1 at h
  have hl : r1.length ≤ ws.length := by
    rw [← hr1]
    split
    · exact tail_le _
    · exact Nat.le_refl _
  by_cases hb : intW (here r1) = false ∨ (here ws = "-" ∧ here r1 = "0")
  · rw [if_pos hb] at h; cases h
  · rw [if_neg hb] at h
    cases hw : withinO (here r1) 0 1000000 with
    | none => rw [hw] at h; cases h
    | some m =>
      rw [hw] at h
      cases h
      have := tail_le r1
      omega
theorem leafF_shr : Shr leafF := fun ws t r h => by
  unfold leafF at h
  have h1 := tail_le ws
  have h2 := tail_le ws.tail
  split at h
  · split at h
    · cases h; exact h1
    · split at h
      · split at h
        · cases h; omega
        · cases h
      · split at h
        · split at h
          · rename_i e
            cases h
            have := numF_shr e
            omega
          · cases h
        · cases h
  · cases h
theorem chainL_shr {o : Bool} {f : List Str → Res} (hf : Shr f) : ∀ {n : Nat} {t : PT} {ws : List Str} {t' : PT} {r : List Str}, chainL o f n t ws = .ok (t', r) → r.length ≤ ws.length
  | 0, t, ws, t', r, h => by cases h; exact Nat.le_refl _
  | n + 1, t, ws, t', r, h => by
    unfold chainL at h
    split at h
    · split at h
      · rename_i e
        have h1 := hf _ _ _ e
        have h2 := chainL_shr hf h
        have := tail_le ws
        omega
      · cases h
    · cases h; exact Nat.le_refl _
theorem chain_shr {o : Bool} {f : List Str → Res} (hf : Shr f) : Shr (chain o f) := fun ws t r h => by
  unfold chain at h
  split at h
  · rename_i e
    have h1 := hf _ _ _ e
    have h2 := chainL_shr hf h
    omega
  · cases h
theorem brF_shr {ei : Option (List Str → Res)} (hf : ∀ f, ei = some f → Shr f) : Shr (brF ei) := fun ws t r h => by
  unfold brF at h
  split at h
  · cases h
  · split at h
    · rename_i e
      have h1 := hf _ rfl _ _ _ e
      split at h
      · have := tail_le ws
        cases h
        rw [List.length_tail]
        omega
      · cases h
    · cases h
theorem atomF_shr {br : List Str → Res} (hf : Shr br) : Shr (atomF br) := fun ws t r h => by
  unfold atomF at h
  split at h
  · exact hf _ _ _ h
  · exact leafF_shr _ _ _ h
theorem turnS_shr {dn : Option (List Str → Res)} (hf : ∀ f, dn = some f → Shr f) : Shr (turnS dn) := fun ws t r h => by
  unfold turnS at h
  split at h
  · split at h
    · cases h
    · split at h
      · rename_i e
        have h1 := hf _ rfl _ _ _ e
        cases h
        have := tail_le ws
        omega
      · cases h
  · refine atomF_shr (brF_shr fun f hf1 => ?_) ws t r h
    cases dn with
    | none => cases hf1
    | some g =>
      cases hf1
      exact chain_shr (chain_shr (hf g rfl))
theorem turnF_shr : ∀ D, Shr (turnF D)
  | 0 => turnS_shr fun f h => by cases h
  | D + 1 => turnS_shr fun f h => by cases h; exact turnF_shr D

/-! ### the reader's parts -/
abbrev spTree (C CE : Addr) (f : List Str → Res) (D : Nat) : Sp := spRd C CE f (fun t v H => TrAt H t v) D
/-- one level down, where there is one -/
def spDn (C CE : Addr) (f : Option (List Str → Res)) (D : Nat) : Sp := fun vs H Q E => ∃ D' g, D = D' + 1 ∧ f = some g ∧ spTree C CE g D' vs H Q E
theorem no_fn {P : Program} {w : World} {K : PySem.W.Frag} {mg : Str → Option Value} {base : Heap} {m : Nat} {a : Addr} {fd : FuncData} {ps : List Str} {C CE : Addr} {D : Nat} : FnOk P w K mg base (L2.CX P w) m a fd ps (spDn C CE none D) :=
  ⟨fun _ _ _ _ h => (by obtain ⟨_, _, _, h, _⟩ := h; cases h), fun _ _ _ _ _ _ _ _ _ _ _ _ _ h => (by obtain ⟨_, _, _, h, _⟩ := h; cases h)⟩
theorem dn_fn {P : Program} {w : World} {K : PySem.W.Frag} {mg : Str → Option Value} {base : Heap} {m : Nat} {a : Addr} {fd : FuncData} {ps : List Str} {C CE : Addr} {D : Nat} {f : List Str → Res} (h : FnOk P w K mg base (L2.CX P w) m a fd ps (spTree C CE f D)) : FnOk P w K mg base (L2.CX P w) m a fd ps (spDn C CE (some f) (D + 1)) :=
  ⟨fun _ _ _ _ h1 => (by
    obtain ⟨D', g, e1, e2, h1⟩ := h1
    cases e1; cases e2
    exact h.1 _ _ _ _ h1), fun a1 a2 a3 a4 a5 a6 a7 a8 a9 a10 a11 a12 a13 h1 => (by
    obtain ⟨D', g, e1, e2, h1⟩ := h1
    cases e1; cases e2
    exact h.2 a1 a2 a3 a4 a5 a6 a7 a8 a9 a10 a11 a12 a13 h1)⟩
theorem chainL_yes {o : Bool} {f : List Str → Res} {n : Nat} {t t2 : PT} {ws r : List Str} (h : here ws = twoW o) (h2 : f ws.tail = .ok (t2, r)) : chainL o f (n + 1) t ws = chainL o f n (.two o t t2) r := by rw [chainL, if_pos h, h2]
theorem chainL_err {o : Bool} {f : List Str → Res} {n : Nat} {t : PT} {ws : List Str} {e : Nat × Str} (h : here ws = twoW o) (h2 : f ws.tail = .error e) : chainL o f (n + 1) t ws = .error e := by rw [chainL, if_pos h, h2]
theorem chainL_no {o : Bool} {f : List Str → Res} {n : Nat} {t : PT} {ws : List Str} (h : ¬ here ws = twoW o) : chainL o f n t ws = .ok (t, ws) := by
  cases n with
  | zero => rfl
  | succ n => rw [chainL, if_neg h]
theorem leaf_num {ws : List Str} {n : Int} {r : List Str} (h1 : here ws ∈ atomWs) (h2 : ¬ here ws = "all") (h3 : ¬ here ws ∈ ([("group" : Str), "key"] : List Str)) (h4 : here ws.tail ∈ signs5) (h : numF ws.tail.tail = .ok (n, r)) : leafF ws = .ok (.leaf (.cmp (decide (here ws = "amount")) (here ws.tail) n), r) := by
  unfold leafF
  rw [if_pos h1, if_neg h2, if_neg h3, if_pos h4, h]
theorem leaf_nerr {ws : List Str} {e : Nat × Str} (h1 : here ws ∈ atomWs) (h2 : ¬ here ws = "all") (h3 : ¬ here ws ∈ ([("group" : Str), "key"] : List Str)) (h4 : here ws.tail ∈ signs5) (h : numF ws.tail.tail = .error e) : leafF ws = .error e := by
  unfold leafF
  rw [if_pos h1, if_neg h2, if_neg h3, if_pos h4, h]
theorem cmpW_of {w : Str} (h1 : w ∈ atomWs) (h2 : ¬ w = "all") (h3 : ¬ w ∈ ([("group" : Str), "key"] : List Str)) : cmpW (decide (w = "amount")) = w := by
  unfold atomWs at h1
  simp only [List.mem_cons, List.not_mem_nil, or_false, not_or] at h1 h3
  unfold cmpW
  by_cases e : w = "amount"
  · rw [if_pos (decide_eq_true e), e]
  · rw [if_neg (by simpa using e)]
    rcases h1 with h | h | h | h | h
    · exact absurd h h2
    · exact h.symm
    · exact absurd h e
    · exact absurd h h3.1
    · exact absurd h h3.2
def spBr (C CE : Addr) (f : List Str → Res) (D : Nat) : Sp := fun vs H Q E => ∃ S L dx ts bh a ws dp, vs = [.ref S] ∧ RdAt C H S L dx ts bh a ws dp ∧ here ws = "(" ∧ dp + D = 20 ∧
  (∀ x r, f ws = .ok (x, r) → ∀ H' v a', Kp [S] H H' → RdAt C H' S L dx ts bh a' r dp → TrAt H' x v → Q v H') ∧
  (∀ l re, f ws = .error (l, re) → ∀ H' d, Kp [S] H H' → H' d = none → E (.ref CE) (some d) (upd H' d (.xd (flText [.int 1, .int (colR ts bh l : Int), .str re]))))
section
variable {P : Program} {w : World} {K : PySem.W.Frag} {mg : Str → Option Value} {base : Heap}
theorem both_ok (T : T P K mg) {D m : Nat} (hm : 4 ≤ m) {f : List Str → Res} (hf : Shr f) (hT : FnOk P w K mg base (L2.CX P w) m T.a_ConditionReader__turned T.fd_ConditionReader__turned ["self"] (spTree T.C_ConditionReader T.C_TextError f D)) : FnOk P w K mg base (L2.CX P w) (m + 1) T.a_ConditionReader__both T.fd_ConditionReader__both ["self"] (spTree T.C_ConditionReader T.C_TextError (chain false f) D) := by
  have ok_ConditionReader__turned := fun (_ : TT P K mg) => hT
  refine T.F_ConditionReader__both.okX sc_ConditionReader__both (fun vs H Q E h => ?_) (fun cdv A outer s H vs Q E hr h => ?_)
  · obtain ⟨S, L, dx, ts, bh, a, ws, dp, rfl, _⟩ := h
    rfl
  · obtain ⟨S, L, dx, ts, bh, a, ws, dp, rfl, hR, hdp, q, e⟩ := h
    refine ⟨_, (pss_cons (ps_set (i := 1) sc_ConditionReader__both.nd rfl (by first | exact Or.inl rfl | exact Or.inr rfl) (pe_meth0 (pv 0) T.cl_ConditionReader T.me_ConditionReader__turned (ok_ConditionReader__turned T) (hr.mono (by omega)) T.b_ConditionReader__turned .nil (passes_call (takes_of rfl rfl rfl rfl) (fun _ _ _ _ h => h))))
      (pss_cons (ps_while (passes_of rfl) (pt_cmpR op_eq (pe_meth0 (pv 0) T.cl_ConditionReader T.me_ConditionReader__here (ok_ConditionReader__here T) (hr.mono (by omega)) T.b_ConditionReader__here .nil pass0) pe_str (nomark _)) (pss_cons (ps_fldaug (pv 0) pe_int in_add)
      (pss_one (ps_set (i := 1) sc_ConditionReader__both.nd rfl (by first | exact Or.inl rfl | exact Or.inr rfl) (pe_tup (pa_cons pe_str (pa_cons (pv 1) (pa_cons (pe_meth0 (pv 0) T.cl_ConditionReader T.me_ConditionReader__turned (ok_ConditionReader__turned T) (hr.mono (by omega)) T.b_ConditionReader__turned .nil (passes_call (takes_of rfl rfl rfl rfl) (fun _ _ _ _ h => h))) pa_nil))))))))
      (pss_one (ps_ret (pv 1))))), ?_⟩
    walk_at "z0"
    walk_at "z"
    refine ⟨S, dx, _, rfl, hR.at_, rf_turned, ?_⟩
    refine ⟨S, L, dx, ts, bh, a, ws, dp, rfl, hR, hdp, fun t r hf1 H1 v a1 k1 hR1 hv => ?_, fun l re hf1 H1 d k1 hd => ?_⟩
    · have hC : chain false f ws = chainL false f r.length t r := by unfold chain; rw [hf1]
      walk_at "z"
      refine Z.wh (fun m σ' H' => ∃ (t : PT) (r : List Str) (v : V) (a1 : Nat), σ' = [some (.ref S), some v] ∧ r.length ≤ m ∧ Kp [S] H H' ∧ RdAt T.C_ConditionReader H' S L dx ts bh a1 r dp ∧ TrAt H' t v ∧ chain false f ws = chainL false f m t r) r.length ⟨t, r, v, a1, rfl, Nat.le_refl _, k1, hR1, hv, hC⟩ ?_
      rintro n σ' H2 ⟨t, r, v, a2, rfl, hn, k2, hR2, hv2, hC⟩
      walk_at "z"
      refine ⟨S, dx, _, rfl, hR2.at_, rf_here, ?_⟩
      refine ⟨S, L, dx, ts, bh, a2, r, dp, rfl, hR2, ?_⟩
      walk_at "z"
      refine Z.ite (fun h1 => ?_) (fun h1 => ?_)
      · refine Z.whb ?_
        have hne := here_ne h1 (by decide +kernel)
        have hpos : 0 < r.length := List.length_pos_iff.mpr hne
        obtain ⟨n, rfl⟩ : ∃ n', n = n' + 1 := ⟨n - 1, by omega⟩
        walk_at "z"
        refine ⟨S, _, dx, _, _, rfl, hR2.at_, T.cl_ConditionReader, T.na_ConditionReader__at, rf_a, ?_⟩
        walk_at "z"
        refine ⟨dx, _, hR2.at_, by show 4 < 1000; decide, ?_⟩
        walk_at "z"
        rw [rf_pa]
        have hR3 := hR2.step (e := dp) hne
        have k3 : Kp [S] H2 (upd H2 S (.ins T.C_ConditionReader dx (rf L bh ((a2 : Int) + 1) dp))) := Kp.put (by simp)
        have hv3 := hv2.kpS k3 hR2.at_
        refine ⟨S, dx, _, rfl, hR3.at_, rf_turned, ?_⟩
        refine ⟨S, L, dx, ts, bh, _, r.tail, dp, rfl, hR3, hdp, fun t2 r2 hf2 H4 v2 a4 k4 hR4 hv4 => ?_, fun l re hf2 H4 d k4 hd => ?_⟩
        · walk_at "z"
          refine Z.tupK (fun p H5 np k5 e5 => ?_)
          walk_at "z"
          have hCn := chainL_yes (n := n) (t := t) (show here r = twoW false from h1) hf2
          have hs := hf _ _ _ hf2
          rw [List.length_tail] at hs
          refine ⟨n, by omega, .two false t t2, r2, .ref p, a4, rfl, by omega, ((k2.trans k3).trans k4).trans (k5.sub (by simp)), hR4.kp k5, ⟨p, v, v2, rfl, e5, (hv3.kpS k4 hR3.at_).kp0 k5, hv4.kp0 k5⟩, by rw [hC, hCn]⟩
        · have hCn := chainL_err (n := n) (t := t) (show here r = twoW false from h1) hf2
          exact e l re (by rw [hC, hCn]) _ d ((k2.trans k3).trans k4) hd
      · walk_at "z"
        have hCn := chainL_no (n := n) (f := f) (t := t) (show ¬ here r = twoW false from h1)
        exact q t r (by rw [hC, hCn]) _ _ _ k2 hR2 hv2
    · exact e l re (by unfold chain; rw [hf1]) H1 d k1 hd
theorem either_ok (T : T P K mg) {D m : Nat} (hm : 4 ≤ m) {f : List Str → Res} (hf : Shr f) (hT : FnOk P w K mg base (L2.CX P w) m T.a_ConditionReader__both T.fd_ConditionReader__both ["self"] (spTree T.C_ConditionReader T.C_TextError f D)) : FnOk P w K mg base (L2.CX P w) (m + 1) T.a_ConditionReader__either T.fd_ConditionReader__either ["self"] (spTree T.C_ConditionReader T.C_TextError (chain true f) D) := by
  have ok_ConditionReader__both := fun (_ : TT P K mg) => hT
  refine T.F_ConditionReader__either.okX sc_ConditionReader__either (fun vs H Q E h => ?_) (fun cdv A outer s H vs Q E hr h => ?_)
  · obtain ⟨S, L, dx, ts, bh, a, ws, dp, rfl, _⟩ := h
    rfl
  · obtain ⟨S, L, dx, ts, bh, a, ws, dp, rfl, hR, hdp, q, e⟩ := h
    refine ⟨_, (pss_cons (ps_set (i := 1) sc_ConditionReader__either.nd rfl (by first | exact Or.inl rfl | exact Or.inr rfl) (pe_meth0 (pv 0) T.cl_ConditionReader T.me_ConditionReader__both (ok_ConditionReader__both T) (hr.mono (by omega)) T.b_ConditionReader__both .nil (passes_call (takes_of rfl rfl rfl rfl) (fun _ _ _ _ h => h))))
      (pss_cons (ps_while (passes_of rfl) (pt_cmpR op_eq (pe_meth0 (pv 0) T.cl_ConditionReader T.me_ConditionReader__here (ok_ConditionReader__here T) (hr.mono (by omega)) T.b_ConditionReader__here .nil pass0) pe_str (nomark _)) (pss_cons (ps_fldaug (pv 0) pe_int in_add)
      (pss_one (ps_set (i := 1) sc_ConditionReader__either.nd rfl (by first | exact Or.inl rfl | exact Or.inr rfl) (pe_tup (pa_cons pe_str (pa_cons (pv 1) (pa_cons (pe_meth0 (pv 0) T.cl_ConditionReader T.me_ConditionReader__both (ok_ConditionReader__both T) (hr.mono (by omega)) T.b_ConditionReader__both .nil (passes_call (takes_of rfl rfl rfl rfl) (fun _ _ _ _ h => h))) pa_nil))))))))
      (pss_one (ps_ret (pv 1))))), ?_⟩
    walk_at "z0"
    walk_at "z"
    refine ⟨S, dx, _, rfl, hR.at_, rf_both, ?_⟩
    refine ⟨S, L, dx, ts, bh, a, ws, dp, rfl, hR, hdp, fun t r hf1 H1 v a1 k1 hR1 hv => ?_, fun l re hf1 H1 d k1 hd => ?_⟩
    · have hC : chain true f ws = chainL true f r.length t r := by unfold chain; rw [hf1]
      walk_at "z"
      refine Z.wh (fun m σ' H' => ∃ (t : PT) (r : List Str) (v : V) (a1 : Nat), σ' = [some (.ref S), some v] ∧ r.length ≤ m ∧ Kp [S] H H' ∧ RdAt T.C_ConditionReader H' S L dx ts bh a1 r dp ∧ TrAt H' t v ∧ chain true f ws = chainL true f m t r) r.length ⟨t, r, v, a1, rfl, Nat.le_refl _, k1, hR1, hv, hC⟩ ?_
      rintro n σ' H2 ⟨t, r, v, a2, rfl, hn, k2, hR2, hv2, hC⟩
      walk_at "z"
      refine ⟨S, dx, _, rfl, hR2.at_, rf_here, ?_⟩
      refine ⟨S, L, dx, ts, bh, a2, r, dp, rfl, hR2, ?_⟩
      walk_at "z"
      refine Z.ite (fun h1 => ?_) (fun h1 => ?_)
      · refine Z.whb ?_
        have hne := here_ne h1 (by decide +kernel)
        have hpos : 0 < r.length := List.length_pos_iff.mpr hne
        obtain ⟨n, rfl⟩ : ∃ n', n = n' + 1 := ⟨n - 1, by omega⟩
        walk_at "z"
        refine ⟨S, _, dx, _, _, rfl, hR2.at_, T.cl_ConditionReader, T.na_ConditionReader__at, rf_a, ?_⟩
        walk_at "z"
        refine ⟨dx, _, hR2.at_, by show 4 < 1000; decide, ?_⟩
        walk_at "z"
        rw [rf_pa]
        have hR3 := hR2.step (e := dp) hne
        have k3 : Kp [S] H2 (upd H2 S (.ins T.C_ConditionReader dx (rf L bh ((a2 : Int) + 1) dp))) := Kp.put (by simp)
        have hv3 := hv2.kpS k3 hR2.at_
        refine ⟨S, dx, _, rfl, hR3.at_, rf_both, ?_⟩
        refine ⟨S, L, dx, ts, bh, _, r.tail, dp, rfl, hR3, hdp, fun t2 r2 hf2 H4 v2 a4 k4 hR4 hv4 => ?_, fun l re hf2 H4 d k4 hd => ?_⟩
        · walk_at "z"
          refine Z.tupK (fun p H5 np k5 e5 => ?_)
          walk_at "z"
          have hCn := chainL_yes (n := n) (t := t) (show here r = twoW true from h1) hf2
          have hs := hf _ _ _ hf2
          rw [List.length_tail] at hs
          refine ⟨n, by omega, .two true t t2, r2, .ref p, a4, rfl, by omega, ((k2.trans k3).trans k4).trans (k5.sub (by simp)), hR4.kp k5, ⟨p, v, v2, rfl, e5, (hv3.kpS k4 hR3.at_).kp0 k5, hv4.kp0 k5⟩, by rw [hC, hCn]⟩
        · have hCn := chainL_err (n := n) (t := t) (show here r = twoW true from h1) hf2
          exact e l re (by rw [hC, hCn]) _ d ((k2.trans k3).trans k4) hd
      · walk_at "z"
        have hCn := chainL_no (n := n) (f := f) (t := t) (show ¬ here r = twoW true from h1)
        exact q t r (by rw [hC, hCn]) _ _ _ k2 hR2 hv2
    · exact e l re (by unfold chain; rw [hf1]) H1 d k1 hd
theorem bracket_ok (T : T P K mg) {D m : Nat} (hm : 4 ≤ m) {f : Option (List Str → Res)} (hD : f = none ↔ D = 0) (hT : FnOk P w K mg base (L2.CX P w) m T.a_ConditionReader__either T.fd_ConditionReader__either ["self"] (spDn T.C_ConditionReader T.C_TextError f D)) : FnOk P w K mg base (L2.CX P w) (m + 1) T.a_ConditionReader__bracket T.fd_ConditionReader__bracket ["self"] (spBr T.C_ConditionReader T.C_TextError (brF f) D) := by
  have ok_ConditionReader__either := fun (_ : TT P K mg) => hT
  refine T.F_ConditionReader__bracket.okX sc_ConditionReader__bracket (fun vs H Q E h => ?_) (fun cdv A outer s H vs Q E hr h => ?_)
  · obtain ⟨S, L, dx, ts, bh, a, ws, dp, rfl, _⟩ := h
    rfl
  · obtain ⟨S, L, dx, ts, bh, a, ws, dp, rfl, hR, hp, hdp, q, e⟩ := h
    refine ⟨_, (pss_cons (ps_expr (pe_meth0 (pv 0) T.cl_ConditionReader T.me_ConditionReader__go_in (ok_ConditionReader__go_in T) (hr.mono (by omega)) T.b_ConditionReader__go_in .nil (passes_call (takes_of rfl rfl rfl rfl) (fun _ _ _ _ h => h))))
      (pss_cons (ps_set (i := 1) sc_ConditionReader__bracket.nd rfl (by first | exact Or.inl rfl | exact Or.inr rfl) (pe_meth0 (pv 0) T.cl_ConditionReader T.me_ConditionReader__either (ok_ConditionReader__either T) (hr.mono (by omega)) T.b_ConditionReader__either .nil (passes_call (takes_of rfl rfl rfl rfl) (fun _ _ _ _ h => h))))
      (pss_cons (ps_expr (pe_meth (pv 0) T.cl_ConditionReader T.me_ConditionReader__take (ok_ConditionReader__take T) (hr.mono (by omega)) T.b_ConditionReader__take .nil (passes_call (takes_of rfl rfl rfl rfl) (fun _ _ _ _ h => h)) (pa_cons (pe_cmpR op_eq (pe_meth0 (pv 0) T.cl_ConditionReader T.me_ConditionReader__here (ok_ConditionReader__here T) (hr.mono (by omega)) T.b_ConditionReader__here .nil pass0) pe_str (nomark _)) pa_nil)))
      (pss_cons (ps_fldaug (pv 0) pe_int in_sub)
      (pss_one (ps_ret (pv 1))))))), ?_⟩
    walk_at "z0"
    walk_at "z"
    refine ⟨S, dx, _, rfl, hR.at_, rf_go_in, ?_⟩
    refine ⟨S, L, dx, ts, bh, a, ws, dp, rfl, hR, by omega, fun hlt => ⟨here_ne hp (by decide +kernel), fun H1 k1 hR1 => ?_⟩, fun heq d hd => ?_⟩
    · cases f with
      | none => exact absurd (hD.mp rfl) (by omega)
      | some g =>
        obtain ⟨D, rfl⟩ : ∃ D', D = D' + 1 := ⟨D - 1, by omega⟩
        walk_at "z"
        refine ⟨S, dx, _, rfl, hR1.at_, rf_either, ?_⟩
        refine ⟨D, g, rfl, rfl, S, L, dx, ts, bh, _, ws.tail, dp + 1, rfl, hR1, by omega, fun t r hf1 H2 v a2 k2 hR2 hv => ?_, fun l re hf1 H2 d k2 hd => ?_⟩
        · walk_at "z"
          refine ⟨S, dx, _, rfl, hR2.at_, rf_take, ?_⟩
          walk_at "z"
          refine ⟨S, dx, _, rfl, hR2.at_, rf_here, ?_⟩
          refine ⟨S, L, dx, ts, bh, a2, r, dp + 1, rfl, hR2, ?_⟩
          walk_at "z"
          have hB : brF (some g) ws = if here r = ")" then .ok (t, r.tail) else .error (r.length, "expected") := by
            unfold brF
            simp only [hf1]
          refine ⟨S, L, dx, ts, bh, a2, r, dp + 1, _, rfl, hR2, fun hb => ?_, fun hb d hd => ?_⟩
          · have hb' : here r = ")" := of_decide_eq_true hb
            refine ⟨here_ne hb' (by decide +kernel), fun H3 k3 hR3 => ?_⟩
            walk_at "z"
            refine ⟨S, _, dx, _, _, rfl, hR3.at_, T.cl_ConditionReader, T.na_ConditionReader__depth, rf_d, ?_⟩
            walk_at "z"
            refine ⟨_, _, rfl, rfl, ?_⟩
            refine ⟨dx, _, hR3.at_, by show 4 < 1000; decide, ?_⟩
            walk_at "z"
            rw [rf_pd, show ((dp + 1 : Nat) : Int) - 1 = (dp : Int) by omega]
            rw [if_pos hb'] at hB
            have k4 : Kp [S] H3 (upd H3 S (.ins T.C_ConditionReader dx (rf L bh ((a2 + 1 : Nat) : Int) dp))) := Kp.put (by simp)
            refine q t r.tail hB _ v _ (((k1.trans k2).trans k3).trans k4) (hR3.put (e := dp) hR3.len hR3.ws) ((hv.kpS k3 hR2.at_).kpS k4 hR3.at_)
          · have hb' : ¬ here r = ")" := of_decide_eq_false hb
            rw [if_neg hb'] at hB
            exact e _ _ hB _ d (k1.trans k2) hd
        · exact e l re (by unfold brF; simp only [hf1]) _ d (k1.trans k2) hd
    · cases f with
      | some g => exact absurd (hD.mpr (by omega)) (by simp)
      | none => exact e ws.length "deep" rfl _ d (Kp.refl _) hd
theorem atom_ok (T : T P K mg) {D m : Nat} (hm : 5 ≤ m) {f : List Str → Res} (hT : FnOk P w K mg base (L2.CX P w) m T.a_ConditionReader__bracket T.fd_ConditionReader__bracket ["self"] (spBr T.C_ConditionReader T.C_TextError f D)) : FnOk P w K mg base (L2.CX P w) (m + 1) T.a_ConditionReader__atom T.fd_ConditionReader__atom ["self"] (spTree T.C_ConditionReader T.C_TextError (atomF f) D) := by
  have ok_ConditionReader__bracket := fun (_ : TT P K mg) => hT
  have ok_ConditionReader__number := fun (T : TT P K mg) => number_ok (w := w) (base := base) T D
  refine T.F_ConditionReader__atom.okX sc_ConditionReader__atom (fun vs H Q E h => ?_) (fun cdv A outer s H vs Q E hr h => ?_)
  · obtain ⟨S, L, dx, ts, bh, a, ws, dp, rfl, _⟩ := h
    rfl
  · obtain ⟨S, L, dx, ts, bh, a, ws, dp, rfl, hR, hdp, q, e⟩ := h
    refine ⟨_, (pss_cons (ps_if (pt_cmpR op_eq (pe_meth0 (pv 0) T.cl_ConditionReader T.me_ConditionReader__here (ok_ConditionReader__here T) (hr.mono (by omega)) T.b_ConditionReader__here .nil pass0) pe_str (nomark _)) (pss_one (ps_ret (pe_meth0 (pv 0) T.cl_ConditionReader T.me_ConditionReader__bracket (ok_ConditionReader__bracket T) (hr.mono (by omega)) T.b_ConditionReader__bracket .nil (passes_call (takes_of rfl rfl rfl rfl) (fun _ _ _ _ h => h))))) pss_nil)
      (pss_cons (ps_set (i := 1) sc_ConditionReader__atom.nd rfl (by first | exact Or.inl rfl | exact Or.inr rfl) (pe_meth (pv 0) T.cl_ConditionReader T.me_ConditionReader__take (ok_ConditionReader__take T) (hr.mono (by omega)) T.b_ConditionReader__take .nil (passes_call (takes_of rfl rfl rfl rfl) (fun _ _ _ _ h => h)) (pa_cons (pe_cmpR op_in_seq (pe_meth0 (pv 0) T.cl_ConditionReader T.me_ConditionReader__here (ok_ConditionReader__here T) (hr.mono (by omega)) T.b_ConditionReader__here .nil pass0) (pe_glob (v := .ref T.k_ATOM_WORDS) (by rfl) T.g_ATOM_WORDS rfl) rfl) pa_nil)))
      (pss_cons (ps_if (pt_cmpR op_eq (pv 1) pe_str (nomark _)) (pss_one (ps_ret (pe_tup (pa_cons pe_str pa_nil)))) pss_nil)
      (pss_cons (ps_if (pt_cmpR op_in_seq (pv 1) (pe_tup (pa_cons pe_str (pa_cons pe_str pa_nil))) rfl) (pss_one (ps_ret (pe_tup (pa_cons (pv 1) (pa_cons (pe_meth (pv 0) T.cl_ConditionReader T.me_ConditionReader__take (ok_ConditionReader__take T) (hr.mono (by omega)) T.b_ConditionReader__take .nil (passes_call (takes_of rfl rfl rfl rfl) (fun _ _ _ _ h => h)) (pa_cons (pe_call (ok_is_name T) (hr.mono (by omega)) (by rfl) T.g_is_name T.F_is_name.kp T.b_is_name .nil pass0 (pa_cons (pe_meth0 (pv 0) T.cl_ConditionReader T.me_ConditionReader__here (ok_ConditionReader__here T) (hr.mono (by omega)) T.b_ConditionReader__here .nil pass0) pa_nil)) pa_nil)) pa_nil))))) pss_nil)
      (pss_cons (ps_set (i := 2) sc_ConditionReader__atom.nd rfl (by first | exact Or.inl rfl | exact Or.inr rfl) (pe_meth (pv 0) T.cl_ConditionReader T.me_ConditionReader__take (ok_ConditionReader__take T) (hr.mono (by omega)) T.b_ConditionReader__take .nil (passes_call (takes_of rfl rfl rfl rfl) (fun _ _ _ _ h => h)) (pa_cons (pe_cmpR op_in_seq (pe_meth0 (pv 0) T.cl_ConditionReader T.me_ConditionReader__here (ok_ConditionReader__here T) (hr.mono (by omega)) T.b_ConditionReader__here .nil pass0) (pe_glob (v := .ref T.k_COMPARING) (by rfl) T.g_COMPARING rfl) rfl) pa_nil)))
      (pss_one (ps_ret (pe_tup (pa_cons (pv 1) (pa_cons (pv 2) (pa_cons (pe_meth0 (pv 0) T.cl_ConditionReader T.me_ConditionReader__number (ok_ConditionReader__number T) (hr.mono (by omega)) T.b_ConditionReader__number .nil (passes_call (takes_of rfl rfl rfl rfl) (fun _ _ _ _ h => h))) pa_nil))))))))))), ?_⟩
    walk_at "z0"
    walk_at "z"
    refine ⟨S, dx, _, rfl, hR.at_, rf_here, ?_⟩
    refine ⟨S, L, dx, ts, bh, a, ws, dp, rfl, hR, ?_⟩
    walk_at "z"
    refine Z.ite (fun h1 => ?_) (fun h1 => ?_)
    · have hA : atomF f ws = f ws := by unfold atomF; rw [if_pos h1]
      walk_at "z"
      refine ⟨S, dx, _, rfl, hR.at_, rf_bracket, ?_⟩
      refine ⟨S, L, dx, ts, bh, a, ws, dp, rfl, hR, h1, hdp, fun t r hf1 H2 v a2 k2 hR2 hv => ?_, fun l re hf1 H2 d k2 hd => ?_⟩
      · walk_at "z"
        exact q t r (by rw [hA, hf1]) _ v _ k2 hR2 hv
      · exact e l re (by rw [hA, hf1]) _ d k2 hd
    · have hA : atomF f ws = leafF ws := by unfold atomF; rw [if_neg h1]
      walk_at "z"
      refine ⟨S, dx, _, rfl, hR.at_, rf_take, ?_⟩
      walk_at "z"
      refine ⟨S, dx, _, rfl, hR.at_, rf_here, ?_⟩
      refine ⟨S, L, dx, ts, bh, a, ws, dp, rfl, hR, ?_⟩
      walk_at "z"
      refine Z.inq (xs := atomWs.map V.str) (.inr (T.q_ATOM_WORDS _)) rfl Z.strs_flat ?_
      rw [if_neg Bool.false_ne_true, Z.inV_strs]
      walk_at "z"
      refine ⟨S, L, dx, ts, bh, a, ws, dp, _, rfl, hR, fun hb => ?_, fun hb d hd => ?_⟩
      · have hb' : here ws ∈ atomWs := of_decide_eq_true hb
        refine ⟨here_ne (w := here ws) rfl (fun z => by rw [z] at hb'; revert hb'; decide +kernel), fun H1 k1 hR1 => ?_⟩
        walk_at "z"
        refine Z.ite (fun h2 => ?_) (fun h2 => ?_)
        · walk_at "z"
          refine Z.tupK (fun p H2 np k2 e2 => ?_)
          walk_at "z"
          exact q (.leaf .all) ws.tail (by rw [hA]; unfold leafF; rw [if_pos hb', if_pos h2]) _ _ _ (k1.trans (k2.sub (by simp))) (hR1.kp k2) ⟨p, rfl, e2⟩
        · walk_at "z"
          refine Z.tupK (fun p H2 np k2 e2 => ?_)
          refine Z.inq (xs := ([("group" : Str), "key"] : List Str).map V.str) (.inr (tupT e2)) rfl Z.strs_flat ?_
          rw [if_neg Bool.false_ne_true, Z.inV_strs]
          walk_at "z"
          have hR2 := hR1.kp k2
          refine Z.ite (fun h3 => ?_) (fun h3 => ?_)
          · walk_at "z"
            refine ⟨S, dx, _, rfl, hR2.at_, rf_take, ?_⟩
            walk_at "z"
            refine ⟨S, dx, _, rfl, hR2.at_, rf_here, ?_⟩
            refine ⟨S, L, dx, ts, bh, _, ws.tail, dp, rfl, hR2, ?_⟩
            refine ⟨here ws.tail, rfl, Nat.le_trans (here_sz hR2) (by decide), ?_⟩
            walk_at "z"
            refine ⟨S, L, dx, ts, bh, _, ws.tail, dp, _, rfl, hR2, fun hc => ?_, fun hc d hd => ?_⟩
            · refine ⟨here_ne (w := here ws.tail) rfl (fun z => by rw [z] at hc; revert hc; decide +kernel), fun H3 k3 hR3 => ?_⟩
              walk_at "z"
              refine Z.tupK (fun p H5 np k5 e5 => ?_)
              walk_at "z"
              refine q (.leaf (if here ws = "group" then .grp (here ws.tail) else .key (here ws.tail))) ws.tail.tail (by rw [hA]; unfold leafF; rw [if_pos hb', if_neg h2, if_pos h3, if_pos hc]) _ _ _ (((k1.trans (k2.sub (by simp))).trans k3).trans (k5.sub (by simp))) (hR3.kp k5) ⟨p, rfl, ?_⟩
              by_cases hg : here ws = "group"
              · rw [if_pos hg, e5, hg]; rfl
              · rw [if_neg hg, e5]
                have : here ws = "key" := by simpa [hg] using h3
                rw [this]; rfl
            · exact e _ _ (by rw [hA]; unfold leafF; rw [if_pos hb', if_neg h2, if_pos h3, if_neg (by rw [hc]; decide)]) _ d (k1.trans (k2.sub (by simp))) hd
          · walk_at "z"
            refine ⟨S, dx, _, rfl, hR2.at_, rf_take, ?_⟩
            walk_at "z"
            refine ⟨S, dx, _, rfl, hR2.at_, rf_here, ?_⟩
            refine ⟨S, L, dx, ts, bh, _, ws.tail, dp, rfl, hR2, ?_⟩
            walk_at "z"
            refine Z.inq (xs := signs5.map V.str) (.inr (T.q_COMPARING _)) rfl Z.strs_flat ?_
            rw [if_neg Bool.false_ne_true, Z.inV_strs]
            walk_at "z"
            refine ⟨S, L, dx, ts, bh, _, ws.tail, dp, _, rfl, hR2, fun hc => ?_, fun hc d hd => ?_⟩
            · have hc' : here ws.tail ∈ signs5 := of_decide_eq_true hc
              refine ⟨here_ne (w := here ws.tail) rfl (fun z => by rw [z] at hc'; revert hc'; decide +kernel), fun H3 k3 hR3 => ?_⟩
              walk_at "z"
              refine ⟨S, dx, _, rfl, hR3.at_, rf_number, ?_⟩
              refine ⟨S, L, dx, ts, bh, _, ws.tail.tail, dp, rfl, hR3, hdp, fun n r hn H4 v a4 k4 hR4 hv => ?_, fun l re hn H4 d k4 hd => ?_⟩
              · obtain rfl : v = .int n := hv
                walk_at "z"
                refine Z.tupK (fun p H5 np k5 e5 => ?_)
                walk_at "z"
                refine q (.leaf (.cmp (decide (here ws = "amount")) (here ws.tail) n)) r (by rw [hA]; exact leaf_num hb' h2 h3 hc' hn) _ _ _ ((((k1.trans (k2.sub (by simp))).trans k3).trans k4).trans (k5.sub (by simp))) (hR4.kp k5) ⟨p, rfl, ?_⟩
                show H5 p = some (.tup [.str (cmpW (decide (here ws = "amount"))), .str (here ws.tail), .int n])
                rw [cmpW_of hb' h2 h3]
                exact e5
              · exact e l re (by rw [hA]; exact leaf_nerr hb' h2 h3 hc' hn) _ d (((k1.trans (k2.sub (by simp))).trans k3).trans k4) hd
            · have hc' : ¬ here ws.tail ∈ signs5 := of_decide_eq_false hc
              exact e _ _ (by rw [hA]; unfold leafF; rw [if_pos hb', if_neg h2, if_neg h3, if_neg hc']) _ d (k1.trans (k2.sub (by simp))) hd
      · have hb' : ¬ here ws ∈ atomWs := of_decide_eq_false hb
        exact e _ _ (by rw [hA]; unfold leafF; rw [if_neg hb']) _ d (Kp.refl _) hd
theorem turned_ok (T : T P K mg) {D m : Nat} (hm : 6 ≤ m) {dn : Option (List Str → Res)} (hD : dn = none ↔ D = 0) (hT : FnOk P w K mg base (L2.CX P w) m T.a_ConditionReader__turned T.fd_ConditionReader__turned ["self"] (spDn T.C_ConditionReader T.C_TextError dn D)) (hA : FnOk P w K mg base (L2.CX P w) m T.a_ConditionReader__atom T.fd_ConditionReader__atom ["self"] (spTree T.C_ConditionReader T.C_TextError (atomF (brF (dn.map fun f => chain true (chain false f)))) D)) : FnOk P w K mg base (L2.CX P w) (m + 1) T.a_ConditionReader__turned T.fd_ConditionReader__turned ["self"] (spTree T.C_ConditionReader T.C_TextError (turnS dn) D) := by
  have ok_ConditionReader__turned := fun (_ : TT P K mg) => hT
  have ok_ConditionReader__atom := fun (_ : TT P K mg) => hA
  refine T.F_ConditionReader__turned.okX sc_ConditionReader__turned (fun vs H Q E h => ?_) (fun cdv A outer s H vs Q E hr h => ?_)
  · obtain ⟨S, L, dx, ts, bh, a, ws, dp, rfl, _⟩ := h
    rfl
  · obtain ⟨S, L, dx, ts, bh, a, ws, dp, rfl, hR, hdp, q, e⟩ := h
    refine ⟨_, (pss_cons (ps_if (pt_cmpR op_ne (pe_meth0 (pv 0) T.cl_ConditionReader T.me_ConditionReader__here (ok_ConditionReader__here T) (hr.mono (by omega)) T.b_ConditionReader__here .nil pass0) pe_str (nomark _)) (pss_one (ps_ret (pe_meth0 (pv 0) T.cl_ConditionReader T.me_ConditionReader__atom (ok_ConditionReader__atom T) (hr.mono (by omega)) T.b_ConditionReader__atom .nil (passes_call (takes_of rfl rfl rfl rfl) (fun _ _ _ _ h => h))))) pss_nil)
      (pss_cons (ps_expr (pe_meth0 (pv 0) T.cl_ConditionReader T.me_ConditionReader__go_in (ok_ConditionReader__go_in T) (hr.mono (by omega)) T.b_ConditionReader__go_in .nil (passes_call (takes_of rfl rfl rfl rfl) (fun _ _ _ _ h => h))))
      (pss_cons (ps_set (i := 1) sc_ConditionReader__turned.nd rfl (by first | exact Or.inl rfl | exact Or.inr rfl) (pe_meth0 (pv 0) T.cl_ConditionReader T.me_ConditionReader__turned (ok_ConditionReader__turned T) (hr.mono (by omega)) T.b_ConditionReader__turned .nil (passes_call (takes_of rfl rfl rfl rfl) (fun _ _ _ _ h => h))))
      (pss_cons (ps_fldaug (pv 0) pe_int in_sub)
      (pss_one (ps_ret (pe_tup (pa_cons pe_str (pa_cons (pv 1) pa_nil))))))))), ?_⟩
    walk_at "z0"
    walk_at "z"
    refine ⟨S, dx, _, rfl, hR.at_, rf_here, ?_⟩
    refine ⟨S, L, dx, ts, bh, a, ws, dp, rfl, hR, ?_⟩
    walk_at "z"
    by_cases h1 : here ws = "not"
    · rw [if_neg (show ¬ (!decide (here ws = "not")) = true by simp [h1])]
      walk_at "z"
      refine ⟨S, dx, _, rfl, hR.at_, rf_go_in, ?_⟩
      refine ⟨S, L, dx, ts, bh, a, ws, dp, rfl, hR, by omega, fun hlt => ⟨here_ne h1 (by decide +kernel), fun H1 k1 hR1 => ?_⟩, fun heq d hd => ?_⟩
      · cases dn with
        | none => exact absurd (hD.mp rfl) (by omega)
        | some g =>
          obtain ⟨D, rfl⟩ : ∃ D', D = D' + 1 := ⟨D - 1, by omega⟩
          walk_at "z"
          refine ⟨S, dx, _, rfl, hR1.at_, rf_turned, ?_⟩
          refine ⟨D, g, rfl, rfl, S, L, dx, ts, bh, _, ws.tail, dp + 1, rfl, hR1, by omega, fun t r hf1 H2 v a2 k2 hR2 hv => ?_, fun l re hf1 H2 d k2 hd => ?_⟩
          · walk_at "z"
            refine ⟨S, _, dx, _, _, rfl, hR2.at_, T.cl_ConditionReader, T.na_ConditionReader__depth, rf_d, ?_⟩
            walk_at "z"
            refine ⟨_, _, rfl, rfl, ?_⟩
            refine ⟨dx, _, hR2.at_, by show 4 < 1000; decide, ?_⟩
            walk_at "z"
            rw [rf_pd, show ((dp + 1 : Nat) : Int) - 1 = (dp : Int) by omega]
            have k4 : Kp [S] H2 (upd H2 S (.ins T.C_ConditionReader dx (rf L bh (a2 : Int) dp))) := Kp.put (by simp)
            have hR3 := hR2.put (e := dp) hR2.len hR2.ws
            refine Z.tupK (fun p H5 np k5 e5 => ?_)
            walk_at "z"
            refine q (.neg t) r (by unfold turnS; rw [if_pos h1]; simp only [hf1]) _ _ _ (((k1.trans k2).trans k4).trans (k5.sub (by simp))) (hR3.kp k5) ⟨p, v, rfl, e5, (hv.kpS k4 hR2.at_).kp0 k5⟩
          · exact e l re (by unfold turnS; rw [if_pos h1]; simp only [hf1]) _ d (k1.trans k2) hd
      · cases dn with
        | some g => exact absurd (hD.mpr (by omega)) (by simp)
        | none => exact e ws.length "deep" (by unfold turnS; rw [if_pos h1]) _ d (Kp.refl _) hd
    · rw [if_pos (show (!decide (here ws = "not")) = true by simp [h1])]
      have hS : turnS dn ws = atomF (brF (dn.map fun f => chain true (chain false f))) ws := by unfold turnS; rw [if_neg h1]
      walk_at "z"
      refine ⟨S, dx, _, rfl, hR.at_, rf_atom, ?_⟩
      refine ⟨S, L, dx, ts, bh, a, ws, dp, rfl, hR, hdp, fun t r hf1 H2 v a2 k2 hR2 hv => ?_, fun l re hf1 H2 d k2 hd => ?_⟩
      · walk_at "z"
        exact q t r (by rw [hS, hf1]) _ _ _ k2 hR2 hv
      · exact e l re (by rw [hS, hf1]) _ d k2 hd
theorem turnF_ok (T : T P K mg) : ∀ D, FnOk P w K mg base (L2.CX P w) (5 * D + 8) T.a_ConditionReader__turned T.fd_ConditionReader__turned ["self"] (spTree T.C_ConditionReader T.C_TextError (turnF D) D)
  | 0 => turned_ok T (m := 7) (by omega) ⟨fun _ => rfl, fun _ => rfl⟩ no_fn ((atom_ok T (m := 6) (by omega) (bracket_ok T (m := 5) (by omega) ⟨fun _ => rfl, fun _ => rfl⟩ no_fn)).mono (by omega))
  | D + 1 => by
    have ih := turnF_ok T D
    have hb := both_ok T (by omega) (turnF_shr D) ih
    have he := either_ok T (by omega) (chain_shr (turnF_shr D)) hb
    have hr := bracket_ok T (by omega) ⟨fun h => (by cases h), fun h => absurd h (by omega)⟩ (dn_fn he)
    have ha := atom_ok T (by omega) hr
    exact turned_ok T (m := 5 * D + 12) (by omega) (dn := some (turnF D)) ⟨fun h => (by cases h), fun h => absurd h (by omega)⟩ (dn_fn (ih.mono (by omega))) ha
end

/-! ### whole conditions -/
def topF (ws : List Str) : Res := chain true (chain false (turnF 20)) ws
def wholeF (ws : List Str) : Except (Nat × Str) PT := match topF ws with
  | .ok (t, r) => if r = [] then .ok t else .error (r.length, "expected")
  | .error e => .error e
section
variable {P : Program} {w : World} {K : PySem.W.Frag} {mg : Str → Option Value} {base : Heap}
theorem ok_ConditionReader__either (T : T P K mg) : FnOk P w K mg base (L2.CX P w) 120 T.a_ConditionReader__either T.fd_ConditionReader__either ["self"] (spTree T.C_ConditionReader T.C_TextError topF 20) :=
  (either_ok T (m := 119) (by omega) (chain_shr (turnF_shr 20)) ((both_ok T (by omega) (turnF_shr 20) (turnF_ok T 20)).mono (by omega)))
def spWhole (C CE : Addr) : Sp := fun vs H Q E => ∃ S L dx ts bh a ws, vs = [.ref S] ∧ RdAt C H S L dx ts bh a ws 0 ∧
  (∀ t, wholeF ws = .ok t → ∀ H' v, Kp [S] H H' → TrAt H' t v → Q v H') ∧
  (∀ l re, wholeF ws = .error (l, re) → ∀ H' d, Kp [S] H H' → H' d = none → E (.ref CE) (some d) (upd H' d (.xd (flText [.int 1, .int (colR ts bh l : Int), .str re]))))
theorem ok_ConditionReader_whole (T : T P K mg) : FnOk P w K mg base (L2.CX P w) 121 T.a_ConditionReader_whole T.fd_ConditionReader_whole ["self"] (spWhole T.C_ConditionReader T.C_TextError) := by
  refine T.F_ConditionReader_whole.okX sc_ConditionReader_whole (fun vs H Q E h => ?_) (fun cdv A outer s H vs Q E hr h => ?_)
  · obtain ⟨S, L, dx, ts, bh, a, ws, rfl, _⟩ := h
    rfl
  · obtain ⟨S, L, dx, ts, bh, a, ws, rfl, hR, q, e⟩ := h
    refine ⟨_, (pss_cons (ps_set (i := 1) sc_ConditionReader_whole.nd rfl (by first | exact Or.inl rfl | exact Or.inr rfl) (pe_meth0 (pv 0) T.cl_ConditionReader T.me_ConditionReader__either (ok_ConditionReader__either T) (hr.mono (by omega)) T.b_ConditionReader__either .nil (passes_call (takes_of rfl rfl rfl rfl) (fun _ _ _ _ h => h))))
      (Z.pss_consJ (ps_if (pt_cmpR op_lt (pe_fld (pv 0) rfl) (pe_callB c_len (by rfl) T.z_len (by decide +kernel) (pa_cons (pe_fld (pv 0) rfl) pa_nil)) (nomark _)) (pss_one (ps_expr (pe_meth (pv 0) T.cl_ConditionReader T.me_ConditionReader__refuse (ok_ConditionReader__refuse T) (hr.mono (by omega)) T.b_ConditionReader__refuse .nil (passes_call (takes_of rfl rfl rfl rfl) (fun _ _ _ _ h => h)) (pa_cons pe_str pa_nil)))) pss_nil)
      (pss_one (ps_ret (pv 1))))), ?_⟩
    walk_at "z0"
    walk_at "z"
    refine ⟨S, dx, _, rfl, hR.at_, rf_either, ?_⟩
    refine ⟨S, L, dx, ts, bh, a, ws, 0, rfl, hR, rfl, fun t r hf1 H1 v a1 k1 hR1 hv => ?_, fun l re hf1 H1 d k1 hd => ?_⟩
    · have hW : wholeF ws = if r = [] then .ok t else .error (r.length, "expected") := by
        unfold wholeF
        simp only [hf1]
      have hlen := hR1.ok.len
      have hl1 := hR1.len
      walk_at "z"
      refine Z.seqJ (fun σ' H' => r = [] ∧ σ' = [some (.ref S), some v] ∧ H' = H1) ?_ ?_
      · rintro σ' H' ⟨hr0, rfl, rfl⟩
        walk_at "z"
        rw [if_pos hr0] at hW
        exact q t hW _ _ k1 hv
      · intro N jn
        walk_at "z"
        refine ⟨S, _, dx, _, _, rfl, hR1.at_, T.cl_ConditionReader, T.na_ConditionReader__at, rf_a, ?_⟩
        walk_at "z"
        refine ⟨S, _, dx, _, _, rfl, hR1.at_, T.cl_ConditionReader, T.na_ConditionReader__tokens, rf_t, ?_⟩
        walk_at "z"
        refine Z.lenL (lstL hR1.l) ?_
        walk_at "z"
        rw [tkrefs_len]
        refine Z.ite (fun h1 => ?_) (fun h1 => ?_)
        · walk_at "z"
          refine ⟨S, dx, _, rfl, hR1.at_, rf_refuse, ?_⟩
          walk_at "z"
          rw [if_neg (fun z => by rw [z] at hl1; simp at hl1; omega)] at hW
          exact ⟨S, L, dx, ts, bh, a1, r, 0, "expected", rfl, hR1, by decide +kernel, fun d hd => e _ _ hW _ d k1 hd⟩
        · walk_at "z"
          exact jn _ _ ⟨List.length_eq_zero_iff.mp (by omega), rfl, rfl⟩
    · exact e l re (by unfold wholeF; simp only [hf1]) H1 d k1 hd
end
theorem toks_ok : ∀ {n : Nat} {s : List Nat} {a : Nat} {l : List (Str × Nat)}, toks n s a = .ok l → l.length ≤ s.length ∧ ∀ x ∈ l, x.2 ≤ a + s.length ∧ x.1.cps.size ≤ s.length
  | 0, s, a, l, h => by
    rw [toks] at h
    cases h
    exact ⟨Nat.zero_le _, fun x hx => by cases hx⟩
  | n + 1, [], a, l, h => by
    rw [toks] at h
    cases h
    exact ⟨Nat.zero_le _, fun x hx => by cases hx⟩
  | n + 1, c :: r, a, l, h => by
    rw [toks] at h
    by_cases h0 : c = 32
    · rw [if_pos h0] at h
      obtain ⟨h1, h2⟩ := toks_ok h
      refine ⟨by rw [List.length_cons]; omega, fun x hx => ?_⟩
      have := h2 x hx
      rw [List.length_cons]
      omega
    · rw [if_neg h0] at h
      cases hw : wordLen (c :: r) with
      | none => rw [hw] at h; cases h
      | some k =>
        rw [hw] at h
        have hk := wordLen_pos hw (by simp)
        dsimp only at h
        cases ht : toks n ((c :: r).drop k) (a + k) with
        | error e => rw [ht] at h; cases h
        | ok m =>
          rw [ht] at h
          cases h
          obtain ⟨h1, h2⟩ := toks_ok ht
          rw [List.length_drop] at h1 h2
          refine ⟨by rw [List.length_cons (as := m)]; omega, fun x hx => ?_⟩
          rcases List.mem_cons.mp hx with rfl | hx
          · refine ⟨?_, ?_⟩
            · show a + 1 ≤ _
              rw [List.length_cons]; omega
            · show (List.take k (c :: r)).toArray.size ≤ _
              rw [List.size_toArray, List.length_take]; omega
          · have := h2 x hx
            omega
def spRInit (C CE : Addr) : Sp := fun vs H Q E => ∃ S dx z, vs = [.ref S, .str z] ∧ H S = some (.ins C dx []) ∧ z.cps.size ≤ 2000 ∧
  (∀ l, toks (z.cps.size + 1) z.cps.toList 0 = .ok l → ∀ H' L ts, Kp [S] H H' → RdAt C H' S L dx ts (z.cps.size + 1) 0 (l.map Prod.fst) 0 → tkw ts = l → Q .non H') ∧
  (∀ c, toks (z.cps.size + 1) z.cps.toList 0 = .error c → ∀ H' d, Kp [] H H' → H' d = none → E (.ref CE) (some d) (upd H' d (.xd (flText [.int 1, .int (c : Int), .str "character"]))))
theorem ok_ConditionReader_init {P : Program} {w : World} {K : PySem.W.Frag} {mg : Str → Option Value} {base : Heap} (T : T P K mg) : FnOk P w K mg base (L2.CX P w) 4 T.a_ConditionReader_init T.fd_ConditionReader_init ["self", "text"] (spRInit T.C_ConditionReader T.C_TextError) := by
  refine T.F_ConditionReader_init.okX sc_ConditionReader_init (fun vs H Q E h => ?_) (fun cdv A outer s H vs Q E hr h => ?_)
  · obtain ⟨S, dx, z, rfl, _⟩ := h
    rfl
  · obtain ⟨S, dx, z, rfl, hS, hz, q, e⟩ := h
    refine ⟨_, (pss_cons (ps_fld (pv 0) (pe_call (ok_tokens_of T) (hr.mono (by decide)) (by rfl) T.g_tokens_of T.F_tokens_of.kp T.b_tokens_of .nil (passes_call (takes_of rfl rfl rfl rfl) (fun _ _ _ _ h => h)) (pa_cons (pv 1) pa_nil)) rfl)
      (pss_cons (ps_fld (pv 0) (pe_op op_add (pe_callB c_lens (by rfl) T.z_len (by decide +kernel) (pa_cons (pv 1) pa_nil)) pe_int) rfl)
      (pss_cons (ps_fld (pv 0) pe_int rfl)
      (pss_one (ps_fld (pv 0) pe_int rfl))))), ?_⟩
    have hzl : z.cps.toList.length = z.cps.size := Array.length_toList
    walk_at "z0"
    walk_at "z"
    refine ⟨z, rfl, by omega, fun l hl H1 d ts nd k1 e1 hT hts => ?_, fun c hc H1 d k1 hd => ?_⟩
    · have hS1 := k1.get nin0 hS
      have nSd : S ≠ d := ne_of_none hS nd
      walk_at "z"
      refine ⟨S, _, dx, [], rfl, hS1, T.cl_ConditionReader, T.na_ConditionReader__tokens, by decide, ?_⟩
      walk_at "z"
      refine Z.lenS (Nat.le_trans hz (by decide)) ?_
      walk_at "z"
      refine ⟨S, _, dx, _, rfl, upd_same, T.cl_ConditionReader, T.na_ConditionReader__behind, by show 1 < 1000; decide, ?_⟩
      walk_at "z"
      refine ⟨S, _, dx, _, rfl, upd_same, T.cl_ConditionReader, T.na_ConditionReader__at, by show 2 < 1000; decide, ?_⟩
      walk_at "z"
      refine ⟨S, _, dx, _, rfl, upd_same, T.cl_ConditionReader, T.na_ConditionReader__depth, by show 3 < 1000; decide, ?_⟩
      walk_at "z"
      rw [upd_upd, upd_upd, upd_upd]
      have hf : ∀ H : Hp, upd H S (.ins T.C_ConditionReader dx (putF "_depth" (.int 0) (putF "_at" (.int 0) (putF "_behind" (.int ((z.cps.size : Int) + 1)) (putF "_tokens" (.ref d) []))))) = upd H S (.ins T.C_ConditionReader dx (rf d ((z.cps.size + 1 : Nat) : Int) ((0 : Nat) : Int) ((0 : Nat) : Int))) := fun H => by rw [rf_mk]; rfl
      obtain ⟨h1, h2⟩ := toks_ok hl
      rw [hzl] at h1 h2
      have hlt : l.length = ts.length := by rw [← hts]; unfold tkw; rw [List.length_map]
      refine q l hl _ d ts (k1.sub (by simp) |>.trans (Kp.put (M := [S]) (by simp))) ?_ hts
      rw [hf]
      refine ⟨by rw [List.length_map]; omega, by rw [List.drop_zero, ← hts]; unfold tkw; rw [List.map_map]; rfl, upd_same, (upd_ne nSd.symm).trans e1, fun t ht => ?_, ⟨by omega, by omega, fun t ht => ?_, fun t ht => ?_⟩⟩
      · have := hT t ht
        unfold TkAt at this ⊢
        exact (upd_ne (ne_of this hS1 (by intro e; cases e))).trans this
      · have := (h2 (t.w, t.c) (by rw [← hts]; exact List.mem_map_of_mem ht)).1
        have e9 : (t.w, t.c).2 = t.c := rfl
        omega
      · have := (h2 (t.w, t.c) (by rw [← hts]; exact List.mem_map_of_mem ht)).2
        exact Nat.le_trans this (by omega)
    · exact e c hc H1 d k1 hd
def colW (l : List (Str × Nat)) (bh k : Nat) : Nat := if k = 0 then bh else ((l[l.length - k]?).map Prod.snd).getD 0
theorem colW_tkw (ts : List Tk) (bh k : Nat) : colR ts bh k = colW (tkw ts) bh k := by
  unfold colR colW tkw
  rw [List.length_map, List.getElem?_map, Option.map_map]; rfl
def spParse (C CE CL : Addr) : Sp := fun vs H Q E => ∃ z, vs = [.str z] ∧ z.cps.size ≤ 10000000 ∧
  (z.cps.size ≤ 2000 → (∀ c, toks (z.cps.size + 1) z.cps.toList 0 = .error c → ∀ H' d, Kp [] H H' → H' d = none → E (.ref CE) (some d) (upd H' d (.xd (flText [.int 1, .int (c : Int), .str "character"])))) ∧
    ∀ l, toks (z.cps.size + 1) z.cps.toList 0 = .ok l → (∀ t, wholeF (l.map Prod.fst) = .ok t → ∀ H' v, Kp [] H H' → TrAt H' t v → Q v H') ∧
      (∀ k re, wholeF (l.map Prod.fst) = .error (k, re) → ∀ H' d, Kp [] H H' → H' d = none → E (.ref CE) (some d) (upd H' d (.xd (flText [.int 1, .int (colW l (z.cps.size + 1) k : Int), .str re]))))) ∧
  (2000 < z.cps.size → ∀ d, H d = none → E (.ref CL) (some d) (upd H d (.xd (flOne "limit" [.str "text"]))))
theorem ok_parse_condition {P : Program} {w : World} {K : PySem.W.Frag} {mg : Str → Option Value} {base : Heap} (T : T P K mg) : FnOk P w K mg base (L2.CX P w) 130 T.a_parse_condition T.fd_parse_condition ["text"] (spParse T.C_ConditionReader T.C_TextError T.C_TooLarge) := by
  refine T.F_parse_condition.okX sc_parse_condition (fun vs H Q E h => ?_) (fun cdv A outer s H vs Q E hr h => ?_)
  · obtain ⟨z, rfl, _⟩ := h
    rfl
  · obtain ⟨z, rfl, hz, q, e⟩ := h
    refine ⟨_, (pss_cons (ps_if (pt_cmpR op_gt (pe_callB c_lens (by rfl) T.z_len (by decide +kernel) (pa_cons (pv 0) pa_nil)) (pe_glob (by rfl) T.g_MOST_CHARACTERS_conditions T.r_MOST_CHARACTERS_conditions) (nomark _)) (pss_one (ps_raise rfl (takes_of rfl rfl rfl rfl) (pmk_oex T.x_TooLarge.S.T T.x_TooLarge.iC T.x_TooLarge.tI (ok_TooLarge_init T) (hr.mono (by decide)) (T.bx_TooLarge) .nil pass0 (by rfl) T.x_TooLarge.g (pa_cons pe_str pa_nil)))) pss_nil)
      (pss_cons (ps_set (i := 1) sc_parse_condition.nd rfl (by first | exact Or.inl rfl | exact Or.inr rfl) (pe_make T.mk_ConditionReader (ok_ConditionReader_init T) (hr.mono (by decide)) (by rfl) T.mg_ConditionReader T.b_ConditionReader_init .nil (passes_call (takes_of rfl rfl rfl rfl) (fun _ _ _ _ h => h)) (pa_cons (pv 0) pa_nil)))
      (pss_one (ps_ret (pe_meth0 (pv 1) T.cl_ConditionReader T.me_ConditionReader_whole (ok_ConditionReader_whole T) (hr.mono (by decide)) T.b_ConditionReader_whole .nil (passes_call (takes_of rfl rfl rfl rfl) (fun _ _ _ _ h => h))))))), ?_⟩
    walk_at "z0"
    walk_at "z"
    refine Z.lenS hz ?_
    walk_at "z"
    refine Z.ite (fun h1 => ?_) (fun h1 => ?_)
    · walk_at "z"
      refine mkErr ?_ (fun hRS h => ?_)
      · refine ⟨by simp, ⟨"text", rfl, by decide +kernel⟩, fun d hd => ?_⟩
        exact e (by omega) d hd
      · exact hRS _ _ h
    · obtain ⟨q1, q2⟩ := q (by omega)
      walk_at "z"
      intro x dx nx ndx hne
      have k0 : Kp [] H (upd (upd H dx (.own x)) x (.ins T.C_ConditionReader dx [])) := Kp.made nx ndx
      refine ⟨x, dx, z, rfl, upd_same, by omega, fun l hl H1 L ts k1 hR hts => ⟨rfl, ?_⟩, fun c hc H1 d k1 hd => q1 c hc H1 d (k0.trans k1) hd⟩
      obtain ⟨qa, qb⟩ := q2 l hl
      walk_at "z"
      refine ⟨x, dx, _, rfl, hR.at_, rf_whole, ?_⟩
      refine ⟨x, L, dx, ts, z.cps.size + 1, 0, l.map Prod.fst, rfl, hR, fun t ht H2 v k2 hv => ?_, fun k re hf H2 d k2 hd => ?_⟩
      · walk_at "z"
        exact qa t ht H2 v ((k0.then1 k1 nx).then1 k2 nx) hv
      · have := qb k re hf H2 d ((k0.then1 k1 nx).then1 k2 nx) hd
        rw [colW_tkw, hts]
        exact this

/-! ### the text of a condition -/
def Atom.word : Atom → Str
  | .cmp a _ _ => cmpW a
  | .grp _ => "group"
  | .key _ => "key"
  | .all => "all"
def PT.word : PT → Str
  | .leaf a => a.word
  | .neg _ => "not"
  | .two o _ _ => twoW o
def parS (ws : List Str) (w x : Str) : Str := if w ∈ ws then ("(" : Str) ++ x ++ (")" : Str) else x
def nS (n : Int) : Str := Str.ofString (toString n)
def Atom.text : Atom → Str
  | .cmp a s n => cmpW a ++ (" " : Str) ++ s ++ (" " : Str) ++ nS n
  | .grp s => ("group" : Str) ++ (" " : Str) ++ s
  | .key s => ("key" : Str) ++ (" " : Str) ++ s
  | .all => "all"
def wr : PT → Str
  | .leaf a => a.text
  | .neg c => ("not " : Str) ++ parS ["and", "or"] c.word (wr c)
  | .two false c d => parS ["or"] c.word (wr c) ++ (" and " : Str) ++ parS ["and", "or"] d.word (wr d)
  | .two true c d => wr c ++ (" or " : Str) ++ parS ["or"] d.word (wr d)
inductive Pc where
  | s (w : Str)
  | t (c : PT)
def Pc.text : Pc → Str
  | .s w => w
  | .t c => wr c
def PcAt (H : Hp) : Pc → V → Prop
  | .s w, v => v = .str w
  | .t c, v => TrAt H c v
def PcsAt (H : Hp) : List Pc → List V → Prop
  | [], vs => vs = []
  | p :: ps, vs => ∃ v us, vs = v :: us ∧ PcAt H p v ∧ PcsAt H ps us
def win (ws : List Str) (c : PT) : List Pc := if c.word ∈ ws then [.s "(", .t c, .s ")"] else [.t c]
def pieces : PT → List Pc
  | .leaf a => [.s a.text]
  | .neg c => .s "not " :: win ["and", "or"] c
  | .two false c d => win ["or"] c ++ (.s " and " :: win ["and", "or"] d)
  | .two true c d => .t c :: .s " or " :: win ["or"] d
theorem TrAt.tup {H : Hp} : ∀ {t : PT} {v : V}, TrAt H t v → ∃ p r, v = .ref p ∧ H p = some (.tup (.str t.word :: r))
  | .leaf (.cmp a s n), v, ⟨p, e, h⟩ => ⟨p, _, e, h⟩
  | .leaf (.grp s), v, ⟨p, e, h⟩ => ⟨p, _, e, h⟩
  | .leaf (.key s), v, ⟨p, e, h⟩ => ⟨p, _, e, h⟩
  | .leaf .all, v, ⟨p, e, h⟩ => ⟨p, _, e, h⟩
  | .neg c, v, ⟨p, u, e, h, _⟩ => ⟨p, _, e, h⟩
  | .two o c d, v, ⟨p, u, x, e, h, _⟩ => ⟨p, _, e, h⟩
theorem PcAt.kp0 {H H' : Hp} {p : Pc} {v : V} (h : PcAt H p v) (k : Kp [] H H') : PcAt H' p v := by
  cases p with
  | s w => exact h
  | t c => exact TrAt.kp0 h k
theorem PcsAt.kp0 {H H' : Hp} (k : Kp [] H H') : ∀ {ps : List Pc} {vs : List V}, PcsAt H ps vs → PcsAt H' ps vs
  | [], vs, h => h
  | p :: ps, vs, ⟨v, us, e, h1, h2⟩ => ⟨v, us, e, h1.kp0 k, PcsAt.kp0 k h2⟩
theorem PcsAt.app {H : Hp} : ∀ {ps qs : List Pc} {vs us : List V}, PcsAt H ps vs → PcsAt H qs us → PcsAt H (ps ++ qs) (vs ++ us)
  | [], qs, vs, us, h1, h2 => by cases h1; exact h2
  | p :: ps, qs, vs, us, ⟨v, vs', e, h1, h3⟩, h2 => ⟨v, vs' ++ us, by rw [e]; rfl, h1, h3.app h2⟩
theorem PcsAt.one {H : Hp} {p : Pc} {v : V} (h : PcAt H p v) : PcsAt H [p] [v] := ⟨v, [], rfl, h, rfl⟩
theorem at0 {v : V} {r : List V} : atI (v :: r) 0 = some v := atI_nat (xs := v :: r) (j := 0) rfl
def spWin (K : PySem.W.Frag) : Sp := fun vs H Q _ => ∃ (t : PT) (v : V) (a : Addr) (ws : List Str), vs = [v, .ref a] ∧ TrAt H t v ∧ SqT K H a (ws.map V.str) ∧ ∀ H' d us, H d = none → Kp [] H H' → H' d = some (.lst us) → PcsAt H' (win ws t) us → us.length ≤ 3 → Q (.ref d) H'
theorem ok_within {P : Program} {w : World} {K : PySem.W.Frag} {mg : Str → Option Value} {base : Heap} (T : T P K mg) : FnOk P w K mg base CX0 1 T.a_within T.fd_within ["condition", "words"] (spWin K) := by
  refine T.F_within.ok sc_within (fun vs H Q E h => ?_) (fun cdv A outer s H vs Q E hr h => ?_)
  · obtain ⟨t, v, a, ws, rfl, _⟩ := h
    rfl
  · obtain ⟨t, v, a, ws, rfl, hv, hS, q⟩ := h
    refine ⟨_, (pss_cons (ps_if (pt_cmpR op_in_seq (pe_ix ix_tup (pv 0) pe_int (fun _ _ => rfl)) (pv 1) rfl) (pss_one (ps_ret (pe_lst (pa_cons pe_str (pa_cons (pv 0) (pa_cons pe_str pa_nil)))))) pss_nil)
      (pss_one (ps_ret (pe_lst (pa_cons (pv 0) pa_nil))))), ?_⟩
    obtain ⟨p, r, rfl, hp⟩ := hv.tup
    walk_at "z0"
    walk_at "z"
    refine Z.ixT (tupT hp) at0 ?_
    walk_at "z"
    refine Z.inq (xs := ws.map V.str) (.inr hS) rfl Z.strs_flat ?_
    rw [if_neg Bool.false_ne_true, Z.inV_strs]
    walk_at "z"
    refine Z.ite (fun h1 => ?_) (fun h1 => ?_)
    · walk_at "z"
      refine Z.lstK (fun d H1 nd k1 e1 => ?_)
      walk_at "z"
      refine q H1 d _ nd k1 e1 ?_ (by simp)
      unfold win
      rw [if_pos h1]
      exact ⟨_, _, rfl, rfl, _, _, rfl, hv.kp0 k1, _, _, rfl, rfl, rfl⟩
    · walk_at "z"
      refine Z.lstK (fun d H1 nd k1 e1 => ?_)
      walk_at "z"
      refine q H1 d _ nd k1 e1 ?_ (by simp)
      unfold win
      rw [if_neg h1]
      exact ⟨_, _, rfl, hv.kp0 k1, rfl⟩
def nums : List Int := (List.range 41).map (fun k : Nat => (k : Int) - 20) ++ [1000000, -1000000]
def PT.Sz : PT → Prop
  | .leaf (.cmp _ s n) => s ∈ signs5 ∧ n.natAbs ≤ 1000000
  | .leaf (.grp s) => s.length ≤ 12
  | .leaf (.key s) => s.length ≤ 12
  | .leaf .all => True
  | .neg c => c.Sz
  | .two _ c d => c.Sz ∧ d.Sz
theorem empty_app (x : Str) : Str.empty ++ x = x := by
  obtain ⟨⟨l⟩⟩ := x
  show (⟨_⟩ : Str) = _
  simp [Str.empty]
/-! ### integers as they are written -/
theorem nS_nat (n : Nat) : (nS (n : Int)).cps.toList = TL.numL n := TL.tl_num n
theorem nS_neg (n : Nat) : (nS (Int.negSucc n)).cps.toList = 45 :: TL.numL (n + 1) := by
  unfold nS
  rw [PyProof.Rows.signs_ofString]
  show (("-" : String) ++ Nat.repr (n + 1)).toList.map Char.toNat = _
  rw [String.toList_append, List.map_append, Nat.toList_repr]
  rfl
theorem sz_list (s : Str) : s.cps.toList.length = s.length := Array.length_toList
theorem nS_len {n : Int} {k : Nat} (hk : 0 < k) (h : n.natAbs < 10 ^ k) : (nS n).length ≤ k + 1 := by
  rw [← sz_list]
  cases n with
  | ofNat m =>
    have e := nS_nat m
    rw [show Int.ofNat m = (m : Int) from rfl, e]
    have := TL.numL_len hk (show m < 10 ^ k from h)
    omega
  | negSucc m =>
    rw [nS_neg]
    have := TL.numL_len hk (show m + 1 < 10 ^ k from h)
    rw [List.length_cons]
    omega
theorem nS_all (n : Int) (h : n.natAbs ≤ 1000000) : (nS n).length ≤ 10 ∧ n.natAbs ≤ 1000000 :=
  ⟨Nat.le_trans (nS_len (k := 7) (by decide) (Nat.lt_of_le_of_lt h (by decide))) (by decide), h⟩

theorem signs_len {s : Str} (h : s ∈ signs5) : s.length ≤ 2 := by
  unfold signs5 at h
  simp only [List.mem_cons, List.not_mem_nil, or_false] at h
  rcases h with rfl | rfl | rfl | rfl | rfl <;> decide +kernel
section
variable {K : PySem.W.Frag} {σ : L2.St} {H : Hp} {Q : Str → Hp → Prop}
theorem jF {i : Nat} {y acc : Str} {ts : List TE} (h1 : (acc ++ y).length ≤ 300) (h2 : y.length ≤ 300) (q : tJs ts (acc ++ y) σ H Q) (hσ : σ[i]? = some (some (.str y)) := by rfl) : tJs (tFmt (tVar i) :: ts) acc σ H Q :=
  ⟨_, hσ, .inl ⟨y, rfl, Nat.le_trans h2 (by decide), y, rfl, Nat.le_trans h1 (by decide), q⟩⟩
theorem jC {y acc : Str} {ts : List TE} (h1 : (acc ++ y).length ≤ 300) (q : tJs ts (acc ++ y) σ H Q) : tJs (tC (.str y) :: ts) acc σ H Q :=
  ⟨y, rfl, Nat.le_trans h1 (by decide), q⟩
theorem jX {p : Addr} {xs : List V} {i : Int} {s acc : Str} {ts : List TE} (hS : SqT K H p xs) (hi : atI xs i = some (.str s)) (h2 : s.length ≤ 300) (h1 : (acc ++ s).length ≤ 300) (q : tJs ts (acc ++ s) σ H Q) (hσ : σ[0]? = some (some (.ref p)) := by rfl) : tJs (tFmt (tOp (rIxT K) (tVar 0) (tC (.int i))) :: ts) acc σ H Q :=
by
  refine ⟨_, hσ, ?_⟩
  walk_at "z"
  exact Z.ixT hS hi (.inl ⟨s, rfl, Nat.le_trans h2 (by decide), s, rfl, Nat.le_trans h1 (by decide), q⟩)
theorem jN {p : Addr} {xs : List V} {i n : Int} {acc : Str} {ts : List TE} (hS : SqT K H p xs) (hi : atI xs i = some (.int n)) (h2 : n.natAbs ≤ 1000000) (h1 : (acc ++ nS n).length ≤ 300) (q : tJs ts (acc ++ nS n) σ H Q) (hσ : σ[0]? = some (some (.ref p)) := by rfl) : tJs (tFmt (tOp (rIxT K) (tVar 0) (tC (.int i))) :: ts) acc σ H Q :=
by
  refine ⟨_, hσ, ?_⟩
  walk_at "z"
  exact Z.ixT hS hi (.inr ⟨n, rfl, Nat.lt_of_lt_of_le (PySem.Flt.log2_lt_of (k := 30) (by decide) (Nat.lt_of_le_of_lt h2 (by decide))) (by decide), _, rfl, Nat.le_trans h1 (by decide), q⟩)
end
def spPieces (K : PySem.W.Frag) : Sp := fun vs H Q _ => ∃ (t : PT) (v : V), vs = [v] ∧ TrAt H t v ∧ t.Sz ∧ ∀ H' d us, H d = none → Kp [] H H' → H' d = some (.lst us) → PcsAt H' (pieces t) us → us.length ≤ 7 → Q (.ref d) H'
theorem ok_pieces_of {P : Program} {w : World} {K : PySem.W.Frag} {mg : Str → Option Value} {base : Heap} (T : T P K mg) : FnOk P w K mg base CX0 2 T.a_pieces_of T.fd_pieces_of ["condition"] (spPieces K) := by
  refine T.F_pieces_of.ok sc_pieces_of (fun vs H Q E h => ?_) (fun cdv A outer s H vs Q E hr h => ?_)
  · obtain ⟨t, v, rfl, _⟩ := h
    rfl
  · obtain ⟨t, v, rfl, hv, hz, q⟩ := h
    refine ⟨_, (pss_cons (ps_set (i := 1) sc_pieces_of.nd rfl (by first | exact Or.inl rfl | exact Or.inr rfl) (pe_ix ix_tup (pv 0) pe_int (fun _ _ => rfl)))
      (pss_cons (ps_if (pt_cmpR op_eq (pv 1) pe_str (nomark _)) (pss_one (ps_ret (pe_lst (pa_cons pe_str pa_nil)))) pss_nil)
      (pss_cons (ps_if (pt_cmpR op_in_seq (pv 1) (pe_tup (pa_cons pe_str (pa_cons pe_str pa_nil))) rfl) (pss_one (ps_ret (pe_lst (pa_cons (Z.pe_joinedN (.cons (pe_fmt (pv 1)) (.cons pe_str (.cons (pe_fmt (pe_ix ix_tup (pv 0) pe_int (fun _ _ => rfl))) .nil)))) pa_nil)))) pss_nil)
      (pss_cons (ps_if (pt_cmpR op_in_seq (pv 1) (pe_tup (pa_cons pe_str (pa_cons pe_str pa_nil))) rfl) (pss_one (ps_ret (pe_lst (pa_cons (Z.pe_joinedN (.cons (pe_fmt (pv 1)) (.cons pe_str (.cons (pe_fmt (pe_ix ix_tup (pv 0) pe_int (fun _ _ => rfl))) (.cons pe_str (.cons (pe_fmt (pe_ix ix_tup (pv 0) pe_int (fun _ _ => rfl))) .nil)))))) pa_nil)))) pss_nil)
      (pss_cons (ps_if (pt_cmpR op_eq (pv 1) pe_str (nomark _)) (pss_one (ps_ret (pe_op op_cat (pe_lst (pa_cons pe_str pa_nil)) (pe_call (ok_within T) (hr.mono (by decide)) (by rfl) T.g_within T.F_within.kp T.b_within .nil pass0 (pa_cons (pe_ix ix_tup (pv 0) pe_int (fun _ _ => rfl)) (pa_cons (pe_tup (pa_cons pe_str (pa_cons pe_str pa_nil))) pa_nil)))))) pss_nil)
      (pss_cons (ps_if (pt_cmpR op_eq (pv 1) pe_str (nomark _)) (pss_one (ps_ret (pe_op op_cat (pe_op op_cat (pe_call (ok_within T) (hr.mono (by decide)) (by rfl) T.g_within T.F_within.kp T.b_within .nil pass0 (pa_cons (pe_ix ix_tup (pv 0) pe_int (fun _ _ => rfl)) (pa_cons (pe_tup (pa_cons pe_str pa_nil)) pa_nil))) (pe_lst (pa_cons pe_str pa_nil))) (pe_call (ok_within T) (hr.mono (by decide)) (by rfl) T.g_within T.F_within.kp T.b_within .nil pass0 (pa_cons (pe_ix ix_tup (pv 0) pe_int (fun _ _ => rfl)) (pa_cons (pe_tup (pa_cons pe_str (pa_cons pe_str pa_nil))) pa_nil)))))) pss_nil)
      (pss_one (ps_ret (pe_op op_cat (pe_lst (pa_cons (pe_ix ix_tup (pv 0) pe_int (fun _ _ => rfl)) (pa_cons pe_str pa_nil))) (pe_call (ok_within T) (hr.mono (by decide)) (by rfl) T.g_within T.F_within.kp T.b_within .nil pass0 (pa_cons (pe_ix ix_tup (pv 0) pe_int (fun _ _ => rfl)) (pa_cons (pe_tup (pa_cons pe_str pa_nil)) pa_nil)))))))))))), ?_⟩
    obtain ⟨p, r, rfl, hp⟩ := hv.tup
    walk_at "z0"
    walk_at "z"
    refine Z.ixT (tupT hp) at0 ?_
    walk_at "z"
    cases t with
    | leaf a =>
      cases a with
      | all =>
        refine Z.yes rfl ?_
        walk_at "z"
        refine Z.lstK (fun d H1 nd k1 e1 => ?_)
        walk_at "z"
        exact q H1 d _ nd k1 e1 ⟨_, _, rfl, rfl, rfl⟩ (by decide)
      | grp s =>
        obtain ⟨p', e0, hp'⟩ := hv
        cases e0
        refine Z.no (by show ¬ (("group" : Str) = "all"); decide +kernel) ?_
        walk_at "z"
        refine Z.tupK (fun p1 H1 np1 k1 e1 => ?_)
        refine Z.inq (xs := ([("group" : Str), "key"] : List Str).map V.str) (.inr (tupT e1)) rfl Z.strs_flat ?_
        rw [if_neg Bool.false_ne_true, Z.inV_strs]
        walk_at "z"
        refine Z.yes (by show ("group" : Str) ∈ ([("group" : Str), "key"] : List Str); decide +kernel) ?_
        walk_at "z"
        refine jF (by show (Str.empty ++ ("group" : Str)).length ≤ 300; decide +kernel) (by show ("group" : Str).length ≤ 300; decide +kernel) (jC (by show _ ≤ 300; decide +kernel) ?_)
        refine jX (s := s) (tupT (k1.get nin0 hp')) rfl (by have := hz; show s.length ≤ 300; unfold PT.Sz at this; omega) ?_ ?_
        · rw [app_len]
          have := hz
          unfold PT.Sz at this
          refine Nat.le_trans (Nat.add_le_add (Nat.le_refl _) this) ?_
          decide +kernel
        walk_at "z"
        refine Z.lstK (fun d H3 nd k3 e3 => ?_)
        walk_at "z"
        refine q H3 d _ (k1.none nin0 nd) (k1.trans k3) e3 ⟨_, _, rfl, ?_, rfl⟩ (by simp)
        show V.str _ = V.str _
        rw [empty_app]; rfl
      | key s =>
        obtain ⟨p', e0, hp'⟩ := hv
        cases e0
        refine Z.no (by show ¬ (("key" : Str) = "all"); decide +kernel) ?_
        walk_at "z"
        refine Z.tupK (fun p1 H1 np1 k1 e1 => ?_)
        refine Z.inq (xs := ([("group" : Str), "key"] : List Str).map V.str) (.inr (tupT e1)) rfl Z.strs_flat ?_
        rw [if_neg Bool.false_ne_true, Z.inV_strs]
        walk_at "z"
        refine Z.yes (by show ("key" : Str) ∈ ([("group" : Str), "key"] : List Str); decide +kernel) ?_
        walk_at "z"
        refine jF (by show (Str.empty ++ ("key" : Str)).length ≤ 300; decide +kernel) (by show ("key" : Str).length ≤ 300; decide +kernel) (jC (by show _ ≤ 300; decide +kernel) ?_)
        refine jX (s := s) (tupT (k1.get nin0 hp')) rfl (by have := hz; show s.length ≤ 300; unfold PT.Sz at this; omega) ?_ ?_
        · rw [app_len]
          have := hz
          unfold PT.Sz at this
          refine Nat.le_trans (Nat.add_le_add (Nat.le_refl _) this) ?_
          decide +kernel
        walk_at "z"
        refine Z.lstK (fun d H3 nd k3 e3 => ?_)
        walk_at "z"
        refine q H3 d _ (k1.none nin0 nd) (k1.trans k3) e3 ⟨_, _, rfl, ?_, rfl⟩ (by simp)
        show V.str _ = V.str _
        rw [empty_app]; rfl
      | cmp a s n =>
        obtain ⟨p', e0, hp'⟩ := hv
        cases e0
        obtain ⟨hs, hn⟩ := hz
        have hsl : s.length ≤ 2 := signs_len hs
        obtain ⟨hnl, hna⟩ := nS_all n hn
        have ha : cmpW a = "weight" ∨ cmpW a = "amount" := by cases a <;> simp [cmpW]
        have hal : (cmpW a).length = 6 := by cases a <;> decide +kernel
        have n1 : ¬ cmpW a = "all" := by cases a <;> decide +kernel
        have n2 : ¬ cmpW a ∈ ([("group" : Str), "key"] : List Str) := by cases a <;> decide +kernel
        have n3 : cmpW a ∈ ([("weight" : Str), "amount"] : List Str) := by cases a <;> decide +kernel
        refine Z.no n1 ?_
        walk_at "z"
        refine Z.tupK (fun p1 H1 np1 k1 e1 => ?_)
        refine Z.inq (xs := ([("group" : Str), "key"] : List Str).map V.str) (.inr (tupT e1)) rfl Z.strs_flat ?_
        rw [if_neg Bool.false_ne_true, Z.inV_strs]
        walk_at "z"
        refine Z.no n2 ?_
        walk_at "z"
        refine Z.tupK (fun p2 H2 np2 k2 e2 => ?_)
        refine Z.inq (xs := ([("weight" : Str), "amount"] : List Str).map V.str) (.inr (tupT e2)) rfl Z.strs_flat ?_
        rw [if_neg Bool.false_ne_true, Z.inV_strs]
        walk_at "z"
        refine Z.yes n3 ?_
        walk_at "z"
        have z1 : (" " : Str).length = 1 := by decide +kernel
        have z0 : Str.empty.length = 0 := rfl
        have hp2 := (k1.trans k2).get nin0 hp'
        refine jF (y := cmpW a) (by rw [app_len]; omega) (by omega) (jC (by rw [app_len, app_len]; omega) ?_)
        refine jX (s := s) (tupT hp2) rfl (by omega) (by rw [app_len, app_len, app_len]; omega) (jC (by rw [app_len, app_len, app_len, app_len]; omega) ?_)
        refine jN (n := n) (tupT hp2) rfl hna (by rw [app_len, app_len, app_len, app_len, app_len]; omega) ?_
        walk_at "z"
        refine Z.lstK (fun d H3 nd k3 e3 => ?_)
        walk_at "z"
        refine q H3 d _ ((k1.trans k2).none nin0 nd) ((k1.trans k2).trans k3) e3 ⟨_, _, rfl, ?_, rfl⟩ (by simp)
        show V.str _ = V.str _
        rw [empty_app]; rfl
    | neg c =>
      obtain ⟨p', u, e0, hp', hc⟩ := hv
      cases e0
      refine Z.no (by show ¬ (("not" : Str) = "all"); decide +kernel) ?_
      walk_at "z"
      refine Z.tupK (fun p1 H1 np1 k1 e1 => ?_)
      refine Z.inq (xs := ([("group" : Str), "key"] : List Str).map V.str) (.inr (tupT e1)) rfl Z.strs_flat ?_
      rw [if_neg Bool.false_ne_true, Z.inV_strs]
      walk_at "z"
      refine Z.no (by show ¬ (("not" : Str) ∈ ([("group" : Str), "key"] : List Str)); decide +kernel) ?_
      walk_at "z"
      refine Z.tupK (fun p2 H2 np2 k2 e2 => ?_)
      refine Z.inq (xs := ([("weight" : Str), "amount"] : List Str).map V.str) (.inr (tupT e2)) rfl Z.strs_flat ?_
      rw [if_neg Bool.false_ne_true, Z.inV_strs]
      walk_at "z"
      refine Z.no (by show ¬ (("not" : Str) ∈ ([("weight" : Str), "amount"] : List Str)); decide +kernel) ?_
      walk_at "z"
      refine Z.yes rfl ?_
      walk_at "z"
      refine Z.lstK (fun d H3 nd k3 e3 => ?_)
      have hp3 := (k1.trans (k2.trans k3)).get nin0 hp'
      walk_at "z"
      refine Z.ixT (j := 1) (v := u) (tupT hp3) rfl ?_
      walk_at "z"
      refine Z.tupK (fun p4 H4 np4 k4 e4 => ?_)
      walk_at "z"
      refine ⟨c, u, p4, ["and", "or"], rfl, (hc.kp0 (k1.trans (k2.trans (k3.trans k4)))), tupT e4, fun H5 f us nf k5 e5 hus hl => ?_⟩
      walk_at "z"
      refine Z.cat ((k4.trans k5).get nin0 e3) e5 (by show 1 + us.length ≤ _; omega) (fun g H6 ng k6 e6 => ?_)
      walk_at "z"
      refine q H6 g _ (((k1.trans (k2.trans (k3.trans (k4.trans k5)))).none nin0 ng)) (k1.trans (k2.trans (k3.trans (k4.trans (k5.trans k6))))) e6 ⟨_, _, rfl, rfl, hus.kp0 k6⟩ (by rw [List.length_append]; show 1 + us.length ≤ _; omega)
    | two o c d =>
      obtain ⟨p', u, x, e0, hp', hc, hd⟩ := hv
      cases e0
      cases o with
      | false =>
        refine Z.no (by show ¬ (("and" : Str) = "all"); decide +kernel) ?_
        walk_at "z"
        refine Z.tupK (fun p1 H1 np1 k1 e1 => ?_)
        refine Z.inq (xs := ([("group" : Str), "key"] : List Str).map V.str) (.inr (tupT e1)) rfl Z.strs_flat ?_
        rw [if_neg Bool.false_ne_true, Z.inV_strs]
        walk_at "z"
        refine Z.no (by show ¬ (("and" : Str) ∈ ([("group" : Str), "key"] : List Str)); decide +kernel) ?_
        walk_at "z"
        refine Z.tupK (fun p2 H2 np2 k2 e2 => ?_)
        refine Z.inq (xs := ([("weight" : Str), "amount"] : List Str).map V.str) (.inr (tupT e2)) rfl Z.strs_flat ?_
        rw [if_neg Bool.false_ne_true, Z.inV_strs]
        walk_at "z"
        refine Z.no (by show ¬ (("and" : Str) ∈ ([("weight" : Str), "amount"] : List Str)); decide +kernel) ?_
        walk_at "z"
        refine Z.no (by show ¬ (("and" : Str) = "not"); decide +kernel) ?_
        walk_at "z"
        refine Z.yes rfl ?_
        walk_at "z"
        have hp3 := (k1.trans k2).get nin0 hp'
        refine Z.ixT (j := 1) (v := u) (tupT hp3) rfl ?_
        walk_at "z"
        refine Z.tupK (fun p4 H4 np4 k4 e4 => ?_)
        walk_at "z"
        refine ⟨c, u, p4, ["or"], rfl, (hc.kp0 (k1.trans (k2.trans k4))), tupT e4, fun H5 f us nf k5 e5 hus hl => ?_⟩
        walk_at "z"
        refine Z.lstK (fun f2 H6 nf2 k6 e6 => ?_)
        walk_at "z"
        refine Z.cat (k6.get nin0 e5) e6 (by show us.length + 1 ≤ _; omega) (fun g H7 ng k7 e7 => ?_)
        walk_at "z"
        have hp7 := (k4.trans (k5.trans (k6.trans k7))).get nin0 hp3
        refine Z.ixT (j := 2) (v := x) (tupT hp7) rfl ?_
        walk_at "z"
        refine Z.tupK (fun p8 H8 np8 k8 e8 => ?_)
        walk_at "z"
        have kk8 : Kp [] H H8 := k1.trans (k2.trans (k4.trans (k5.trans (k6.trans (k7.trans k8)))))
        refine ⟨d, x, p8, ["and", "or"], rfl, hd.kp0 kk8, tupT e8, fun H9 f9 us9 nf9 k9 e9 hus9 hl9 => ?_⟩
        walk_at "z"
        refine Z.cat ((k8.trans k9).get nin0 e7) e9 (by rw [List.length_append]; show us.length + 1 + us9.length ≤ _; omega) (fun g H10 ng k10 e10 => ?_)
        walk_at "z"
        refine q H10 g _ ((kk8.trans k9).none nin0 ng) ((kk8.trans k9).trans k10) e10 ?_ (by rw [List.length_append, List.length_append]; show us.length + 1 + us9.length ≤ _; omega)
        show PcsAt _ (win ["or"] c ++ (.s " and " :: win ["and", "or"] d)) _
        rw [List.append_assoc]
        exact (hus.kp0 (k6.trans (k7.trans (k8.trans (k9.trans k10))))).app ⟨_, _, rfl, rfl, hus9.kp0 k10⟩
      | true =>
        refine Z.no (by show ¬ (("or" : Str) = "all"); decide +kernel) ?_
        walk_at "z"
        refine Z.tupK (fun p1 H1 np1 k1 e1 => ?_)
        refine Z.inq (xs := ([("group" : Str), "key"] : List Str).map V.str) (.inr (tupT e1)) rfl Z.strs_flat ?_
        rw [if_neg Bool.false_ne_true, Z.inV_strs]
        walk_at "z"
        refine Z.no (by show ¬ (("or" : Str) ∈ ([("group" : Str), "key"] : List Str)); decide +kernel) ?_
        walk_at "z"
        refine Z.tupK (fun p2 H2 np2 k2 e2 => ?_)
        refine Z.inq (xs := ([("weight" : Str), "amount"] : List Str).map V.str) (.inr (tupT e2)) rfl Z.strs_flat ?_
        rw [if_neg Bool.false_ne_true, Z.inV_strs]
        walk_at "z"
        refine Z.no (by show ¬ (("or" : Str) ∈ ([("weight" : Str), "amount"] : List Str)); decide +kernel) ?_
        walk_at "z"
        refine Z.no (by show ¬ (("or" : Str) = "not"); decide +kernel) ?_
        walk_at "z"
        refine Z.no (by show ¬ (("or" : Str) = "and"); decide +kernel) ?_
        walk_at "z"
        have hp3 := (k1.trans k2).get nin0 hp'
        refine Z.ixT (j := 1) (v := u) (tupT hp3) rfl ?_
        walk_at "z"
        refine Z.lstK (fun f2 H6 nf2 k6 e6 => ?_)
        walk_at "z"
        have hp7 := k6.get nin0 hp3
        refine Z.ixT (j := 2) (v := x) (tupT hp7) rfl ?_
        walk_at "z"
        refine Z.tupK (fun p8 H8 np8 k8 e8 => ?_)
        walk_at "z"
        have kk8 : Kp [] H H8 := k1.trans (k2.trans (k6.trans k8))
        refine ⟨d, x, p8, ["or"], rfl, hd.kp0 kk8, tupT e8, fun H9 f9 us9 nf9 k9 e9 hus9 hl9 => ?_⟩
        walk_at "z"
        refine Z.cat ((k8.trans k9).get nin0 e6) e9 (by show 2 + us9.length ≤ _; omega) (fun g H10 ng k10 e10 => ?_)
        walk_at "z"
        refine q H10 g _ ((kk8.trans k9).none nin0 ng) ((kk8.trans k9).trans k10) e10 ⟨_, _, rfl, hc.kp0 ((kk8.trans k9).trans k10), _, _, rfl, rfl, hus9.kp0 k10⟩ (by rw [List.length_append]; show 2 + us9.length ≤ _; omega)

/-! ### write_condition -/
def psz : PT → Nat
  | .leaf _ => 2
  | .neg c => 5 + psz c
  | .two _ c d => 8 + psz c + psz d
def Pc.sz : Pc → Nat
  | .s _ => 1
  | .t c => psz c
def szP (ps : List Pc) : Nat := (ps.map Pc.sz).sum
def txP (ps : List Pc) : List Nat := (ps.map fun p => TL.tl p.text).flatten
theorem szP_app (a b : List Pc) : szP (a ++ b) = szP a + szP b := by unfold szP; rw [List.map_append, List.sum_append]
theorem txP_app (a b : List Pc) : txP (a ++ b) = txP a ++ txP b := by unfold txP; rw [List.map_append, List.flatten_append]
theorem szP_cons (p : Pc) (a : List Pc) : szP (p :: a) = p.sz + szP a := by unfold szP; rw [List.map_cons, List.sum_cons]
theorem txP_cons (p : Pc) (a : List Pc) : txP (p :: a) = TL.tl p.text ++ txP a := by unfold txP; rw [List.map_cons, List.flatten_cons]
theorem psz_pos (t : PT) : 2 ≤ psz t := by cases t <;> simp only [psz] <;> omega
theorem win_sz (ws : List Str) (c : PT) : szP (win ws c) ≤ psz c + 2 := by
  unfold win
  split
  · rw [szP_cons, szP_cons, szP_cons]; show 1 + (psz c + (1 + 0)) ≤ _; omega
  · rw [szP_cons]; show psz c + 0 ≤ _; omega
theorem pieces_sz (t : PT) : szP (pieces t) + 1 ≤ psz t := by
  cases t with
  | leaf a => exact Nat.le_refl _
  | neg c =>
    have := win_sz ["and", "or"] c
    show szP (.s "not " :: win ["and", "or"] c) + 1 ≤ 5 + psz c
    rw [szP_cons]; show 1 + _ + 1 ≤ _; omega
  | two o c d =>
    cases o with
    | false =>
      have h1 := win_sz ["or"] c
      have h2 := win_sz ["and", "or"] d
      show szP (win ["or"] c ++ (.s " and " :: win ["and", "or"] d)) + 1 ≤ 8 + psz c + psz d
      rw [szP_app, szP_cons]; show _ + (1 + _) + 1 ≤ _; omega
    | true =>
      have h2 := win_sz ["or"] d
      show szP (.t c :: .s " or " :: win ["or"] d) + 1 ≤ 8 + psz c + psz d
      rw [szP_cons, szP_cons]; show psz c + (1 + _) + 1 ≤ _; omega
theorem win_tx (ws : List Str) (c : PT) : txP (win ws c) = TL.tl (parS ws c.word (wr c)) := by
  unfold win parS
  split
  · rw [TL.tl_append, TL.tl_append]; simp [txP, Pc.text]
  · simp [txP, Pc.text]
theorem pieces_tx (t : PT) : txP (pieces t) = TL.tl (wr t) := by
  cases t with
  | leaf a => simp [txP, pieces, Pc.text, wr]
  | neg c =>
    show txP (.s "not " :: win ["and", "or"] c) = TL.tl (("not " : Str) ++ parS ["and", "or"] c.word (wr c))
    rw [txP_cons, win_tx, TL.tl_append]; rfl
  | two o c d =>
    cases o with
    | false =>
      show txP (win ["or"] c ++ (.s " and " :: win ["and", "or"] d)) = TL.tl (parS ["or"] c.word (wr c) ++ (" and " : Str) ++ parS ["and", "or"] d.word (wr d))
      rw [txP_app, txP_cons, win_tx, win_tx, TL.tl_append, TL.tl_append, List.append_assoc]; rfl
    | true =>
      show txP (.t c :: .s " or " :: win ["or"] d) = TL.tl (wr c ++ (" or " : Str) ++ parS ["or"] d.word (wr d))
      rw [txP_cons, txP_cons, win_tx, TL.tl_append, TL.tl_append, List.append_assoc]; rfl
def allSz : List Pc → Prop
  | [] => True
  | .s _ :: r => allSz r
  | .t c :: r => c.Sz ∧ allSz r
theorem allSz_app : ∀ {a b : List Pc}, allSz a → allSz b → allSz (a ++ b)
  | [], b, _, h => h
  | .s _ :: r, b, h1, h2 => allSz_app (a := r) h1 h2
  | .t c :: r, b, h1, h2 => ⟨h1.1, allSz_app h1.2 h2⟩
theorem win_allSz {ws : List Str} {c : PT} (h : c.Sz) : allSz (win ws c) := by
  unfold win
  split
  · exact ⟨h, trivial⟩
  · exact ⟨h, trivial⟩
theorem pieces_allSz : ∀ {t : PT}, t.Sz → allSz (pieces t)
  | .leaf _, _ => trivial
  | .neg c, h => win_allSz (ws := ["and", "or"]) (c := c) h
  | .two false c d, h => allSz_app (win_allSz (ws := ["or"]) h.1) (win_allSz (ws := ["and", "or"]) (c := d) h.2)
  | .two true c d, h => ⟨h.1, win_allSz (ws := ["or"]) (c := d) h.2⟩
theorem pcs_len {H : Hp} : ∀ {ps : List Pc} {vs : List V}, PcsAt H ps vs → vs.length = ps.length
  | [], vs, h => by cases h; rfl
  | p :: ps, vs, ⟨v, us, e, _, h⟩ => by rw [e, List.length_cons, List.length_cons, pcs_len h]
theorem szP_len : ∀ ps : List Pc, ps.length ≤ szP ps
  | [] => Nat.zero_le _
  | p :: r => by
    have := szP_len r
    rw [szP_cons, List.length_cons]
    have h1 : 1 ≤ p.sz := by
      cases p with
      | s w => exact Nat.le_refl _
      | t c => have := psz_pos c; show 1 ≤ psz c; omega
    omega
theorem PcsAt.kpm {M : List Addr} {H H' : Hp} (k : Kp M H H') (n : ∀ x ∈ M, ∀ vs, H x ≠ some (.tup vs)) : ∀ {ps : List Pc} {vs : List V}, PcsAt H ps vs → PcsAt H' ps vs
  | [], vs, h => h
  | p :: ps, vs, ⟨v, us, e, h1, h2⟩ => ⟨v, us, e, (by
      cases p with
      | s w => exact h1
      | t c => exact TrAt.kp k n h1), PcsAt.kpm k n h2⟩
theorem sum_len : ∀ ws : List Str, (ws.map fun w => w.length).sum = ((ws.map TL.tl).flatten).length
  | [] => rfl
  | w :: r => by
    rw [List.map_cons, List.sum_cons, List.map_cons, List.flatten_cons, List.length_append, sum_len r]
    congr 1
def spWrite : Sp := fun vs H Q _ => ∃ (t : PT) (v : V), vs = [v] ∧ TrAt H t v ∧ t.Sz ∧ psz t ≤ 5000 ∧ (wr t).length ≤ 100000 ∧ ∀ H', Kp [] H H' → Q (.str (wr t)) H'
theorem ok_write_condition {P : Program} {w : World} {K : PySem.W.Frag} {mg : Str → Option Value} {base : Heap} (T : T P K mg) : FnOk P w K mg base CX0 3 T.a_write_condition T.fd_write_condition ["condition"] spWrite := by
  refine T.F_write_condition.ok sc_write_condition (fun vs H Q E h => ?_) (fun cdv A outer s H vs Q E hr h => ?_)
  · obtain ⟨t, v, rfl, _⟩ := h
    rfl
  · obtain ⟨t, v, rfl, hv, hz, hsz, hl, q⟩ := h
    refine ⟨_, (pss_cons (ps_set (i := 1) sc_write_condition.nd rfl (by first | exact Or.inl rfl | exact Or.inr rfl) (pe_lst pa_nil))
      (pss_cons (ps_set (i := 2) sc_write_condition.nd rfl (by first | exact Or.inl rfl | exact Or.inr rfl) (pe_lst (pa_cons (pv 0) pa_nil)))
      (pss_cons (ps_while PassesOwn.never (pt_truth (pv 2) (by intro _; rfl)) (pss_cons (ps_set (i := 3) sc_write_condition.nd rfl (by first | exact Or.inl rfl | exact Or.inr rfl) (pe_bm0 PySem.F.plainAttrs_list PySem.F.slot_list_pop PySem.F.type_list_pop mt_pop (pv 2)))
      (pss_one (ps_if (pt_val (pe_callB call_isi (by rfl) T.z_isinstance (by decide +kernel) (pa_cons (pv 3) (pa_cons (pe_bltn (v := .ty "str") (by rfl) T.z_str (by decide +kernel) rfl) pa_nil)))) (pss_one (ps_expr (pe_bm PySem.F.plainAttrs_list PySem.F.slot_list_append PySem.F.type_list_append mt_append (pv 1) (pa_cons (pv 3) pa_nil)))) (pss_one (ps_expr (pe_bm PySem.F.plainAttrs_list PySem.F.slot_list_extend PySem.F.type_list_extend mt_extend (pv 2) (pa_cons (pe_revL (pe_call (ok_pieces_of T) (hr.mono (by decide)) (by rfl) T.g_pieces_of T.F_pieces_of.kp T.b_pieces_of .nil pass0 (pa_cons (pv 3) pa_nil))) pa_nil))))))))
      (pss_one (ps_ret (pe_bm PySem.F.plainAttrs_str PySem.F.slot_str_join PySem.F.type_str_join Z.m_join pe_str (pa_cons (pv 1) pa_nil))))))), ?_⟩
    walk_at "z0"
    walk_at "z"
    refine Z.lstK (fun W H1 nW k1 e1 => ?_)
    walk_at "z"
    refine Z.lstK (fun X H2 nX k2 e2 => ?_)
    walk_at "z"
    have hXW : X ≠ W := fun z => by rw [z, e1] at nX; cases nX
    refine Z.wh (fun m σ' H' => ∃ (y : Option V) (ws : List Str) (ps : List Pc) (us : List V), σ' = [some v, some (.ref W), some (.ref X), y] ∧ Kp [] H H' ∧ H' W = some (.lst (ws.map V.str)) ∧ H' X = some (.lst us.reverse) ∧ PcsAt H' ps us ∧ allSz ps ∧ m = szP ps ∧ ws.length + szP ps ≤ psz t ∧ (ws.map TL.tl).flatten ++ txP ps = TL.tl (wr t)) (psz t) ⟨none, [], [.t t], [v], rfl, k1.trans k2, k2.get nin0 e1, e2, ⟨_, _, rfl, hv.kp0 (k1.trans k2), rfl⟩, ⟨hz, trivial⟩, rfl, by show 0 + (psz t + 0) ≤ _; omega, by simp [txP, Pc.text]⟩ ?_
    rintro m σ' H' ⟨y, ws, ps, us, rfl, kk, eW, eX, hP, hA, hm, hb, htx⟩
    have hul := pcs_len hP
    have hps := szP_len ps
    walk_at "z"
    refine Z.truL eX ?_
    cases ps with
    | nil =>
      obtain rfl : us = [] := hP
      rw [show ([] : List V).reverse.isEmpty = true from rfl]
      walk_at "z"
      have hfl : TL.tl (Txt.join "" ws) = TL.tl (wr t) := by
        rw [joinE, ← htx]; simp [txP]
      refine ⟨tyStr, ?_⟩
      walk_at "z"
      refine Z.join (lstL eW) ?_ ?_
      · rw [show ("" : Str).length = 0 by decide +kernel]
        have h1 := sum_len ws
        have h2 : (ws.map TL.tl).flatten = TL.tl (wr t) := by rw [← joinE, hfl]
        rw [h2] at h1
        have h3 : (TL.tl (wr t)).length = (wr t).length := by
          show (wr t).cps.toList.length = (wr t).cps.size
          rw [Array.length_toList]
        omega
      · rw [TL.ext_tl hfl]
        exact q H' kk
    | cons p ps =>
      obtain ⟨x, us', rfl, hp, hP'⟩ := hP
      rw [List.reverse_cons] at eX
      rw [szP_cons] at hm hb
      rw [txP_cons] at htx
      have hne : (x :: us').reverse.isEmpty = false := by simp
      rw [hne]
      walk_at "z"
      refine Z.whb ?_
      walk_at "z"
      refine ⟨Z.tyL eX, ?_⟩
      refine Z.popS eX ?_
      walk_at "z"
      have kX : Kp [X] H' (upd H' X (.lst us'.reverse)) := Kp.put (by simp)
      have kk2 : Kp [] H (upd H' X (.lst us'.reverse)) := kk.mut (k1.none nin0 nX) rfl
      have eX2 : upd H' X (.lst us'.reverse) X = some (.lst us'.reverse) := upd_same
      have eW2 := kX.get (nin1 hXW.symm) eW
      have hP2 := hP'.kpm kX (fun z hz vs e => by rw [List.mem_singleton.mp hz, eX] at e; cases e)
      have hul' := pcs_len hP'
      have hps' := szP_len ps
      cases p with
      | s w =>
        obtain rfl : x = .str w := hp
        refine Z.isi (A := "str") (b := true) (.base (.str w)) (by decide +kernel) ?_
        walk_at "z"
        refine ⟨Z.tyL eW2, ?_⟩
        walk_at "z"
        refine Z.app eW2 (Z.szl (m := 100000) (by rw [List.length_map]; omega)) ?_
        walk_at "z"
        refine ⟨szP ps, by rw [hm]; show szP ps < 1 + _; omega, some (.str w), ws ++ [w], ps, us', rfl, kk2.mut nW rfl, by rw [upd_same, List.map_append]; rfl, (upd_ne hXW).trans eX2, ?_, hA, rfl, ?_, ?_⟩
        · exact hP2.kpm (Kp.put (M := [W]) (by simp)) (fun z hz vs e => by rw [List.mem_singleton.mp hz, eW2] at e; cases e)
        · rw [List.length_append, List.length_singleton]
          have : (Pc.s w).sz = 1 := rfl
          omega
        · rw [← htx, List.map_append, List.flatten_append]; simp [Pc.text]
      | t c =>
        obtain ⟨p0, r0, rfl, hp0⟩ := TrAt.tup hp
        have hp1 := kX.get (nin1 fun z => by rw [z, eX] at hp0; cases hp0) hp0
        refine Z.isi (A := "tuple") (b := false) (.base (.tup hp1)) (by decide +kernel) ?_
        walk_at "z"
        refine ⟨Z.tyL eX2, ?_⟩
        walk_at "z"
        refine ⟨c, _, rfl, TrAt.kp kX (fun z hz vs e => by rw [List.mem_singleton.mp hz, eX] at e; cases e) hp, hA.1, fun H5 d vs nd k5 e5 hvs hvl => ?_⟩
        walk_at "z"
        have eX5 := k5.get nin0 eX2
        refine Z.lrk (lstL e5) (fun p6 H6 np6 k6 e6 => ?_)
        walk_at "z"
        have eX6 := k6.get nin0 eX5
        have hvn := pcs_len hvs
        have hsz1 := pieces_sz c
        have hpl := szP_len (pieces c)
        have hcs : (Pc.t c).sz = psz c := rfl
        refine ⟨X, p6, _, _, rfl, rfl, eX6, e6, Nat.le_trans (m := 100000) (by rw [List.length_reverse, List.length_reverse]; omega) (by decide), ?_⟩
        have kF : Kp [X] H6 (upd H6 X (.lst (us'.reverse ++ vs.reverse))) := Kp.put (by simp)
        have kk6 : Kp [] H H6 := (kk2.trans k5).trans k6
        have hall : PcsAt H6 (pieces c ++ ps) (vs ++ us') := (hvs.kp0 k6).app ((hP2.kp0 k5).kp0 k6)
        refine ⟨szP (pieces c ++ ps), by rw [szP_app, hm, hcs]; omega, some (.ref p0), ws, pieces c ++ ps, vs ++ us', rfl, kk6.mut (k1.none nin0 nX) rfl, kF.get (nin1 hXW.symm) ((k5.trans k6).get nin0 eW2), by rw [upd_same, List.reverse_append], ?_, allSz_app (pieces_allSz hA.1) hA.2, rfl, by rw [szP_app]; omega, ?_⟩
        · exact hall.kpm kF (fun z hz vs e => by rw [List.mem_singleton.mp hz, eX6] at e; cases e)
        · rw [← htx, txP_app, pieces_tx]; rfl

/-! ### the law's own conditions -/
def sp3 : List Str := [" ", "  ", "   "]
def sp2 : List Str := ["", " "]
def grps : List Str := ["red", "blue", "k", "and"]
def PT.Good : PT → Prop
  | .leaf (.cmp _ s n) => s ∈ signs5 ∧ n ∈ nums
  | .leaf (.grp s) => s ∈ grps
  | .leaf (.key s) => s ∈ lawNames
  | .leaf .all => True
  | .neg c => c.Good
  | .two _ c d => c.Good ∧ d.Good
def PT.dep : PT → Nat
  | .leaf _ => 0
  | .neg c => c.dep + 1
  | .two _ c d => max c.dep d.dep + 1
theorem TrAt.kpd {H H' : Hp} {a : Addr} {t : PT} {v : V} (h : TrAt H t v) (k : Kp [a] H H') (d : DrawsAt H a) : TrAt H' t v := h.kp k fun x hx vs e => by
  rw [List.mem_singleton.mp hx, d.choose_spec] at e
  cases e
theorem names_len : ∀ s ∈ lawNames, s.length ≤ 12 := by decide +kernel
theorem grps_len : ∀ s ∈ grps, s.length ≤ 12 := by decide +kernel
theorem nums_small : ∀ n ∈ nums, n.natAbs ≤ 1000000 := by decide +kernel
theorem good_sz : ∀ {t : PT}, t.Good → t.Sz
  | .leaf (.cmp _ s n), h => ⟨h.1, nums_small n h.2⟩
  | .leaf (.grp s), h => grps_len s h
  | .leaf (.key s), h => names_len s h
  | .leaf .all, _ => trivial
  | .neg c, h => good_sz (t := c) h
  | .two _ c d, h => ⟨good_sz (t := c) h.1, good_sz (t := d) h.2⟩
def spNumber (K : PySem.W.Frag) : Sp := fun vs H Q _ => ∃ a : Addr, vs = [.ref a] ∧ DrawsAt H a ∧ ∀ H' n, n ∈ nums → Kp [a] H H' → DrawsAt H' a → Q (.int n) H'
theorem ok__law_number {P : Program} {w : World} {K : PySem.W.Frag} {mg : Str → Option Value} {base : Heap} (T : T P K mg) : FnOk P w K mg base CX0 2 T.a__law_number T.fd__law_number ["draws"] (spNumber K) := by
  refine T.F__law_number.ok sc__law_number (fun vs H Q E h => ?_) (fun cdv A outer s H vs Q E hr h => ?_)
  · obtain ⟨a, rfl, _⟩ := h
    rfl
  · obtain ⟨a, rfl, hd, q⟩ := h
    refine ⟨_, (pss_one (ps_ret (pe_ix ix_list (pe_lst (pa_cons (pe_op op_sub (pe_call (ok__law_take T) (hr.mono (by decide)) (by rfl) T.g__law_take T.F__law_take.kp T.b__law_take .nil pass0 (pa_cons (pv 0) (pa_cons pe_int pa_nil))) pe_int) (pa_cons pe_int (pa_cons (pe_un un_neg pe_int) (pa_cons pe_int pa_nil))))) (pe_ix ix_list (pe_lst (pa_cons pe_int (pa_cons pe_int (pa_cons pe_int (pa_cons pe_int (pa_cons pe_int (pa_cons pe_int pa_nil))))))) (pe_call (ok__law_take T) (hr.mono (by decide)) (by rfl) T.g__law_take T.F__law_take.kp T.b__law_take .nil pass0 (pa_cons (pv 0) (pa_cons pe_int pa_nil))) (fun _ _ => rfl)) (fun _ _ => rfl)))), ?_⟩
    walk_at "z0"
    walk_at "z"
    refine ⟨a, 41, rfl, hd, by decide, by decide, fun H1 v hv0 hv1 k1 d1 => ?_⟩
    walk_at "z"
    refine Z.lstK (fun b H2 nb k2 e2 => ?_)
    walk_at "z"
    refine Z.lstK (fun b2 H3 nb2 k3 e3 => ?_)
    have d3 := (d1.kp0 k2).kp0 k3
    have nab : a ≠ b := d1.ne nb
    have nab2 : a ≠ b2 := (d1.kp0 k2).ne nb2
    walk_at "z"
    refine ⟨a, 6, rfl, d3, by decide, by decide, fun H4 u hu0 hu1 k4 d4 => ?_⟩
    obtain ⟨j, hj, ej⟩ := pickI [0, 0, 0, 1, 2, 3] hu0 hu1
    refine Z.ixL (lstL (k4.get (nin1 nab2.symm) e3)) ej ?_
    have hv : v - 20 ∈ nums := by
      unfold nums
      refine List.mem_append_left _ (List.mem_map.mpr ⟨v.toNat, List.mem_range.mpr (by omega), by omega⟩)
    obtain ⟨n, hn, en⟩ : ∃ n : Int, n ∈ nums ∧ atI [V.int (v - 20), V.int 1000000, V.int (-1000000), V.int 0] j = some (.int n) := by
      simp only [List.mem_cons, List.not_mem_nil, or_false] at hj
      rcases hj with rfl | rfl | rfl | rfl | rfl | rfl
      · exact ⟨_, hv, rfl⟩
      · exact ⟨_, hv, rfl⟩
      · exact ⟨_, hv, rfl⟩
      · exact ⟨1000000, by decide +kernel, rfl⟩
      · exact ⟨-1000000, by decide +kernel, rfl⟩
      · exact ⟨0, by decide +kernel, rfl⟩
    refine Z.ixL (lstL (k4.get (nin1 nab.symm) (k3.get nin0 e2))) en ?_
    exact q H4 n hn (k1.trans ((k2.trans k3).sub (by simp) |>.trans k4)) d4
def spCond (n : Nat) : Sp := fun vs H Q _ => ∃ (a : Addr) (m : Nat), vs = [.ref a, .int (m : Int)] ∧ m < n ∧ DrawsAt H a ∧ ∀ H' t v, Kp [a] H H' → DrawsAt H' a → TrAt H' t v → t.Good → t.dep ≤ m → Q v H'
theorem cond_rec {P : Program} {w : World} {K : PySem.W.Frag} {mg : Str → Option Value} {base : Heap} (T : T P K mg) : ∀ n, FnOk P w K mg base CX0 (n + 4) T.a__law_condition T.fd__law_condition ["draws", "depth"] (spCond n)
  | 0 => ⟨fun _ _ _ _ h => by obtain ⟨_, _, _, h, _⟩ := h; omega, fun _ _ _ _ _ _ _ _ _ _ _ _ _ h => by obtain ⟨_, _, _, h, _⟩ := h; omega⟩
  | n + 1 => by
    have ih := cond_rec (w := w) (base := base) T n
    show FnOk P w K mg base CX0 (n + 4 + 1) _ _ _ _
    refine T.F__law_condition.ok sc__law_condition (fun vs H Q E h => ?_) (fun cdv A outer s H vs Q E hr h => ?_)
    · obtain ⟨a, m, rfl, _⟩ := h
      rfl
    · obtain ⟨a, m, rfl, hm, hd, q⟩ := h
      refine ⟨_, (pss_cons (ps_set (i := 2) sc__law_condition.nd rfl (by first | exact Or.inl rfl | exact Or.inr rfl) (pe_call (ok__law_take T) (hr.mono (by omega)) (by rfl) T.g__law_take T.F__law_take.kp T.b__law_take .nil pass0 (pa_cons (pv 0) (pa_cons pe_int pa_nil))))
      (pss_cons (ps_if (PW.pt (pw_or (pt_cmpR op_eq (pv 1) pe_int (nomark _)) (pw_or1 (pt_cmpR op_lt (pv 2) pe_int (nomark _))))) (pss_cons (ps_set (i := 2) sc__law_condition.nd rfl (by first | exact Or.inl rfl | exact Or.inr rfl) (pe_call (ok__law_take T) (hr.mono (by omega)) (by rfl) T.g__law_take T.F__law_take.kp T.b__law_take .nil pass0 (pa_cons (pv 0) (pa_cons pe_int pa_nil))))
      (pss_cons (ps_if (pt_cmpR op_lt (pv 2) pe_int (nomark _)) (pss_one (ps_ret (pe_tup (pa_cons (pe_ix ix_list (pe_lst (pa_cons pe_str (pa_cons pe_str pa_nil))) (pv 2) (fun _ _ => rfl)) (pa_cons (pe_ix ix_list (pe_lst (pa_cons pe_str (pa_cons pe_str (pa_cons pe_str (pa_cons pe_str (pa_cons pe_str pa_nil)))))) (pe_call (ok__law_take T) (hr.mono (by omega)) (by rfl) T.g__law_take T.F__law_take.kp T.b__law_take .nil pass0 (pa_cons (pv 0) (pa_cons pe_int pa_nil))) (fun _ _ => rfl)) (pa_cons (pe_call (ok__law_number T) (hr.mono (by omega)) (by rfl) T.g__law_number T.F__law_number.kp T.b__law_number .nil pass0 (pa_cons (pv 0) pa_nil)) pa_nil)))))) pss_nil)
      (pss_cons (ps_if (pt_cmpR op_eq (pv 2) pe_int (nomark _)) (pss_one (ps_ret (pe_tup (pa_cons pe_str (pa_cons (pe_ix ix_list (pe_lst (pa_cons pe_str (pa_cons pe_str (pa_cons pe_str (pa_cons pe_str pa_nil))))) (pe_call (ok__law_take T) (hr.mono (by omega)) (by rfl) T.g__law_take T.F__law_take.kp T.b__law_take .nil pass0 (pa_cons (pv 0) (pa_cons pe_int pa_nil))) (fun _ _ => rfl)) pa_nil))))) pss_nil)
      (pss_cons (ps_if (pt_cmpR op_eq (pv 2) pe_int (nomark _)) (pss_one (ps_ret (pe_tup (pa_cons pe_str (pa_cons (pe_call (ok__law_name T) (hr.mono (by omega)) (by rfl) T.g__law_name T.F__law_name.kp T.b__law_name .nil pass0 (pa_cons (pv 0) pa_nil)) pa_nil))))) pss_nil)
      (pss_one (ps_ret (pe_tup (pa_cons pe_str pa_nil)))))))) pss_nil)
      (pss_cons (ps_if (pt_cmpR op_eq (pv 2) pe_int (nomark _)) (pss_one (ps_ret (pe_tup (pa_cons pe_str (pa_cons (pe_call ih (hr.mono (by omega)) (by rfl) T.g__law_condition T.F__law_condition.kp T.b__law_condition .nil pass0 (pa_cons (pv 0) (pa_cons (pe_op op_sub (pv 1) pe_int) pa_nil))) pa_nil))))) pss_nil)
      (pss_cons (ps_set (i := 3) sc__law_condition.nd rfl (by first | exact Or.inl rfl | exact Or.inr rfl) (pe_call ih (hr.mono (by omega)) (by rfl) T.g__law_condition T.F__law_condition.kp T.b__law_condition .nil pass0 (pa_cons (pv 0) (pa_cons (pe_op op_sub (pv 1) pe_int) pa_nil))))
      (pss_one (ps_ret (pe_tup (pa_cons (pe_ix ix_list (pe_lst (pa_cons pe_str (pa_cons pe_str pa_nil))) (pe_op op_mod (pe_callTy c_int (by rfl) T.z_int (by decide +kernel) (pa_cons (pv 2) pa_nil)) pe_int) (fun _ _ => rfl)) (pa_cons (pv 3) (pa_cons (pe_call ih (hr.mono (by omega)) (by rfl) T.g__law_condition T.F__law_condition.kp T.b__law_condition .nil pass0 (pa_cons (pv 0) (pa_cons (pe_op op_sub (pv 1) pe_int) pa_nil))) pa_nil)))))))))), ?_⟩
      walk_at "z0"
      walk_at "z"
      refine ⟨a, 9, rfl, hd, by decide, by decide, fun H1 kd hk0 hk1 k1 d1 => ?_⟩
      walk_at "z"
      refine Z.ite (fun c0 => ?_) (fun c0 => ?_)
      · walk_at "z"
        refine ⟨a, 5, rfl, d1, by decide, by decide, fun H2 kd2 h20 h21 k2 d2 => ?_⟩
        have k02 := k1.trans k2
        walk_at "z"
        refine Z.ite (fun c1 => ?_) (fun c1 => ?_)
        · walk_at "z"
          refine Z.lstK (fun b H3 nb k3 e3 => ?_)
          have d3 := d2.kp0 k3
          walk_at "z"
          obtain ⟨bb, ebb⟩ : ∃ bb : Bool, atI [V.str "weight", V.str "amount"] kd2 = some (.str (cmpW bb)) := by
            have hk : kd2 = 0 ∨ kd2 = 1 := by omega
            rcases hk with rfl | rfl
            · exact ⟨false, rfl⟩
            · exact ⟨true, rfl⟩
          refine Z.ixL (lstL e3) ebb ?_
          walk_at "z"
          refine Z.lstK (fun b2 H4 nb2 k4 e4 => ?_)
          have d4 := d3.kp0 k4
          have nab2 : a ≠ b2 := d3.ne nb2
          walk_at "z"
          refine ⟨a, 5, rfl, d4, by decide, by decide, fun H5 v hv0 hv1 k5 d5 => ?_⟩
          obtain ⟨sg, hsg, esg⟩ := pickS signs5 hv0 hv1
          refine Z.ixL (lstL (k5.get (nin1 nab2.symm) e4)) esg ?_
          walk_at "z"
          refine ⟨a, rfl, d5, fun H6 n6 hn6 k6 d6 => ?_⟩
          walk_at "z"
          refine Z.tupK (fun p H7 np k7 e7 => ?_)
          exact q H7 (.leaf (.cmp bb sg n6)) _ (k02.trans (((k3.trans k4).sub (by simp)).trans (k5.trans (k6.trans (k7.sub (by simp)))))) (d6.kp0 k7) ⟨p, rfl, e7⟩ ⟨hsg, hn6⟩ (Nat.zero_le _)
        · walk_at "z"
          refine Z.ite (fun c2 => ?_) (fun c2 => ?_)
          · walk_at "z"
            refine Z.lstK (fun b H3 nb k3 e3 => ?_)
            have d3 := d2.kp0 k3
            have nab : a ≠ b := d2.ne nb
            walk_at "z"
            refine ⟨a, 4, rfl, d3, by decide, by decide, fun H4 v hv0 hv1 k4 d4 => ?_⟩
            obtain ⟨sg, hsg, esg⟩ := pickS grps hv0 hv1
            refine Z.ixL (lstL (k4.get (nin1 nab.symm) e3)) esg ?_
            walk_at "z"
            refine Z.tupK (fun p H5 np k5 e5 => ?_)
            exact q H5 (.leaf (.grp sg)) _ (k02.trans ((k3.sub (by simp)).trans (k4.trans (k5.sub (by simp))))) (d4.kp0 k5) ⟨p, rfl, e5⟩ hsg (Nat.zero_le _)
          · walk_at "z"
            refine Z.ite (fun c3 => ?_) (fun c3 => ?_)
            · walk_at "z"
              refine ⟨a, rfl, d2, fun H3 sg hsg k3 d3 => ?_⟩
              walk_at "z"
              refine Z.tupK (fun p H4 np k4 e4 => ?_)
              exact q H4 (.leaf (.key sg)) _ (k02.trans (k3.trans (k4.sub (by simp)))) (d3.kp0 k4) ⟨p, rfl, e4⟩ hsg (Nat.zero_le _)
            · walk_at "z"
              refine Z.tupK (fun p H4 np k4 e4 => ?_)
              exact q H4 (.leaf .all) _ (k02.trans (k4.sub (by simp))) (d2.kp0 k4) ⟨p, rfl, e4⟩ trivial (Nat.zero_le _)
      · walk_at "z"
        refine Z.ite (fun c4 => ?_) (fun c4 => ?_)
        · walk_at "z"
          refine ⟨a, 5, rfl, d1, by decide, by decide, fun H2 kd2 h20 h21 k2 d2 => ?_⟩
          have k02 := k1.trans k2
          walk_at "z"
          refine Z.ite (fun c1 => ?_) (fun c1 => ?_)
          · walk_at "z"
            refine Z.lstK (fun b H3 nb k3 e3 => ?_)
            have d3 := d2.kp0 k3
            walk_at "z"
            obtain ⟨bb, ebb⟩ : ∃ bb : Bool, atI [V.str "weight", V.str "amount"] kd2 = some (.str (cmpW bb)) := by
              have hk : kd2 = 0 ∨ kd2 = 1 := by omega
              rcases hk with rfl | rfl
              · exact ⟨false, rfl⟩
              · exact ⟨true, rfl⟩
            refine Z.ixL (lstL e3) ebb ?_
            walk_at "z"
            refine Z.lstK (fun b2 H4 nb2 k4 e4 => ?_)
            have d4 := d3.kp0 k4
            have nab2 : a ≠ b2 := d3.ne nb2
            walk_at "z"
            refine ⟨a, 5, rfl, d4, by decide, by decide, fun H5 v hv0 hv1 k5 d5 => ?_⟩
            obtain ⟨sg, hsg, esg⟩ := pickS signs5 hv0 hv1
            refine Z.ixL (lstL (k5.get (nin1 nab2.symm) e4)) esg ?_
            walk_at "z"
            refine ⟨a, rfl, d5, fun H6 n6 hn6 k6 d6 => ?_⟩
            walk_at "z"
            refine Z.tupK (fun p H7 np k7 e7 => ?_)
            exact q H7 (.leaf (.cmp bb sg n6)) _ (k02.trans (((k3.trans k4).sub (by simp)).trans (k5.trans (k6.trans (k7.sub (by simp)))))) (d6.kp0 k7) ⟨p, rfl, e7⟩ ⟨hsg, hn6⟩ (Nat.zero_le _)
          · walk_at "z"
            refine Z.ite (fun c2 => ?_) (fun c2 => ?_)
            · walk_at "z"
              refine Z.lstK (fun b H3 nb k3 e3 => ?_)
              have d3 := d2.kp0 k3
              have nab : a ≠ b := d2.ne nb
              walk_at "z"
              refine ⟨a, 4, rfl, d3, by decide, by decide, fun H4 v hv0 hv1 k4 d4 => ?_⟩
              obtain ⟨sg, hsg, esg⟩ := pickS grps hv0 hv1
              refine Z.ixL (lstL (k4.get (nin1 nab.symm) e3)) esg ?_
              walk_at "z"
              refine Z.tupK (fun p H5 np k5 e5 => ?_)
              exact q H5 (.leaf (.grp sg)) _ (k02.trans ((k3.sub (by simp)).trans (k4.trans (k5.sub (by simp))))) (d4.kp0 k5) ⟨p, rfl, e5⟩ hsg (Nat.zero_le _)
            · walk_at "z"
              refine Z.ite (fun c3 => ?_) (fun c3 => ?_)
              · walk_at "z"
                refine ⟨a, rfl, d2, fun H3 sg hsg k3 d3 => ?_⟩
                walk_at "z"
                refine Z.tupK (fun p H4 np k4 e4 => ?_)
                exact q H4 (.leaf (.key sg)) _ (k02.trans (k3.trans (k4.sub (by simp)))) (d3.kp0 k4) ⟨p, rfl, e4⟩ hsg (Nat.zero_le _)
              · walk_at "z"
                refine Z.tupK (fun p H4 np k4 e4 => ?_)
                exact q H4 (.leaf .all) _ (k02.trans (k4.sub (by simp))) (d2.kp0 k4) ⟨p, rfl, e4⟩ trivial (Nat.zero_le _)
        · walk_at "z"
          have em : ((m : Int) - 1) = ((m - 1 : Nat) : Int) := by omega
          refine Z.ite (fun c5 => ?_) (fun c5 => ?_)
          · walk_at "z"
            rw [em]
            refine ⟨a, m - 1, rfl, by omega, d1, fun H2 t u k2 d2 ht hg hdep => ?_⟩
            walk_at "z"
            refine Z.tupK (fun p H3 np k3 e3 => ?_)
            exact q H3 (.neg t) _ (k1.trans (k2.trans (k3.sub (by simp)))) (d2.kp0 k3) ⟨p, u, rfl, e3, ht.kp0 k3⟩ hg (by rw [PT.dep]; omega)
          · walk_at "z"
            rw [em]
            refine ⟨a, m - 1, rfl, by omega, d1, fun H2 t u k2 d2 ht hg hdep => ?_⟩
            walk_at "z"
            refine Z.lstK (fun b H3 nb k3 e3 => ?_)
            have d3 := d2.kp0 k3
            walk_at "z"
            refine Z.iC (by decide) ?_
            obtain ⟨o, eo⟩ : ∃ o : Bool, atI [V.str "and", V.str "or"] (kd % 2) = some (.str (twoW o)) := by
              have hk : kd % 2 = 0 ∨ kd % 2 = 1 := by omega
              rcases hk with h | h
              · exact ⟨false, by rw [h]; rfl⟩
              · exact ⟨true, by rw [h]; rfl⟩
            refine Z.ixL (lstL e3) eo ?_
            walk_at "z"
            rw [em]
            refine ⟨a, m - 1, rfl, by omega, d3, fun H4 t2 u2 k4 d4 ht2 hg2 hdep2 => ?_⟩
            walk_at "z"
            refine Z.tupK (fun p H5 np k5 e5 => ?_)
            exact q H5 (.two o t t2) _ (k1.trans (k2.trans ((k3.sub (by simp)).trans (k4.trans (k5.sub (by simp)))))) (d4.kp0 k5) ⟨p, u, u2, rfl, e5, ((ht.kp0 k3).kpd k4 d3).kp0 k5, ht2.kp0 k5⟩ ⟨hg, hg2⟩ (by rw [PT.dep]; omega)
theorem ok__law_condition {P : Program} {w : World} {K : PySem.W.Frag} {mg : Str → Option Value} {base : Heap} (T : T P K mg) : FnOk P w K mg base CX0 9 T.a__law_condition T.fd__law_condition ["draws", "depth"] (spCond 5) := cond_rec T 5

/-! ### the law's own text -/
theorem psz_dep : ∀ t : PT, psz t + 8 ≤ 10 * 2 ^ t.dep
  | .leaf _ => by simp [psz, PT.dep]
  | .neg c => by
    have := psz_dep c
    rw [psz, PT.dep, Nat.pow_succ]
    omega
  | .two _ c d => by
    have h1 := psz_dep c
    have h2 := psz_dep d
    have e1 : 2 ^ c.dep ≤ 2 ^ max c.dep d.dep := Nat.pow_le_pow_right (by decide) (by omega)
    have e2 : 2 ^ d.dep ≤ 2 ^ max c.dep d.dep := Nat.pow_le_pow_right (by decide) (by omega)
    rw [psz, PT.dep, Nat.pow_succ]
    omega
theorem parS_len (ws : List Str) (w x : Str) : (parS ws w x).length ≤ x.length + 2 := by
  unfold parS
  split
  · rw [app_len, app_len, show ("(" : Str).length = 1 by decide +kernel, show (")" : Str).length = 1 by decide +kernel]; omega
  · omega
theorem atom_len : ∀ {a : Atom}, (PT.leaf a).Good → a.text.length ≤ 30
  | .cmp a s n, h => by
    have h1 := signs_len h.1
    have h2 := (nS_all n (nums_small n h.2)).1
    have hal : (cmpW a).length = 6 := by cases a <;> decide +kernel
    show (cmpW a ++ (" " : Str) ++ s ++ (" " : Str) ++ nS n).length ≤ 30
    rw [app_len, app_len, app_len, app_len, show (" " : Str).length = 1 by decide +kernel]
    omega
  | .grp s, h => by
    have h1 := grps_len s h
    show (("group" : Str) ++ (" " : Str) ++ s).length ≤ 30
    rw [app_len, app_len, show (" " : Str).length = 1 by decide +kernel, show ("group" : Str).length = 5 by decide +kernel]
    omega
  | .key s, h => by
    have h1 := names_len s h
    show (("key" : Str) ++ (" " : Str) ++ s).length ≤ 30
    rw [app_len, app_len, show (" " : Str).length = 1 by decide +kernel, show ("key" : Str).length = 3 by decide +kernel]
    omega
  | .all, _ => by decide +kernel
theorem wr_len : ∀ {t : PT}, t.Good → (wr t).length + 20 ≤ 60 * 2 ^ t.dep
  | .leaf a, h => by
    have := atom_len h
    show a.text.length + 20 ≤ 60 * 2 ^ 0
    omega
  | .neg c, h => by
    have h1 := wr_len (t := c) h
    have h2 := parS_len ["and", "or"] c.word (wr c)
    have h3 : 0 < 2 ^ c.dep := Nat.pow_pos (by decide)
    show (("not " : Str) ++ parS ["and", "or"] c.word (wr c)).length + 20 ≤ 60 * 2 ^ (c.dep + 1)
    rw [app_len, Nat.pow_succ, show ("not " : Str).length = 4 by decide +kernel]
    omega
  | .two false c d, h => by
    have h1 := wr_len (t := c) h.1
    have h2 := wr_len (t := d) h.2
    have e1 : 2 ^ c.dep ≤ 2 ^ max c.dep d.dep := Nat.pow_le_pow_right (by decide) (by omega)
    have e2 : 2 ^ d.dep ≤ 2 ^ max c.dep d.dep := Nat.pow_le_pow_right (by decide) (by omega)
    have g1 := parS_len ["or"] c.word (wr c)
    have g2 := parS_len ["and", "or"] d.word (wr d)
    show (parS ["or"] c.word (wr c) ++ (" and " : Str) ++ parS ["and", "or"] d.word (wr d)).length + 20 ≤ 60 * 2 ^ (max c.dep d.dep + 1)
    rw [app_len, app_len, Nat.pow_succ, show (" and " : Str).length = 5 by decide +kernel]
    omega
  | .two true c d, h => by
    have h1 := wr_len (t := c) h.1
    have h2 := wr_len (t := d) h.2
    have e1 : 2 ^ c.dep ≤ 2 ^ max c.dep d.dep := Nat.pow_le_pow_right (by decide) (by omega)
    have e2 : 2 ^ d.dep ≤ 2 ^ max c.dep d.dep := Nat.pow_le_pow_right (by decide) (by omega)
    have g2 := parS_len ["or"] d.word (wr d)
    show (wr c ++ (" or " : Str) ++ parS ["or"] d.word (wr d)).length + 20 ≤ 60 * 2 ^ (max c.dep d.dep + 1)
    rw [app_len, app_len, Nat.pow_succ, show (" or " : Str).length = 4 by decide +kernel]
    omega
theorem wr_le {t : PT} (h : t.Good) (hd : t.dep ≤ 5) : (wr t).length ≤ 1900 := by
  have h1 := wr_len h
  have h2 : 2 ^ t.dep ≤ 2 ^ 5 := Nat.pow_le_pow_right (by decide) hd
  omega
theorem aS {a b : Str} {Q : VK} {H : Hp} (h : a.length + b.length ≤ 6000) (q : Q (.str (a ++ b)) H) : rAddS (.str a) (.str b) H Q := Z.addS (Nat.le_trans h (by decide)) q
def spLW (n : Nat) : Sp := fun vs H Q _ => ∃ (t : PT) (v : V), vs = [v] ∧ TrAt H t v ∧ t.Good ∧ t.dep < n ∧ t.dep ≤ 5 ∧ ∀ H', Kp [] H H' → Q (.str (wr t)) H'
def spLP (K : PySem.W.Frag) (n : Nat) : Sp := fun vs H Q _ => ∃ (t : PT) (v : V) (a : Addr) (ws : List Str), vs = [v, .ref a] ∧ TrAt H t v ∧ t.Good ∧ t.dep < n ∧ t.dep ≤ 5 ∧ H a = some (.lst (ws.map V.str)) ∧ ∀ H', Kp [] H H' → Q (.str (parS ws t.word (wr t))) H'
section
variable {P : Program} {w : World} {K : PySem.W.Frag} {mg : Str → Option Value} {base : Heap}
theorem lpart_ok (T : T P K mg) {n m : Nat} (hm : 1 ≤ m) (hW : FnOk P w K mg base CX0 m T.a__law_written T.fd__law_written ["condition"] (spLW n)) : FnOk P w K mg base CX0 (m + 1) T.a__law_part T.fd__law_part ["condition", "words"] (spLP K n) := by
  have ok__law_written := fun (_ : TT P K mg) => hW
  refine T.F__law_part.ok sc__law_part (fun vs H Q E h => ?_) (fun cdv A outer s H vs Q E hr h => ?_)
  · obtain ⟨t, v, a, ws, rfl, _⟩ := h
    rfl
  · obtain ⟨t, v, a, ws, rfl, hv, hg, hd, hd5, ha, q⟩ := h
    refine ⟨_, (pss_cons (ps_set (i := 2) sc__law_part.nd rfl (by first | exact Or.inl rfl | exact Or.inr rfl) (pe_call (ok__law_written T) (hr.mono (by omega)) (by rfl) T.g__law_written T.F__law_written.kp T.b__law_written .nil pass0 (pa_cons (pv 0) pa_nil)))
      (pss_cons (ps_if (pt_cmpR op_in_seq (pe_ix ix_tup (pv 0) pe_int (fun _ _ => rfl)) (pv 1) rfl) (pss_one (ps_ret (pe_op o_addS (pe_op o_addS pe_str (pv 2)) pe_str))) pss_nil)
      (pss_one (ps_ret (pv 2))))), ?_⟩
    obtain ⟨p, r, rfl, hp⟩ := hv.tup
    have hl := wr_le hg hd5
    walk_at "z0"
    walk_at "z"
    refine ⟨t, _, rfl, hv, hg, hd, hd5, fun H1 k1 => ?_⟩
    walk_at "z"
    refine Z.ixT (tupT (k1.get nin0 hp)) at0 ?_
    walk_at "z"
    refine Z.inq (xs := ws.map V.str) (.inl (lstL (k1.get nin0 ha))) rfl Z.strs_flat ?_
    rw [if_neg Bool.false_ne_true, Z.inV_strs]
    walk_at "z"
    unfold parS at q
    refine Z.ite (fun h1 => ?_) (fun h1 => ?_)
    · rw [if_pos h1] at q
      walk_at "z"
      refine aS (by rw [show ("(" : Str).length = 1 by decide +kernel]; omega) ?_
      walk_at "z"
      refine aS (by rw [app_len, show ("(" : Str).length = 1 by decide +kernel, show (")" : Str).length = 1 by decide +kernel]; omega) ?_
      walk_at "z"
      exact q H1 k1
    · rw [if_neg h1] at q
      walk_at "z"
      exact q H1 k1
theorem lwritten_rec (T : T P K mg) : ∀ n, FnOk P w K mg base CX0 (2 * n + 2) T.a__law_written T.fd__law_written ["condition"] (spLW n)
  | 0 => ⟨fun _ _ _ _ h => by obtain ⟨_, _, _, _, _, h, _⟩ := h; omega, fun _ _ _ _ _ _ _ _ _ _ _ _ _ h => by obtain ⟨_, _, _, _, _, h, _⟩ := h; omega⟩
  | n + 1 => by
    have ih := lwritten_rec T n
    have ok__law_part := fun (_ : TT P K mg) => lpart_ok T (by omega) ih
    show FnOk P w K mg base CX0 (2 * n + 2 + 1 + 1) _ _ _ _
    refine T.F__law_written.ok sc__law_written (fun vs H Q E h => ?_) (fun cdv A outer s H vs Q E hr h => ?_)
    · obtain ⟨t, v, rfl, _⟩ := h
      rfl
    · obtain ⟨t, v, rfl, hv, hg, hd, hd5, q⟩ := h
      refine ⟨_, (pss_cons (ps_set (i := 1) sc__law_written.nd rfl (by first | exact Or.inl rfl | exact Or.inr rfl) (pe_ix ix_tup (pv 0) pe_int (fun _ _ => rfl)))
      (pss_cons (ps_if (pt_cmpR op_eq (pv 1) pe_str (nomark _)) (pss_one (ps_ret pe_str)) pss_nil)
      (pss_cons (ps_if (pt_cmpR op_in_seq (pv 1) (pe_lst (pa_cons pe_str (pa_cons pe_str pa_nil))) rfl) (pss_one (ps_ret (pe_op o_addS (pe_op o_addS (pe_op o_addS (pe_op o_addS (pv 1) pe_str) (pe_ix ix_tup (pv 0) pe_int (fun _ _ => rfl))) pe_str) (pe_callTy call_str_int (by rfl) T.z_str (by decide +kernel) (pa_cons (pe_ix ix_tup (pv 0) pe_int (fun _ _ => rfl)) pa_nil))))) pss_nil)
      (pss_cons (ps_if (pt_cmpR op_in_seq (pv 1) (pe_lst (pa_cons pe_str (pa_cons pe_str pa_nil))) rfl) (pss_one (ps_ret (pe_op o_addS (pe_op o_addS (pv 1) pe_str) (pe_ix ix_tup (pv 0) pe_int (fun _ _ => rfl))))) pss_nil)
      (pss_cons (ps_if (pt_cmpR op_eq (pv 1) pe_str (nomark _)) (pss_one (ps_ret (pe_op o_addS pe_str (pe_call (ok__law_part T) (hr.mono (by omega)) (by rfl) T.g__law_part T.F__law_part.kp T.b__law_part .nil pass0 (pa_cons (pe_ix ix_tup (pv 0) pe_int (fun _ _ => rfl)) (pa_cons (pe_lst (pa_cons pe_str (pa_cons pe_str pa_nil))) pa_nil)))))) pss_nil)
      (pss_cons (ps_if (pt_cmpR op_eq (pv 1) pe_str (nomark _)) (pss_one (ps_ret (pe_op o_addS (pe_op o_addS (pe_call (ok__law_part T) (hr.mono (by omega)) (by rfl) T.g__law_part T.F__law_part.kp T.b__law_part .nil pass0 (pa_cons (pe_ix ix_tup (pv 0) pe_int (fun _ _ => rfl)) (pa_cons (pe_lst (pa_cons pe_str pa_nil)) pa_nil))) pe_str) (pe_call (ok__law_part T) (hr.mono (by omega)) (by rfl) T.g__law_part T.F__law_part.kp T.b__law_part .nil pass0 (pa_cons (pe_ix ix_tup (pv 0) pe_int (fun _ _ => rfl)) (pa_cons (pe_lst (pa_cons pe_str (pa_cons pe_str pa_nil))) pa_nil)))))) pss_nil)
      (pss_one (ps_ret (pe_op o_addS (pe_op o_addS (pe_call ih (hr.mono (by omega)) (by rfl) T.g__law_written T.F__law_written.kp T.b__law_written .nil pass0 (pa_cons (pe_ix ix_tup (pv 0) pe_int (fun _ _ => rfl)) pa_nil)) pe_str) (pe_call (ok__law_part T) (hr.mono (by omega)) (by rfl) T.g__law_part T.F__law_part.kp T.b__law_part .nil pass0 (pa_cons (pe_ix ix_tup (pv 0) pe_int (fun _ _ => rfl)) (pa_cons (pe_lst (pa_cons pe_str pa_nil)) pa_nil)))))))))))), ?_⟩
      obtain ⟨p, r, rfl, hp⟩ := hv.tup
      have hl := wr_le hg hd5
      walk_at "z0"
      walk_at "z"
      refine Z.ixT (tupT hp) at0 ?_
      walk_at "z"
      cases t with
      | leaf a =>
        have hal := atom_len hg
        obtain ⟨p', e0, hp'⟩ := hv
        cases e0
        cases a with
        | all =>
          refine Z.yes rfl ?_
          walk_at "z"
          exact q H (Kp.refl _)
        | grp s =>
          have hs : s.length ≤ 12 := good_sz hg
          refine Z.no (by show ¬ (("group" : Str) = ("all" : Str)); decide +kernel) ?_
          walk_at "z"
          refine Z.lstK (fun b1 H1 nb1 k1 e1 => ?_)
          refine Z.inq (xs := ([("weight" : Str), "amount"] : List Str).map V.str) (.inl (lstL e1)) rfl Z.strs_flat ?_
          rw [if_neg Bool.false_ne_true, Z.inV_strs]
          walk_at "z"
          refine Z.no (by show ¬ (("group" : Str) ∈ ([("weight" : Str), "amount"] : List Str)); decide +kernel) ?_
          walk_at "z"
          refine Z.lstK (fun b2 H2 nb2 k2 e2 => ?_)
          refine Z.inq (xs := ([("group" : Str), "key"] : List Str).map V.str) (.inl (lstL e2)) rfl Z.strs_flat ?_
          rw [if_neg Bool.false_ne_true, Z.inV_strs]
          walk_at "z"
          refine Z.yes (by show ("group" : Str) ∈ ([("group" : Str), "key"] : List Str); decide +kernel) ?_
          walk_at "z"
          refine aS (by show ("group" : Str).length + (" " : Str).length ≤ 6000; decide +kernel) ?_
          walk_at "z"
          refine Z.ixT (tupT ((k1.trans k2).get nin0 hp')) (j := 1) (v := .str s) rfl ?_
          refine aS (by rw [app_len]; show ("group" : Str).length + (" " : Str).length + s.length ≤ 6000; rw [show ("group" : Str).length = 5 by decide +kernel, show (" " : Str).length = 1 by decide +kernel]; omega) ?_
          exact q H2 (k1.trans k2)
        | key s =>
          have hs : s.length ≤ 12 := good_sz hg
          refine Z.no (by show ¬ (("key" : Str) = ("all" : Str)); decide +kernel) ?_
          walk_at "z"
          refine Z.lstK (fun b1 H1 nb1 k1 e1 => ?_)
          refine Z.inq (xs := ([("weight" : Str), "amount"] : List Str).map V.str) (.inl (lstL e1)) rfl Z.strs_flat ?_
          rw [if_neg Bool.false_ne_true, Z.inV_strs]
          walk_at "z"
          refine Z.no (by show ¬ (("key" : Str) ∈ ([("weight" : Str), "amount"] : List Str)); decide +kernel) ?_
          walk_at "z"
          refine Z.lstK (fun b2 H2 nb2 k2 e2 => ?_)
          refine Z.inq (xs := ([("group" : Str), "key"] : List Str).map V.str) (.inl (lstL e2)) rfl Z.strs_flat ?_
          rw [if_neg Bool.false_ne_true, Z.inV_strs]
          walk_at "z"
          refine Z.yes (by show ("key" : Str) ∈ ([("group" : Str), "key"] : List Str); decide +kernel) ?_
          walk_at "z"
          refine aS (by show ("key" : Str).length + (" " : Str).length ≤ 6000; decide +kernel) ?_
          walk_at "z"
          refine Z.ixT (tupT ((k1.trans k2).get nin0 hp')) (j := 1) (v := .str s) rfl ?_
          refine aS (by rw [app_len]; show ("key" : Str).length + (" " : Str).length + s.length ≤ 6000; rw [show ("key" : Str).length = 3 by decide +kernel, show (" " : Str).length = 1 by decide +kernel]; omega) ?_
          exact q H2 (k1.trans k2)
        | cmp a s n =>
          obtain ⟨hs, hn⟩ := hg
          have hsl : s.length ≤ 2 := signs_len hs
          obtain ⟨hnl, hna⟩ := nS_all n (nums_small n hn)
          have hal : (cmpW a).length = 6 := by cases a <;> decide +kernel
          have n1 : ¬ cmpW a = "all" := by cases a <;> decide +kernel
          have n3 : cmpW a ∈ ([("weight" : Str), "amount"] : List Str) := by cases a <;> decide +kernel
          have z1 : (" " : Str).length = 1 := by decide +kernel
          refine Z.no n1 ?_
          walk_at "z"
          refine Z.lstK (fun b1 H1 nb1 k1 e1 => ?_)
          refine Z.inq (xs := ([("weight" : Str), "amount"] : List Str).map V.str) (.inl (lstL e1)) rfl Z.strs_flat ?_
          rw [if_neg Bool.false_ne_true, Z.inV_strs]
          walk_at "z"
          refine Z.yes n3 ?_
          walk_at "z"
          have hp1 := k1.get nin0 hp'
          refine aS (a := cmpW a) (by omega) ?_
          walk_at "z"
          refine Z.ixT (tupT hp1) (j := 1) (v := .str s) rfl ?_
          refine aS (by rw [app_len]; omega) ?_
          walk_at "z"
          refine aS (by rw [app_len, app_len]; omega) ?_
          walk_at "z"
          refine Z.ixT (tupT hp1) (j := 2) (v := .int n) rfl ?_
          walk_at "z"
          refine ⟨n, rfl, Nat.lt_of_lt_of_le (PySem.Flt.log2_lt_of (k := 30) (by decide) (Nat.lt_of_le_of_lt hna (by decide))) (by decide), ?_⟩
          refine aS (b := nS n) (by rw [app_len, app_len, app_len]; omega) ?_
          exact q H1 k1
      | neg c =>
        obtain ⟨p', u, e0, hp', hc⟩ := hv
        cases e0
        have hdc : c.dep + 1 < n + 1 := hd
        have hd5c : c.dep + 1 ≤ 5 := hd5
        have hlc := wr_le (t := c) hg (by omega)
        have g1 := parS_len ["and", "or"] c.word (wr c)
        refine Z.no (by show ¬ (("not" : Str) = ("all" : Str)); decide +kernel) ?_
        walk_at "z"
        refine Z.lstK (fun b1 H1 nb1 k1 e1 => ?_)
        refine Z.inq (xs := ([("weight" : Str), "amount"] : List Str).map V.str) (.inl (lstL e1)) rfl Z.strs_flat ?_
        rw [if_neg Bool.false_ne_true, Z.inV_strs]
        walk_at "z"
        refine Z.no (by show ¬ (("not" : Str) ∈ ([("weight" : Str), "amount"] : List Str)); decide +kernel) ?_
        walk_at "z"
        refine Z.lstK (fun b2 H2 nb2 k2 e2 => ?_)
        refine Z.inq (xs := ([("group" : Str), "key"] : List Str).map V.str) (.inl (lstL e2)) rfl Z.strs_flat ?_
        rw [if_neg Bool.false_ne_true, Z.inV_strs]
        walk_at "z"
        refine Z.no (by show ¬ (("not" : Str) ∈ ([("group" : Str), "key"] : List Str)); decide +kernel) ?_
        walk_at "z"
        refine Z.yes (by show ("not" : Str) = ("not" : Str); decide +kernel) ?_
        walk_at "z"
        have hp2 := (k1.trans k2).get nin0 hp'
        refine Z.ixT (tupT hp2) (j := 1) (v := u) rfl ?_
        walk_at "z"
        refine Z.lstK (fun b3 H3 nb3 k3 e3 => ?_)
        walk_at "z"
        have kk := k1.trans (k2.trans k3)
        refine ⟨c, u, b3, ["and", "or"], rfl, hc.kp0 kk, hg, by omega, by omega, e3, fun H4 k4 => ?_⟩
        refine aS (by rw [show ("not " : Str).length = 4 by decide +kernel]; omega) ?_
        exact q H4 (kk.trans k4)
      | two o c d =>
        obtain ⟨p', u, x, e0, hp', hc, hdd⟩ := hv
        cases e0
        have hd' : max c.dep d.dep + 1 < n + 1 := hd
        have hd5' : max c.dep d.dep + 1 ≤ 5 := hd5
        have hlc := wr_le (t := c) hg.1 (by omega)
        have hld := wr_le (t := d) hg.2 (by omega)
        cases o with
        | false =>
          have g1 := parS_len ["or"] c.word (wr c)
          have g2 := parS_len ["and", "or"] d.word (wr d)
          refine Z.no (by show ¬ (("and" : Str) = ("all" : Str)); decide +kernel) ?_
          walk_at "z"
          refine Z.lstK (fun b1 H1 nb1 k1 e1 => ?_)
          refine Z.inq (xs := ([("weight" : Str), "amount"] : List Str).map V.str) (.inl (lstL e1)) rfl Z.strs_flat ?_
          rw [if_neg Bool.false_ne_true, Z.inV_strs]
          walk_at "z"
          refine Z.no (by show ¬ (("and" : Str) ∈ ([("weight" : Str), "amount"] : List Str)); decide +kernel) ?_
          walk_at "z"
          refine Z.lstK (fun b2 H2 nb2 k2 e2 => ?_)
          refine Z.inq (xs := ([("group" : Str), "key"] : List Str).map V.str) (.inl (lstL e2)) rfl Z.strs_flat ?_
          rw [if_neg Bool.false_ne_true, Z.inV_strs]
          walk_at "z"
          refine Z.no (by show ¬ (("and" : Str) ∈ ([("group" : Str), "key"] : List Str)); decide +kernel) ?_
          walk_at "z"
          refine Z.no (by show ¬ (("and" : Str) = ("not" : Str)); decide +kernel) ?_
          walk_at "z"
          refine Z.yes (by show ("and" : Str) = ("and" : Str); decide +kernel) ?_
          walk_at "z"
          have hp2 := (k1.trans k2).get nin0 hp'
          refine Z.ixT (tupT hp2) (j := 1) (v := u) rfl ?_
          walk_at "z"
          refine Z.lstK (fun b3 H3 nb3 k3 e3 => ?_)
          walk_at "z"
          have kk := k1.trans (k2.trans k3)
          refine ⟨c, u, b3, ["or"], rfl, hc.kp0 kk, hg.1, by omega, by omega, e3, fun H4 k4 => ?_⟩
          walk_at "z"
          refine aS (by rw [show (" and " : Str).length = 5 by decide +kernel]; omega) ?_
          walk_at "z"
          refine Z.ixT (tupT ((kk.trans k4).get nin0 hp')) (j := 2) (v := x) rfl ?_
          walk_at "z"
          refine Z.lstK (fun b5 H5 nb5 k5 e5 => ?_)
          walk_at "z"
          have kk5 := (kk.trans k4).trans k5
          refine ⟨d, x, b5, ["and", "or"], rfl, hdd.kp0 kk5, hg.2, by omega, by omega, e5, fun H6 k6 => ?_⟩
          refine aS (by rw [app_len, show (" and " : Str).length = 5 by decide +kernel]; omega) ?_
          exact q H6 (kk5.trans k6)
        | true =>
          have g2 := parS_len ["or"] d.word (wr d)
          refine Z.no (by show ¬ (("or" : Str) = ("all" : Str)); decide +kernel) ?_
          walk_at "z"
          refine Z.lstK (fun b1 H1 nb1 k1 e1 => ?_)
          refine Z.inq (xs := ([("weight" : Str), "amount"] : List Str).map V.str) (.inl (lstL e1)) rfl Z.strs_flat ?_
          rw [if_neg Bool.false_ne_true, Z.inV_strs]
          walk_at "z"
          refine Z.no (by show ¬ (("or" : Str) ∈ ([("weight" : Str), "amount"] : List Str)); decide +kernel) ?_
          walk_at "z"
          refine Z.lstK (fun b2 H2 nb2 k2 e2 => ?_)
          refine Z.inq (xs := ([("group" : Str), "key"] : List Str).map V.str) (.inl (lstL e2)) rfl Z.strs_flat ?_
          rw [if_neg Bool.false_ne_true, Z.inV_strs]
          walk_at "z"
          refine Z.no (by show ¬ (("or" : Str) ∈ ([("group" : Str), "key"] : List Str)); decide +kernel) ?_
          walk_at "z"
          refine Z.no (by show ¬ (("or" : Str) = ("not" : Str)); decide +kernel) ?_
          walk_at "z"
          refine Z.no (by show ¬ (("or" : Str) = ("and" : Str)); decide +kernel) ?_
          walk_at "z"
          have hp2 := (k1.trans k2).get nin0 hp'
          refine Z.ixT (tupT hp2) (j := 1) (v := u) rfl ?_
          walk_at "z"
          have kk := k1.trans k2
          refine ⟨c, u, rfl, hc.kp0 kk, hg.1, by omega, by omega, fun H4 k4 => ?_⟩
          walk_at "z"
          refine aS (by rw [show (" or " : Str).length = 4 by decide +kernel]; omega) ?_
          walk_at "z"
          refine Z.ixT (tupT ((kk.trans k4).get nin0 hp')) (j := 2) (v := x) rfl ?_
          walk_at "z"
          refine Z.lstK (fun b5 H5 nb5 k5 e5 => ?_)
          walk_at "z"
          have kk5 := (kk.trans k4).trans k5
          refine ⟨d, x, b5, ["or"], rfl, hdd.kp0 kk5, hg.2, by omega, by omega, e5, fun H6 k6 => ?_⟩
          refine aS (by rw [app_len, show (" or " : Str).length = 4 by decide +kernel]; omega) ?_
          exact q H6 (kk5.trans k6)
theorem ok__law_written (T : T P K mg) : FnOk P w K mg base CX0 12 T.a__law_written T.fd__law_written ["condition"] (spLW 5) := lwritten_rec T 5
end

/-! ### what the parser reads -/
def R0 (D : Nat) (t : PT) (ws : List Str) : Prop := ∀ rest, turnF D (ws ++ rest) = .ok (t, rest)
def R1 (D : Nat) (t : PT) (ws : List Str) : Prop := ∀ rest, chain false (turnF D) (ws ++ rest) = chainL false (turnF D) rest.length t rest
def R2 (D : Nat) (t : PT) (ws : List Str) : Prop := ∀ rest, ¬ here rest = "and" → chain true (chain false (turnF D)) (ws ++ rest) = chainL true (chain false (turnF D)) rest.length t rest
theorem chain_ok {o : Bool} {f : List Str → Res} {ws r : List Str} {t : PT} (h : f ws = .ok (t, r)) : chain o f ws = chainL o f r.length t r := by
  unfold chain
  simp only [h]
theorem R1.of {D : Nat} {t : PT} {ws : List Str} (h : R0 D t ws) : R1 D t ws := fun rest => chain_ok (h rest)
theorem R1.fin {D : Nat} {t : PT} {ws : List Str} (h : R1 D t ws) {rest : List Str} (hr : ¬ here rest = "and") : chain false (turnF D) (ws ++ rest) = .ok (t, rest) := by
  rw [h rest]
  exact chainL_no (show ¬ here rest = twoW false from hr)
theorem R2.of {D : Nat} {t : PT} {ws : List Str} (h : R1 D t ws) : R2 D t ws := fun rest hr => chain_ok (h.fin hr)
theorem R2.fin {D : Nat} {t : PT} {ws : List Str} (h : R2 D t ws) {rest : List Str} (hr : ¬ here rest = "and") (hr2 : ¬ here rest = "or") : chain true (chain false (turnF D)) (ws ++ rest) = .ok (t, rest) := by
  rw [h rest hr]
  exact chainL_no (show ¬ here rest = twoW true from hr2)
theorem chainL_fuel {o : Bool} {f : List Str → Res} (hf : Shr f) : ∀ {n m : Nat} {t : PT} {ws : List Str}, ws.length ≤ n → ws.length ≤ m → chainL o f n t ws = chainL o f m t ws
  | 0, m, t, ws, h, _ => by
    have : ws = [] := List.length_eq_zero_iff.mp (by omega)
    subst this
    rw [chainL_no (n := m) (by cases o <;> decide +kernel)]; rfl
  | n + 1, 0, t, ws, _, h => by
    have : ws = [] := List.length_eq_zero_iff.mp (by omega)
    subst this
    rw [chainL_no (n := n + 1) (by cases o <;> decide +kernel)]; rfl
  | n + 1, m + 1, t, ws, h1, h2 => by
    by_cases hh : here ws = twoW o
    · have hne := here_ne hh (by cases o <;> decide +kernel)
      have hp : 0 < ws.length := List.length_pos_iff.mpr hne
      cases e : f ws.tail with
      | error x => rw [chainL_err hh e, chainL_err hh e]
      | ok x =>
        obtain ⟨t2, r⟩ := x
        have := hf _ _ _ e
        rw [List.length_tail] at this
        rw [chainL_yes hh e, chainL_yes hh e]
        exact chainL_fuel hf (by omega) (by omega)
    · rw [chainL_no hh, chainL_no hh]
theorem here_cons (w : Str) (r : List Str) : here (w :: r) = w := rfl
theorem R0.par {D : Nat} {t : PT} {ws : List Str} (h : R2 D t ws) : R0 (D + 1) t (("(" : Str) :: (ws ++ [(")" : Str)])) := fun rest => by
  show turnS (some (turnF D)) (("(" : Str) :: (ws ++ [(")" : Str)] ++ rest)) = _
  unfold turnS
  rw [here_cons, if_neg (by decide +kernel)]
  unfold atomF
  rw [here_cons, if_pos rfl]
  show brF (some (chain true (chain false (turnF D)))) _ = _
  unfold brF
  have e : chain true (chain false (turnF D)) (ws ++ [(")" : Str)] ++ rest) = .ok (t, (")" : Str) :: rest) := by
    rw [List.append_assoc]
    exact h.fin (by rw [List.cons_append, here_cons]; decide +kernel) (by rw [List.cons_append, here_cons]; decide +kernel)
  simp only [List.tail_cons, e, here_cons, if_pos]
theorem R0.neg {D : Nat} {t : PT} {ws : List Str} (h : R0 D t ws) : R0 (D + 1) (.neg t) (("not" : Str) :: ws) := fun rest => by
  show turnS (some (turnF D)) (("not" : Str) :: (ws ++ rest)) = _
  unfold turnS
  rw [here_cons, if_pos rfl]
  simp only [List.tail_cons, h rest]
theorem R1.and {D : Nat} {c d : PT} {ws us : List Str} (h1 : R1 D c ws) (h2 : R0 D d us) : R1 D (.two false c d) (ws ++ ("and" : Str) :: us) := fun rest => by
  rw [List.append_assoc, h1]
  have e : turnF D ((("and" : Str) :: us ++ rest).tail) = .ok (d, rest) := h2 rest
  have hl : (("and" : Str) :: us ++ rest).length = (us ++ rest).length + 1 := by rw [List.cons_append, List.length_cons]
  rw [hl, chainL_yes (o := false) (show here (("and" : Str) :: us ++ rest) = twoW false from rfl) e]
  exact chainL_fuel (turnF_shr D) (by rw [List.length_append]; omega) (Nat.le_refl _)
theorem R2.or {D : Nat} {c d : PT} {ws us : List Str} (h1 : R2 D c ws) (h2 : R1 D d us) : R2 D (.two true c d) (ws ++ ("or" : Str) :: us) := fun rest hr => by
  rw [List.append_assoc, h1 _ (by rw [List.cons_append, here_cons]; decide +kernel)]
  have e : chain false (turnF D) ((("or" : Str) :: us ++ rest).tail) = .ok (d, rest) := h2.fin hr
  have hl : (("or" : Str) :: us ++ rest).length = (us ++ rest).length + 1 := by rw [List.cons_append, List.length_cons]
  rw [hl, chainL_yes (o := true) (show here (("or" : Str) :: us ++ rest) = twoW true from rfl) e]
  exact chainL_fuel (chain_shr (turnF_shr D)) (by rw [List.length_append]; omega) (Nat.le_refl _)
def numW (n : Int) : List Str := if n < 0 then ["-", nS (-n)] else [nS n]
def leafW : Atom → List Str
  | .cmp a s n => cmpW a :: s :: numW n
  | .grp s => ["group", s]
  | .key s => ["key", s]
  | .all => ["all"]
theorem nums_read : ∀ n ∈ nums, (n < 0 → intW (nS (-n)) = true ∧ ¬ nS (-n) = "0" ∧ withinO (nS (-n)) 0 1000000 = some (-n)) ∧ (¬ n < 0 → ¬ nS n = "-" ∧ intW (nS n) = true ∧ withinO (nS n) 0 1000000 = some n) := by decide +kernel
theorem names_fine : ∀ s ∈ lawNames, fineB s = true := by decide +kernel
theorem grps_fine : ∀ s ∈ grps, fineB s = true := by decide +kernel
theorem numF_eq {ws r1 : List Str} (hr1 : (if here ws = "-" then ws.tail else ws) = r1) : numF ws = if intW (here r1) = false ∨ (here ws = "-" ∧ here r1 = "0") then .error (r1.length, "expected")
      else match withinO (here r1) 0 1000000 with
      | none => .error (r1.length, "range")
      | some n => .ok (if here ws = "-" then -n else n, r1.tail) := by
  subst hr1; rfl
theorem numF_reads {n : Int} (h : n ∈ nums) (rest : List Str) : numF (numW n ++ rest) = .ok (n, rest) := by
  obtain ⟨h1, h2⟩ := nums_read n h
  unfold numW
  by_cases hn : n < 0
  · obtain ⟨a, b, c⟩ := h1 hn
    rw [if_pos hn]
    show numF (("-" : Str) :: nS (-n) :: rest) = _
    rw [numF_eq (r1 := nS (-n) :: rest) (by rw [here_cons, if_pos rfl]; rfl)]
    simp only [here_cons]
    rw [if_neg (by
      rintro (h | ⟨_, h⟩)
      · rw [a] at h; cases h
      · exact b h), c]
    show Except.ok (if ("-" : Str) = "-" then - -n else -n, rest) = _
    rw [if_pos rfl, Int.neg_neg]
  · obtain ⟨a, b, c⟩ := h2 hn
    rw [if_neg hn]
    show numF (nS n :: rest) = _
    rw [numF_eq (r1 := nS n :: rest) (by rw [here_cons, if_neg a])]
    have hneg : ¬ (intW (here (nS n :: rest)) = false ∨ (here (nS n :: rest) = "-" ∧ here (nS n :: rest) = "0")) := by
      rintro (h | ⟨h, _⟩)
      · rw [here_cons, b] at h; cases h
      · exact a h
    rw [if_neg hneg, show withinO (here (nS n :: rest)) 0 1000000 = some n from c]
    show Except.ok (if nS n = "-" then -n else n, rest) = _
    rw [if_neg a]
theorem leafF_reads {a : Atom} (h : (PT.leaf a).Good) (rest : List Str) : leafF (leafW a ++ rest) = .ok (.leaf a, rest) := by
  cases a with
  | all =>
    show leafF ("all" :: rest) = _
    unfold leafF
    rw [here_cons, if_pos (by decide +kernel), if_pos rfl]; rfl
  | grp s =>
    show leafF ("group" :: s :: rest) = _
    unfold leafF
    rw [here_cons, if_pos (by decide +kernel), if_neg (by decide +kernel), if_pos (by decide +kernel), if_pos (by show fineB s = true; exact grps_fine s h), if_pos rfl]; rfl
  | key s =>
    show leafF ("key" :: s :: rest) = _
    unfold leafF
    rw [here_cons, if_pos (by decide +kernel), if_neg (by decide +kernel), if_pos (by decide +kernel), if_pos (by show fineB s = true; exact names_fine s h), if_neg (by decide +kernel)]; rfl
  | cmp a s n =>
    have e := leaf_num (ws := cmpW a :: s :: (numW n ++ rest)) (n := n) (r := rest) (by rw [here_cons]; cases a <;> decide +kernel) (by rw [here_cons]; cases a <;> decide +kernel) (by rw [here_cons]; cases a <;> decide +kernel) h.1 (numF_reads h.2 rest)
    show leafF (cmpW a :: s :: (numW n ++ rest)) = _
    rw [e]
    have : decide (here (cmpW a :: s :: (numW n ++ rest)) = "amount") = a := by
      rw [here_cons]
      cases a <;> decide +kernel
    rw [this]; rfl
theorem leafW_head : ∀ {a : Atom}, ∀ rest, here (leafW a ++ rest) = a.word
  | .cmp a s n, _ => rfl
  | .grp s, _ => rfl
  | .key s, _ => rfl
  | .all, _ => rfl
theorem word_not : ∀ {a : Atom}, ¬ a.word = "not" ∧ ¬ a.word = "(" ∧ ¬ a.word ∈ ([("and" : Str), "or"] : List Str) ∧ ¬ a.word ∈ ([("or" : Str)] : List Str)
  | .cmp true s n => by show ¬ (("amount" : Str) = "not") ∧ ¬ (("amount" : Str) = "(") ∧ ¬ (("amount" : Str) ∈ ([("and" : Str), "or"] : List Str)) ∧ ¬ (("amount" : Str) ∈ ([("or" : Str)] : List Str)); decide +kernel
  | .cmp false s n => by show ¬ (("weight" : Str) = "not") ∧ ¬ (("weight" : Str) = "(") ∧ ¬ (("weight" : Str) ∈ ([("and" : Str), "or"] : List Str)) ∧ ¬ (("weight" : Str) ∈ ([("or" : Str)] : List Str)); decide +kernel
  | .grp s => by show ¬ (("group" : Str) = "not") ∧ ¬ (("group" : Str) = "(") ∧ ¬ (("group" : Str) ∈ ([("and" : Str), "or"] : List Str)) ∧ ¬ (("group" : Str) ∈ ([("or" : Str)] : List Str)); decide +kernel
  | .key s => by show ¬ (("key" : Str) = "not") ∧ ¬ (("key" : Str) = "(") ∧ ¬ (("key" : Str) ∈ ([("and" : Str), "or"] : List Str)) ∧ ¬ (("key" : Str) ∈ ([("or" : Str)] : List Str)); decide +kernel
  | .all => by show ¬ (("all" : Str) = "not") ∧ ¬ (("all" : Str) = "(") ∧ ¬ (("all" : Str) ∈ ([("and" : Str), "or"] : List Str)) ∧ ¬ (("all" : Str) ∈ ([("or" : Str)] : List Str)); decide +kernel
theorem R0.leaf {D : Nat} {a : Atom} (h : (PT.leaf a).Good) : R0 D (.leaf a) (leafW a) := fun rest => by
  have e : ∀ dn, turnS dn (leafW a ++ rest) = .ok (.leaf a, rest) := fun dn => by
    unfold turnS
    rw [if_neg (by rw [leafW_head]; exact word_not.1)]
    unfold atomF
    rw [if_neg (by rw [leafW_head]; exact word_not.2.1)]
    exact leafF_reads h rest
  cases D with
  | zero => exact e _
  | succ D => exact e _
def pw (ws : List Str) (w : Str) (us : List Str) : List Str := if w ∈ ws then ("(" : Str) :: (us ++ [(")" : Str)]) else us
def tw : PT → List Str
  | .leaf a => leafW a
  | .neg c => ("not" : Str) :: pw ["and", "or"] c.word (tw c)
  | .two false c d => pw ["or"] c.word (tw c) ++ ("and" : Str) :: pw ["and", "or"] d.word (tw d)
  | .two true c d => tw c ++ ("or" : Str) :: pw ["or"] d.word (tw d)
def twL : PT → List Str
  | .leaf a => leafW a
  | .neg c => ("not" : Str) :: ("(" : Str) :: (twL c ++ [(")" : Str)])
  | .two o c d => (("(" : Str) :: (twL c ++ [(")" : Str)])) ++ twoW o :: ("(" : Str) :: (twL d ++ [(")" : Str)])
theorem reads : ∀ {t : PT}, t.Good → ∀ {D : Nat}, 2 * t.dep ≤ D → R2 D t (tw t) ∧ (¬ t.word ∈ ([("or" : Str)] : List Str) → R1 D t (tw t)) ∧ (¬ t.word ∈ ([("and" : Str), "or"] : List Str) → R0 D t (tw t))
  | .leaf a, h, D, hD => ⟨R2.of (R1.of (R0.leaf h)), fun _ => R1.of (R0.leaf h), fun _ => R0.leaf h⟩
  | .neg c, h, D, hD => by
    have hD' : 2 * (c.dep + 1) ≤ D := hD
    obtain ⟨D, rfl⟩ : ∃ D', D = D' + 2 := ⟨D - 2, by omega⟩
    have h0 : R0 (D + 2) (.neg c) (tw (.neg c)) := by
      refine R0.neg ?_
      unfold pw
      split
      · exact R0.par (reads (t := c) h (D := D) (by omega)).1
      · rename_i hn
        exact (reads (t := c) h (D := D + 1) (by omega)).2.2 hn
    exact ⟨R2.of (R1.of h0), fun _ => R1.of h0, fun _ => h0⟩
  | .two false c d, h, D, hD => by
    have hD' : 2 * (max c.dep d.dep + 1) ≤ D := hD
    obtain ⟨D, rfl⟩ : ∃ D', D = D' + 2 := ⟨D - 2, by omega⟩
    have h1 : R1 (D + 2) c (pw ["or"] c.word (tw c)) := by
      unfold pw
      split
      · exact R1.of (R0.par (reads (t := c) h.1 (D := D + 1) (by omega)).1)
      · rename_i hn
        exact (reads (t := c) h.1 (D := D + 2) (by omega)).2.1 hn
    have h2 : R0 (D + 2) d (pw ["and", "or"] d.word (tw d)) := by
      unfold pw
      split
      · exact R0.par (reads (t := d) h.2 (D := D + 1) (by omega)).1
      · rename_i hn
        exact (reads (t := d) h.2 (D := D + 2) (by omega)).2.2 hn
    have h3 : R1 (D + 2) (.two false c d) (tw (.two false c d)) := R1.and h1 h2
    exact ⟨R2.of h3, fun _ => h3, fun hn => absurd (show ("and" : Str) ∈ ([("and" : Str), "or"] : List Str) by decide +kernel) hn⟩
  | .two true c d, h, D, hD => by
    have hD' : 2 * (max c.dep d.dep + 1) ≤ D := hD
    obtain ⟨D, rfl⟩ : ∃ D', D = D' + 2 := ⟨D - 2, by omega⟩
    have h1 : R1 (D + 2) d (pw ["or"] d.word (tw d)) := by
      unfold pw
      split
      · exact R1.of (R0.par (reads (t := d) h.2 (D := D + 1) (by omega)).1)
      · rename_i hn
        exact (reads (t := d) h.2 (D := D + 2) (by omega)).2.1 hn
    have h3 : R2 (D + 2) (.two true c d) (tw (.two true c d)) := R2.or (reads (t := c) h.1 (D := D + 2) (by omega)).1 h1
    exact ⟨h3, fun hn => absurd (show ("or" : Str) ∈ ([("or" : Str)] : List Str) by decide +kernel) hn, fun hn => absurd (show ("or" : Str) ∈ ([("and" : Str), "or"] : List Str) by decide +kernel) hn⟩
theorem readsL : ∀ {t : PT}, t.Good → ∀ {D : Nat}, 2 * t.dep ≤ D → R2 D t (twL t)
  | .leaf a, h, D, hD => R2.of (R1.of (R0.leaf h))
  | .neg c, h, D, hD => by
    have hD' : 2 * (c.dep + 1) ≤ D := hD
    obtain ⟨D, rfl⟩ : ∃ D', D = D' + 2 := ⟨D - 2, by omega⟩
    exact R2.of (R1.of (R0.neg (R0.par (readsL (t := c) h (D := D) (by omega)))))
  | .two false c d, h, D, hD => by
    have hD' : 2 * (max c.dep d.dep + 1) ≤ D := hD
    obtain ⟨D, rfl⟩ : ∃ D', D = D' + 2 := ⟨D - 2, by omega⟩
    exact R2.of (R1.and (R1.of (R0.par (readsL (t := c) h.1 (D := D + 1) (by omega)))) (R0.par (readsL (t := d) h.2 (D := D + 1) (by omega))))
  | .two true c d, h, D, hD => by
    have hD' : 2 * (max c.dep d.dep + 1) ≤ D := hD
    obtain ⟨D, rfl⟩ : ∃ D', D = D' + 2 := ⟨D - 2, by omega⟩
    exact R2.or (R2.of (R1.of (R0.par (readsL (t := c) h.1 (D := D + 1) (by omega))))) (R1.of (R0.par (readsL (t := d) h.2 (D := D + 1) (by omega))))
theorem whole_of {t : PT} {ws : List Str} (h : R2 20 t ws) : wholeF ws = .ok t := by
  have e := h.fin (rest := []) (by decide +kernel) (by decide +kernel)
  rw [List.append_nil] at e
  unfold wholeF topF
  simp only [e, if_pos]

/-! ### words of texts -/
def shT (b : Nat) (l : List (Str × Nat)) : List (Str × Nat) := l.map fun t => (t.1, t.2 + b)
/-- a text with these words, and at its end (of xl signs) words with their columns told -/
def RdG (lx : List (Str × Nat)) (xl : Nat) (s : List Nat) (ws : List Str) : Prop := xl ≤ s.length ∧ ∀ n a, s.length < n → ∃ l, toks n s a = .ok (l ++ shT (a + (s.length - xl)) lx) ∧ l.map Prod.fst ++ lx.map Prod.fst = ws
theorem Rd_nil : RdG [] 0 [] [] := ⟨Nat.le_refl _, fun n a h => by
  obtain ⟨n, rfl⟩ : ∃ m, n = m + 1 := ⟨n - 1, by simp at h; omega⟩
  exact ⟨[], rfl, rfl⟩⟩
section
variable {lx : List (Str × Nat)} {xl : Nat}
theorem RdG.sp {s : List Nat} {ws : List Str} (h : RdG lx xl s ws) : RdG lx xl (32 :: s) ws := by
  obtain ⟨h0, h⟩ := h
  refine ⟨by rw [List.length_cons]; omega, fun n a hn => ?_⟩
  rw [List.length_cons] at hn ⊢
  obtain ⟨n, rfl⟩ : ∃ m, n = m + 1 := ⟨n - 1, by omega⟩
  rw [toks, if_pos rfl]
  obtain ⟨l, e1, e2⟩ := h n (a + 1) (by omega)
  exact ⟨l, by rw [e1, show a + 1 + (s.length - xl) = a + (s.length + 1 - xl) by omega], e2⟩
theorem RdG.word {w : Str} {s : List Nat} {ws : List Str} (hw : wordLen (TL.tl w ++ s) = some (TL.tl w).length) (h0 : ∀ c, (TL.tl w).head? = some c → ¬ c = 32) (hne : TL.tl w ≠ []) (h : RdG lx xl s ws) : RdG lx xl (TL.tl w ++ s) (w :: ws) := by
  obtain ⟨hx, h⟩ := h
  refine ⟨by rw [List.length_append]; omega, fun n a hn => ?_⟩
  obtain ⟨c, r, hr⟩ : ∃ c r, TL.tl w = c :: r := by
    cases e : TL.tl w with
    | nil => exact absurd e hne
    | cons c r => exact ⟨c, r, rfl⟩
  rw [hr] at hw h0 hn ⊢
  have hl : ((c :: r) ++ s).length = r.length + 1 + s.length := by rw [List.length_append, List.length_cons]
  rw [hl] at hn ⊢
  obtain ⟨n, rfl⟩ : ∃ m, n = m + 1 := ⟨n - 1, by omega⟩
  rw [List.cons_append] at hw ⊢
  rw [toks, if_neg (h0 c rfl), hw]
  dsimp only
  have hd : (c :: (r ++ s)).drop (c :: r).length = s := by rw [← List.cons_append, List.drop_left]
  have ht : (c :: (r ++ s)).take (c :: r).length = c :: r := by rw [← List.cons_append, List.take_left]
  rw [hd, ht]
  obtain ⟨l, e1, e2⟩ := h n (a + (c :: r).length) (by omega)
  rw [e1]
  have hwe : (⟨(c :: r).toArray⟩ : Str) = w := TL.ext_tl (by rw [TL.tl_mk, hr])
  refine ⟨(w, a + 1) :: l, ?_, by rw [List.map_cons, List.cons_append, e2]⟩
  rw [hwe, List.length_cons, show a + (r.length + 1) + (s.length - xl) = a + (r.length + 1 + s.length - xl) by omega]
  rfl
def AW (w : Str) : Prop := TL.tl w ≠ [] ∧ (TL.tl w).all isW = true
instance (w : Str) : Decidable (AW w) := by unfold AW; infer_instance
def Ok (s : List Nat) : Prop := ∀ c, s.head? = some c → isW c = false
theorem Ok.sp {s : List Nat} : Ok (32 :: s) := fun c h => by cases h; decide +kernel
theorem Ok.rb {s : List Nat} : Ok (41 :: s) := fun c h => by cases h; decide +kernel
theorem Ok.lb {s : List Nat} : Ok (40 :: s) := fun c h => by cases h; decide +kernel
theorem Ok.nil : Ok [] := fun c h => by cases h
theorem isW32 : isW 32 = false := by decide +kernel
theorem RdG.aw {w : Str} (hw : AW w) {s : List Nat} (hs : Ok s) {ws : List Str} (h : RdG lx xl s ws) : RdG lx xl (TL.tl w ++ s) (w :: ws) := by
  obtain ⟨hne, hall⟩ := hw
  rw [List.all_eq_true] at hall
  have hpos : 0 < (TL.tl w).length := List.length_pos_iff.mpr hne
  have htw := takeWhile_at (s := TL.tl w ++ s) (j := (TL.tl w).length) (fun i hi => ⟨(TL.tl w)[i], by rw [List.getElem?_append_left hi, List.getElem?_eq_getElem hi], hall _ (List.getElem_mem hi)⟩) (fun c hc => by
    rw [List.getElem?_append_right (Nat.le_refl _), Nat.sub_self] at hc
    exact hs c (by rw [List.head?_eq_getElem?]; exact hc)) (by rw [List.length_append]; omega)
  refine RdG.word ?_ (fun c hc => ?_) hne h
  · unfold wordLen
    rw [htw, if_pos hpos]
  · rintro rfl
    have := hall 32 (List.mem_of_head? hc)
    rw [isW32] at this
    cases this
theorem two_eq {c : Nat} {s : List Nat} {w : Str} : (⟨((c :: s).take 2).toArray⟩ : Str) = w → (c :: s).take 2 = TL.tl w := fun h => by rw [← h, TL.tl_mk]
/-- a sign of one -/
theorem RdG.one {c : Nat} {w : Str} (hw : TL.tl w = [c]) (hc : isW c = false) (ho : c ∈ opsS.cps.toList) {s : List Nat} (hs : c = 60 ∨ c = 62 → ¬ s.head? = some 61) {ws : List Str} (h : RdG lx xl s ws) : RdG lx xl (c :: s) (w :: ws) := by
  have h32 : ¬ c = 32 := fun e => by rw [e] at ho; revert ho; decide +kernel
  have e : RdG lx xl (TL.tl w ++ s) (w :: ws) := by
    refine RdG.word ?_ (fun d hd => ?_) (by rw [hw]; simp) h
    · rw [hw]
      show wordLen (c :: s) = some 1
      unfold wordLen
      rw [List.takeWhile_cons_of_neg (by rw [hc]; decide), if_neg (by decide), if_neg, opLen, if_pos ho]
      intro h2
      have : c :: s.take 1 = [60, 61] ∨ c :: s.take 1 = [62, 61] := by
        rcases h2 with h2 | h2
        · exact .inl ((two_eq h2).trans (by decide +kernel))
        · exact .inr ((two_eq h2).trans (by decide +kernel))
      cases s with
      | nil => rcases this with h | h <;> simp at h
      | cons d r =>
        rcases this with h | h
        · simp at h
          exact hs (.inl h.1) (by rw [h.2]; rfl)
        · simp at h
          exact hs (.inr h.1) (by rw [h.2]; rfl)
    · rw [hw] at hd
      cases hd
      exact h32
  rw [hw] at e
  exact e
theorem RdG.two {w : Str} (hw : w = "<=" ∨ w = ">=") {s : List Nat} {ws : List Str} (h : RdG lx xl s ws) : RdG lx xl (TL.tl w ++ s) (w :: ws) := by
  have ht : TL.tl w = [60, 61] ∨ TL.tl w = [62, 61] := by
    rcases hw with rfl | rfl
    · exact .inl (by decide +kernel)
    · exact .inr (by decide +kernel)
  refine RdG.word ?_ (fun d hd => ?_) (by rcases ht with h | h <;> rw [h] <;> simp) h
  · have hw2 : (⟨((TL.tl w ++ s).take 2).toArray⟩ : Str) = w := TL.ext_tl (by rw [TL.tl_mk]; rcases ht with h | h <;> rw [h] <;> rfl)
    have hh : ((TL.tl w ++ s).takeWhile isW) = [] := by
      rcases ht with h | h <;> rw [h, List.cons_append, List.takeWhile_cons_of_neg (by decide +kernel)]
    unfold wordLen
    rw [hh, if_neg (by decide), hw2, if_pos hw]
    rcases ht with h | h <;> rw [h] <;> rfl
  · rcases ht with h | h <;> rw [h] at hd <;> cases hd <;> decide
theorem RdG.sign {x : Str} (hx : x ∈ signs5) {s : List Nat} (hs : ¬ s.head? = some 61) {ws : List Str} (h : RdG lx xl s ws) : RdG lx xl (TL.tl x ++ s) (x :: ws) := by
  unfold signs5 at hx
  simp only [List.mem_cons, List.not_mem_nil, or_false] at hx
  rcases hx with rfl | rfl | rfl | rfl | rfl
  · exact RdG.one (c := 60) (by decide +kernel) (by decide +kernel) (by decide +kernel) (fun _ => hs) h
  · exact RdG.two (.inl rfl) h
  · exact RdG.one (c := 61) (by decide +kernel) (by decide +kernel) (by decide +kernel) (fun _ => hs) h
  · exact RdG.two (.inr rfl) h
  · exact RdG.one (c := 62) (by decide +kernel) (by decide +kernel) (by decide +kernel) (fun _ => hs) h
theorem RdG.lp {s : List Nat} {ws : List Str} (h : RdG lx xl s ws) : RdG lx xl (40 :: s) (("(" : Str) :: ws) := RdG.one (by decide +kernel) (by decide +kernel) (by decide +kernel) (fun h => by omega) h
theorem RdG.rp {s : List Nat} {ws : List Str} (h : RdG lx xl s ws) : RdG lx xl (41 :: s) ((")" : Str) :: ws) := RdG.one (by decide +kernel) (by decide +kernel) (by decide +kernel) (fun h => by omega) h
theorem RdG.mi {s : List Nat} {ws : List Str} (h : RdG lx xl s ws) : RdG lx xl (45 :: s) (("-" : Str) :: ws) := RdG.one (by decide +kernel) (by decide +kernel) (by decide +kernel) (fun h => by omega) h
theorem nums_aw : ∀ n ∈ nums, (n < 0 → AW (nS (-n)) ∧ TL.tl (nS n) = 45 :: TL.tl (nS (-n))) ∧ (¬ n < 0 → AW (nS n) ∧ ¬ (TL.tl (nS n)).head? = some 61) := by decide +kernel
theorem names_aw : ∀ s ∈ lawNames, AW s := by decide +kernel
theorem grps_aw : ∀ s ∈ grps, AW s := by decide +kernel
theorem cmpW_aw (a : Bool) : AW (cmpW a) := by cases a <;> decide +kernel
theorem twoW_aw (o : Bool) : AW (twoW o) := by cases o <;> decide +kernel
theorem tl_sp : TL.tl (" " : Str) = [32] := by decide +kernel
theorem sp2_sp : ∀ s ∈ sp2, TL.tl s = [] ∨ TL.tl s = [32] := by decide +kernel
theorem sp3_sp : ∀ s ∈ sp3, TL.tl s = [32] ∨ TL.tl s = [32, 32] ∨ TL.tl s = [32, 32, 32] := by decide +kernel
theorem RdG.s2 {z : Str} (hz : z ∈ sp2) {s : List Nat} {ws : List Str} (h : RdG lx xl s ws) : RdG lx xl (TL.tl z ++ s) ws := by
  rcases sp2_sp z hz with e | e <;> rw [e]
  · exact h
  · exact h.sp
theorem RdG.s3 {z : Str} (hz : z ∈ sp3) {s : List Nat} {ws : List Str} (h : RdG lx xl s ws) : RdG lx xl (TL.tl z ++ s) ws ∧ Ok (TL.tl z ++ s) := by
  rcases sp3_sp z hz with e | e | e <;> rw [e]
  · exact ⟨h.sp, Ok.sp⟩
  · exact ⟨h.sp.sp, Ok.sp⟩
  · exact ⟨h.sp.sp.sp, Ok.sp⟩
/-- a number, with a space behind its minus or none -/
theorem RdG.num {n : Int} (hn : n ∈ nums) {z : Str} (hz : z ∈ sp2) {s : List Nat} (hs : Ok s) {ws : List Str} (h : RdG lx xl s ws) : RdG lx xl (TL.tl (if n < 0 then ("-" : Str) ++ z ++ nS (-n) else nS n) ++ s) (numW n ++ ws) ∧ ¬ (TL.tl (if n < 0 then ("-" : Str) ++ z ++ nS (-n) else nS n) ++ s).head? = some 61 := by
  obtain ⟨h1, h2⟩ := nums_aw n hn
  unfold numW
  by_cases hneg : n < 0
  · rw [if_pos hneg, if_pos hneg, TL.tl_append, TL.tl_append, show TL.tl ("-" : Str) = [45] by decide +kernel]
    refine ⟨?_, by simp⟩
    rw [List.append_assoc, List.append_assoc]
    exact RdG.mi (RdG.s2 hz (RdG.aw (h1 hneg).1 hs h))
  · rw [if_neg hneg, if_neg hneg]
    obtain ⟨a, b⟩ := h2 hneg
    refine ⟨RdG.aw a hs h, ?_⟩
    cases e : TL.tl (nS n) with
    | nil => exact absurd e a.1
    | cons c r => rw [e] at b; exact b
theorem nS_eq {n : Int} (hn : n ∈ nums) : TL.tl (nS n) = TL.tl (if n < 0 then ("-" : Str) ++ ("" : Str) ++ nS (-n) else nS n) := by
  by_cases hneg : n < 0
  · rw [if_pos hneg, TL.tl_append, TL.tl_append, ((nums_aw n hn).1 hneg).2]; rfl
  · rw [if_neg hneg]
theorem rd_leaf : ∀ {a : Atom}, (PT.leaf a).Good → ∀ {s : List Nat} {ws : List Str}, Ok s → RdG lx xl s ws → RdG lx xl (TL.tl a.text ++ s) (leafW a ++ ws)
  | .all, _, s, ws, hs, h => RdG.aw (by decide +kernel) hs h
  | .grp x, hg, s, ws, hs, h => by
    show RdG lx xl (TL.tl (("group" : Str) ++ (" " : Str) ++ x) ++ s) (("group" : Str) :: x :: ws)
    rw [TL.tl_append, TL.tl_append, tl_sp, List.append_assoc, List.append_assoc]
    exact RdG.aw (by decide +kernel) Ok.sp (RdG.sp (RdG.aw (grps_aw x hg) hs h))
  | .key x, hg, s, ws, hs, h => by
    show RdG lx xl (TL.tl (("key" : Str) ++ (" " : Str) ++ x) ++ s) (("key" : Str) :: x :: ws)
    rw [TL.tl_append, TL.tl_append, tl_sp, List.append_assoc, List.append_assoc]
    exact RdG.aw (by decide +kernel) Ok.sp (RdG.sp (RdG.aw (names_aw x hg) hs h))
  | .cmp a x n, hg, s, ws, hs, h => by
    show RdG lx xl (TL.tl (cmpW a ++ (" " : Str) ++ x ++ (" " : Str) ++ nS n) ++ s) (cmpW a :: x :: (numW n ++ ws))
    rw [TL.tl_append, TL.tl_append, TL.tl_append, TL.tl_append, tl_sp, nS_eq hg.2]
    simp only [List.append_assoc]
    exact RdG.aw (cmpW_aw a) Ok.sp (RdG.sp (RdG.sign hg.1 (by simp) (RdG.sp (RdG.num hg.2 (by decide +kernel) hs h).1)))
theorem rd_par {w x : Str} {ws us vs : List Str} (hx : ∀ {s : List Nat} {ws : List Str}, Ok s → RdG lx xl s ws → RdG lx xl (TL.tl x ++ s) (us ++ ws)) {s : List Nat} (hs : Ok s) (h : RdG lx xl s vs) : RdG lx xl (TL.tl (parS ws w x) ++ s) (pw ws w us ++ vs) := by
  unfold parS pw
  by_cases hw : w ∈ ws
  · rw [if_pos hw, if_pos hw, TL.tl_append, TL.tl_append, show TL.tl ("(" : Str) = [40] by decide +kernel, show TL.tl (")" : Str) = [41] by decide +kernel]
    simp only [List.append_assoc, List.cons_append, List.nil_append]
    exact RdG.lp (hx Ok.rb (RdG.rp h))
  · rw [if_neg hw, if_neg hw]
    exact hx hs h
theorem rd_wr : ∀ {t : PT}, t.Good → ∀ {s : List Nat} {ws : List Str}, Ok s → RdG lx xl s ws → RdG lx xl (TL.tl (wr t) ++ s) (tw t ++ ws)
  | .leaf a, hg, s, ws, hs, h => rd_leaf hg hs h
  | .neg c, hg, s, ws, hs, h => by
    show RdG lx xl (TL.tl (("not " : Str) ++ parS ["and", "or"] c.word (wr c)) ++ s) (("not" : Str) :: (pw ["and", "or"] c.word (tw c) ++ ws))
    rw [TL.tl_append, show TL.tl ("not " : Str) = TL.tl ("not" : Str) ++ [32] by decide +kernel, List.append_assoc, List.append_assoc]
    exact RdG.aw (by decide +kernel) Ok.sp (RdG.sp (rd_par (fun h1 h2 => rd_wr (t := c) hg h1 h2) hs h))
  | .two false c d, hg, s, ws, hs, h => by
    show RdG lx xl (TL.tl (parS ["or"] c.word (wr c) ++ (" and " : Str) ++ parS ["and", "or"] d.word (wr d)) ++ s) (pw ["or"] c.word (tw c) ++ ("and" : Str) :: pw ["and", "or"] d.word (tw d) ++ ws)
    rw [TL.tl_append, TL.tl_append, show TL.tl (" and " : Str) = 32 :: (TL.tl ("and" : Str) ++ [32]) by decide +kernel]
    simp only [List.append_assoc, List.cons_append]
    exact rd_par (fun h1 h2 => rd_wr (t := c) hg.1 h1 h2) Ok.sp (RdG.sp (RdG.aw (by decide +kernel) Ok.sp (RdG.sp (rd_par (fun h1 h2 => rd_wr (t := d) hg.2 h1 h2) hs h))))
  | .two true c d, hg, s, ws, hs, h => by
    show RdG lx xl (TL.tl (wr c ++ (" or " : Str) ++ parS ["or"] d.word (wr d)) ++ s) (tw c ++ ("or" : Str) :: pw ["or"] d.word (tw d) ++ ws)
    rw [TL.tl_append, TL.tl_append, show TL.tl (" or " : Str) = 32 :: (TL.tl ("or" : Str) ++ [32]) by decide +kernel]
    simp only [List.append_assoc, List.cons_append]
    exact rd_wr (t := c) hg.1 Ok.sp (RdG.sp (RdG.aw (by decide +kernel) Ok.sp (RdG.sp (rd_par (fun h1 h2 => rd_wr (t := d) hg.2 h1 h2) hs h))))
end
/-- what is read of a text that stands for t -/
theorem parses {t : PT} {z : Str} {ws : List Str} (h1 : RdG [] 0 (TL.tl z) ws) (h2 : R2 20 t ws) : ∃ l, toks (z.cps.size + 1) z.cps.toList 0 = .ok l ∧ wholeF (l.map Prod.fst) = .ok t := by
  obtain ⟨l, e1, e2⟩ := h1.2 (z.cps.size + 1) 0 (by show z.cps.toList.length < _; rw [Array.length_toList]; omega)
  rw [show shT (0 + ((TL.tl z).length - 0)) ([] : List (Str × Nat)) = [] from rfl, List.append_nil] at e1
  rw [List.map_nil, List.append_nil] at e2
  exact ⟨l, e1, by rw [e2]; exact whole_of h2⟩
theorem parses_wr {t : PT} (hg : t.Good) (hd : t.dep ≤ 10) : ∃ l, toks ((wr t).cps.size + 1) (wr t).cps.toList 0 = .ok l ∧ wholeF (l.map Prod.fst) = .ok t := by
  have h := rd_wr hg Ok.nil Rd_nil
  rw [List.append_nil, List.append_nil] at h
  exact parses h (reads hg (by omega)).1

/-! ### how deep what is written of a tree goes -/
def pnF (ws : List Str) (w : Str) (n : Nat) : Nat := if w ∈ ws then n + 1 else n
def nd : PT → Nat
  | .leaf _ => 0
  | .neg c => pnF ["and", "or"] c.word (nd c) + 1
  | .two false c d => max (pnF ["or"] c.word (nd c)) (pnF ["and", "or"] d.word (nd d))
  | .two true c d => max (nd c) (pnF ["or"] d.word (nd d))
theorem pn_ge (ws : List Str) (w : Str) (n : Nat) : n ≤ pnF ws w n := by
  unfold pnF
  split <;> omega
theorem pn_le (ws : List Str) (w : Str) (n : Nat) : pnF ws w n ≤ n + 1 := by
  unfold pnF
  split <;> omega
theorem pn_or (w : Str) (n : Nat) : pnF ["or"] w n ≤ pnF ["and", "or"] w n := by
  unfold pnF
  by_cases h : w ∈ ([("or" : Str)] : List Str)
  · rw [if_pos h, if_pos (by rw [List.mem_singleton.mp h]; decide +kernel)]; exact Nat.le_refl _
  · rw [if_neg h]
    split <;> omega
/-- leaves that are read back -/
def LfOk (a : Atom) : Prop := ∀ rest, leafF (leafW a ++ rest) = .ok (.leaf a, rest)
def Lfs : PT → Prop
  | .leaf a => LfOk a
  | .neg c => Lfs c
  | .two _ c d => Lfs c ∧ Lfs d
theorem R0.leafG {D : Nat} {a : Atom} (h : LfOk a) : R0 D (.leaf a) (leafW a) := fun rest => by
  have e : ∀ dn, turnS dn (leafW a ++ rest) = .ok (.leaf a, rest) := fun dn => by
    unfold turnS
    rw [if_neg (by rw [leafW_head]; exact word_not.1)]
    unfold atomF
    rw [if_neg (by rw [leafW_head]; exact word_not.2.1)]
    exact h rest
  cases D with
  | zero => exact e _
  | succ D => exact e _
/-- what is written of a tree is read back to it, where it does not go too deep -/
theorem reads_nd : ∀ {t : PT}, Lfs t → ∀ {D : Nat}, nd t ≤ D → R2 D t (tw t) ∧ (¬ t.word ∈ ([("or" : Str)] : List Str) → R1 D t (tw t)) ∧ (¬ t.word ∈ ([("and" : Str), "or"] : List Str) → R0 D t (tw t))
  | .leaf a, h, D, hD => ⟨R2.of (R1.of (R0.leafG h)), fun _ => R1.of (R0.leafG h), fun _ => R0.leafG h⟩
  | .neg c, h, D, hD => by
    have hD' : pnF ["and", "or"] c.word (nd c) + 1 ≤ D := hD
    obtain ⟨D, rfl⟩ : ∃ D', D = D' + 1 := ⟨D - 1, by omega⟩
    have h0 : R0 (D + 1) (.neg c) (tw (.neg c)) := by
      refine R0.neg ?_
      unfold pnF at hD'
      unfold pw
      split
      · rename_i hc
        rw [if_pos hc] at hD'
        obtain ⟨D, rfl⟩ : ∃ D', D = D' + 1 := ⟨D - 1, by omega⟩
        exact R0.par (reads_nd (t := c) h (D := D) (by omega)).1
      · rename_i hn
        rw [if_neg hn] at hD'
        exact (reads_nd (t := c) h (D := D) (by omega)).2.2 hn
    exact ⟨R2.of (R1.of h0), fun _ => R1.of h0, fun _ => h0⟩
  | .two false c d, h, D, hD => by
    have hD' : max (pnF ["or"] c.word (nd c)) (pnF ["and", "or"] d.word (nd d)) ≤ D := hD
    have h1 : R1 D c (pw ["or"] c.word (tw c)) := by
      have hc : pnF ["or"] c.word (nd c) ≤ D := by omega
      unfold pnF at hc
      unfold pw
      split
      · rename_i hm
        rw [if_pos hm] at hc
        obtain ⟨D, rfl⟩ : ∃ D', D = D' + 1 := ⟨D - 1, by omega⟩
        exact R1.of (R0.par (reads_nd (t := c) h.1 (D := D) (by omega)).1)
      · rename_i hn
        rw [if_neg hn] at hc
        exact (reads_nd (t := c) h.1 (D := D) hc).2.1 hn
    have h2 : R0 D d (pw ["and", "or"] d.word (tw d)) := by
      have hc : pnF ["and", "or"] d.word (nd d) ≤ D := by omega
      unfold pnF at hc
      unfold pw
      split
      · rename_i hm
        rw [if_pos hm] at hc
        obtain ⟨D, rfl⟩ : ∃ D', D = D' + 1 := ⟨D - 1, by omega⟩
        exact R0.par (reads_nd (t := d) h.2 (D := D) (by omega)).1
      · rename_i hn
        rw [if_neg hn] at hc
        exact (reads_nd (t := d) h.2 (D := D) hc).2.2 hn
    have h3 : R1 D (.two false c d) (tw (.two false c d)) := R1.and h1 h2
    exact ⟨R2.of h3, fun _ => h3, fun hn => absurd (show ("and" : Str) ∈ ([("and" : Str), "or"] : List Str) by decide +kernel) hn⟩
  | .two true c d, h, D, hD => by
    have hD' : max (nd c) (pnF ["or"] d.word (nd d)) ≤ D := hD
    have h1 : R1 D d (pw ["or"] d.word (tw d)) := by
      have hc : pnF ["or"] d.word (nd d) ≤ D := by omega
      unfold pnF at hc
      unfold pw
      split
      · rename_i hm
        rw [if_pos hm] at hc
        obtain ⟨D, rfl⟩ : ∃ D', D = D' + 1 := ⟨D - 1, by omega⟩
        exact R1.of (R0.par (reads_nd (t := d) h.2 (D := D) (by omega)).1)
      · rename_i hn
        rw [if_neg hn] at hc
        exact (reads_nd (t := d) h.2 (D := D) hc).2.1 hn
    have h3 : R2 D (.two true c d) (tw (.two true c d)) := R2.or (reads_nd (t := c) h.1 (D := D) (by omega)).1 h1
    exact ⟨h3, fun hn => absurd (show ("or" : Str) ∈ ([("or" : Str)] : List Str) by decide +kernel) hn, fun hn => absurd (show ("or" : Str) ∈ ([("and" : Str), "or"] : List Str) by decide +kernel) hn⟩
/-! what is parsed goes no deeper than the parser -/
def DpF (D : Nat) (ws : List Str) (f : List Str → Res) : Prop := ∀ us t r, f us = .ok (t, r) → pnF ws t.word (nd t) ≤ D
theorem chainL_dp {D : Nat} {f : List Str → Res} (hf : DpF D ["and", "or"] f) : ∀ {n : Nat} {t : PT} {us : List Str} {t' : PT} {r : List Str}, pnF ["or"] t.word (nd t) ≤ D → chainL false f n t us = .ok (t', r) → pnF ["or"] t'.word (nd t') ≤ D
  | 0, t, us, t', r, h, e => by cases e; exact h
  | n + 1, t, us, t', r, h, e => by
    by_cases hh : here us = twoW false
    · cases e1 : f us.tail with
      | error x => rw [chainL_err hh e1] at e; cases e
      | ok x =>
        obtain ⟨t2, r2⟩ := x
        rw [chainL_yes hh e1] at e
        have h2 := hf _ _ _ e1
        refine chainL_dp hf (t := .two false t t2) ?_ e
        show pnF ["or"] "and" (max (pnF ["or"] t.word (nd t)) (pnF ["and", "or"] t2.word (nd t2))) ≤ D
        unfold pnF at h h2 ⊢
        rw [if_neg (show ¬ ("and" : Str) ∈ ([("or" : Str)] : List Str) by decide +kernel)]
        omega
    · rw [chainL_no hh] at e
      cases e; exact h
theorem chainO_dp {D : Nat} {f : List Str → Res} (hf : DpF D ["or"] f) : ∀ {n : Nat} {t : PT} {us : List Str} {t' : PT} {r : List Str}, nd t ≤ D → chainL true f n t us = .ok (t', r) → nd t' ≤ D
  | 0, t, us, t', r, h, e => by cases e; exact h
  | n + 1, t, us, t', r, h, e => by
    by_cases hh : here us = twoW true
    · cases e1 : f us.tail with
      | error x => rw [chainL_err hh e1] at e; cases e
      | ok x =>
        obtain ⟨t2, r2⟩ := x
        rw [chainL_yes hh e1] at e
        have h2 := hf _ _ _ e1
        refine chainO_dp hf (t := .two true t t2) ?_ e
        show max (nd t) (pnF ["or"] t2.word (nd t2)) ≤ D
        omega
    · rw [chainL_no hh] at e
      cases e; exact h
theorem chain_ok_of {o : Bool} {f : List Str → Res} {us r : List Str} {t : PT} (h : chain o f us = .ok (t, r)) : ∃ t1 r1, f us = .ok (t1, r1) ∧ chainL o f r1.length t1 r1 = .ok (t, r) := by
  unfold chain at h
  cases e : f us with
  | error x => rw [e] at h; cases h
  | ok x =>
    obtain ⟨t1, r1⟩ := x
    rw [e] at h
    exact ⟨t1, r1, rfl, h⟩
theorem both_dp {D : Nat} {f : List Str → Res} (hf : DpF D ["and", "or"] f) : DpF D ["or"] (chain false f) := fun us t r h => by
  obtain ⟨t1, r1, e1, e2⟩ := chain_ok_of h
  exact chainL_dp hf (Nat.le_trans (pn_or _ _) (hf _ _ _ e1)) e2
theorem either_dp {D : Nat} {f : List Str → Res} (hf : DpF D ["or"] f) {us r : List Str} {t : PT} (h : chain true f us = .ok (t, r)) : nd t ≤ D := by
  obtain ⟨t1, r1, e1, e2⟩ := chain_ok_of h
  exact chainO_dp hf (Nat.le_trans (pn_ge _ _ _) (hf _ _ _ e1)) e2
theorem leafF_leaf {ws r : List Str} {t : PT} (h : leafF ws = .ok (t, r)) : ∃ a, t = .leaf a := by
  unfold leafF at h
  split at h
  · split at h
    · cases h; exact ⟨_, rfl⟩
    · split at h
      · split at h
        · cases h; exact ⟨_, rfl⟩
        · cases h
      · split at h
        · split at h
          · cases h; exact ⟨_, rfl⟩
          · cases h
        · cases h
  · cases h
theorem turnS_dp {D : Nat} {dn : Option (List Str → Res)} (hD : dn = none ↔ D = 0) (hf : ∀ f, dn = some f → DpF (D - 1) ["and", "or"] f) : DpF D ["and", "or"] (turnS dn) := fun us t r h => by
  have leaf : ∀ {a : Atom}, pnF ["and", "or"] (PT.leaf a).word (nd (.leaf a)) ≤ D := fun {a} => by
    unfold pnF
    rw [if_neg (show ¬ (PT.leaf a).word ∈ ([("and" : Str), "or"] : List Str) from word_not.2.2.1)]
    exact Nat.zero_le _
  unfold turnS at h
  split at h
  · cases dn with
    | none => cases h
    | some f =>
      dsimp only at h
      cases e : f us.tail with
      | error x => rw [e] at h; cases h
      | ok x =>
        obtain ⟨t1, r1⟩ := x
        rw [e] at h
        cases h
        have h1 := hf f rfl _ _ _ e
        have hpos : D ≠ 0 := fun z => by have := hD.mpr z; cases this
        show pnF ["and", "or"] "not" (pnF ["and", "or"] t1.word (nd t1) + 1) ≤ D
        generalize pnF ["and", "or"] t1.word (nd t1) = m at h1
        unfold pnF
        rw [if_neg (by decide +kernel)]
        omega
  · unfold atomF at h
    split at h
    · cases dn with
      | none => cases h
      | some f =>
        have hpos : D ≠ 0 := fun z => by have := hD.mpr z; cases this
        simp only [Option.map, brF] at h
        cases e : chain true (chain false f) us.tail with
        | error x => rw [e] at h; cases h
        | ok x =>
          obtain ⟨t1, r1⟩ := x
          rw [e] at h
          dsimp only at h
          split at h
          · cases h
            have h1 := either_dp (both_dp (hf f rfl)) e
            have h2 := pn_le ["and", "or"] t.word (nd t)
            omega
          · cases h
    · obtain ⟨a, rfl⟩ := leafF_leaf h
      exact leaf
theorem turnF_dp : ∀ D, DpF D ["and", "or"] (turnF D)
  | 0 => turnS_dp ⟨fun _ => rfl, fun _ => rfl⟩ fun f h => by cases h
  | D + 1 => turnS_dp ⟨fun h => (by cases h), fun h => absurd h (by omega)⟩ fun f h => by
    cases h
    exact turnF_dp D
/-- a parsed tree can be read back as it is written -/
theorem whole_dp {ws : List Str} {t : PT} (h : wholeF ws = .ok t) : nd t ≤ 20 := by
  unfold wholeF at h
  cases e : topF ws with
  | error x => rw [e] at h; cases h
  | ok x =>
    obtain ⟨t1, r⟩ := x
    rw [e] at h
    dsimp only at h
    split at h
    · cases h
      exact either_dp (both_dp (turnF_dp 20)) e
    · cases h

/-! ### a word that writes an integer is the text of this integer -/
theorem numL_of : ∀ (n : Nat) (cs : List Nat), cs.length = n → NumText.AllDigits cs → cs ≠ [] → (cs.headD 0 ≠ 48 ∨ cs = [48]) → TL.numL (NumText.digitsVal cs) = cs
  | 0, cs, hn, _, h1, _ => absurd (List.length_eq_zero_iff.mp hn) h1
  | n + 1, cs, hn, hd, h1, h2 => by
    obtain ⟨l, c, rfl⟩ : ∃ l c, cs = l ++ [c] := ⟨cs.dropLast, cs.getLast h1, (List.dropLast_concat_getLast h1).symm⟩
    have hc : 48 ≤ c ∧ c ≤ 57 := hd c (by simp)
    rw [PySem.NumText.digitsVal_snoc]
    cases l with
    | nil =>
      have e : NumText.digitsVal [] * 10 + (c - 48) = c - 48 := by simp [NumText.digitsVal]
      rw [e, TL.numL_lt (by omega), show 48 + (c - 48) = c by omega]
      rfl
    | cons a r =>
      have ha : (a :: r) ++ [c] ≠ [48] := fun z => by
        have := congrArg List.length z
        simp at this
      have ha2 : a ≠ 48 := by
        rcases h2 with h2 | h2
        · exact h2
        · exact absurd h2 ha
      have ih := numL_of n (a :: r) (by simp at hn ⊢; omega) (fun x hx => hd x (by simp only [List.mem_append]; exact .inl hx)) (by simp) (.inl ha2)
      have hpos : 1 ≤ NumText.digitsVal (a :: r) := by
        rcases Nat.eq_zero_or_pos (NumText.digitsVal (a :: r)) with z | z
        · rw [z, TL.numL_lt (by decide)] at ih
          exact absurd (by injection ih with h; exact h.symm) ha2
        · exact z
      generalize NumText.digitsVal (a :: r) = v at ih hpos
      rw [TL.numL_step (by omega), show (v * 10 + (c - 48)) / 10 = v by omega, show (v * 10 + (c - 48)) % 10 = c - 48 by omega, show 48 + (c - 48) = c by omega, ih]
theorem digs_of {s : Str} (h : allIn s digits10 = true) : NumText.AllDigits s.cps.toList := fun c hc => (dig_iff c).mp (of_decide_eq_true (List.all_eq_true.mp h c hc))
theorem first_ne {s : Str} (h : firstIs0 s = false) : s.cps.toList.headD 0 ≠ 48 := fun z => by
  unfold firstIs0 at h
  rw [z] at h
  exact absurd h (by decide +kernel)
theorem capW : capOf 0 1000000 = 7 := by decide +kernel
/-- what writes an integer of these bounds, is its text -/
theorem intW_canon {w : Str} (h : intW w = true) {n : Int} (hn : intText? w = some n) (hz : w.length ≤ 640) : w = nS n := by
  unfold intW at h
  by_cases h0 : w = "0"
  · subst h0
    have e : intText? "0" = some 0 := by decide +kernel
    rw [e] at hn
    cases hn
    decide +kernel
  · rw [if_neg h0, Bool.and_eq_true, Bool.and_eq_true] at h
    obtain ⟨h1, h2, h3⟩ := h
    have hf : firstIs0 (bodyOf w) = false := by simpa using h2
    have hd := digs_of h3
    have hne : (bodyOf w).cps.toList ≠ [] := fun z => by
      rw [cps_nil z] at h1
      exact absurd h1 (by decide +kernel)
    have hh := first_ne hf
    have hcan := numL_of _ _ rfl hd hne (.inl hh)
    by_cases hm : ∃ cs, w.cps.toList = 45 :: cs
    · obtain ⟨cs, hcs⟩ := hm
      rw [body_minus hcs] at hd hne hh hcan
      rw [intText_neg hcs hd hne (by omega)] at hn
      have hn := Option.some.inj hn
      have hpos : 1 ≤ NumText.digitsVal cs := by
        rcases Nat.eq_zero_or_pos (NumText.digitsVal cs) with z | z
        · rw [z, TL.numL_lt (by decide)] at hcan
          exact absurd (by rw [← hcan]; rfl) hh
        · exact z
      obtain ⟨m, hm⟩ : ∃ m, NumText.digitsVal cs = m + 1 := ⟨_, (Nat.succ_pred_eq_of_pos hpos).symm⟩
      rw [hm] at hn hcan
      rw [← hn]
      refine TL.ext_tl ?_
      show w.cps.toList = (nS (Int.negSucc m)).cps.toList
      rw [nS_neg, hcs, hcan]
    · rw [body_plain hm] at hd hne hcan
      rw [intText_digits hd hne (by omega)] at hn
      rw [← Option.some.inj hn]
      refine TL.ext_tl ?_
      show w.cps.toList = (nS ((NumText.digitsVal w.cps.toList : Nat) : Int)).cps.toList
      rw [nS_nat, hcan]
theorem within_somek {w : Str} {lo hi n : Int} (h : withinO w lo hi = some n) (hc : capOf lo hi ≤ 600) : intW w = true ∧ intText? w = some n ∧ w.length ≤ 640 ∧ lo ≤ n ∧ n ≤ hi := by
  unfold withinO at h
  split at h
  · cases h
  · rename_i h1
    split at h
    · rename_i h2
      split at h
      · rename_i m hm
        split at h
        · rename_i h3
          cases h
          exact ⟨h2, hm, by show w.cps.size ≤ 640; omega, h3.1, h3.2⟩
        · cases h
      · cases h
    · cases h
theorem within_canon {w : Str} {lo hi n : Int} (h : withinO w lo hi = some n) (hc : capOf lo hi ≤ 600) : w = nS n ∧ intW w = true ∧ lo ≤ n ∧ n ≤ hi := by
  obtain ⟨h1, h2, h3, h4, h5⟩ := within_somek h hc
  exact ⟨intW_canon h1 h2 h3, h1, h4, h5⟩

/-! ### leaves that can be parsed -/
def Fit : Atom → Prop
  | .cmp _ s n => s ∈ signs5 ∧ n.natAbs ≤ 1000000
  | .grp s => fineB s = true
  | .key s => fineB s = true
  | .all => True
def Fits : PT → Prop
  | .leaf a => Fit a
  | .neg c => Fits c
  | .two _ c d => Fits c ∧ Fits d
theorem cons_here {ws : List Str} {w : Str} (h : here ws = w) (hw : ¬ w = "") : ws = w :: ws.tail := by
  cases ws with
  | nil => exact absurd h.symm hw
  | cons a r => rw [show a = w from h]; rfl
theorem fine_ne {s : Str} (h : fineB s = true) : ¬ s = "" := fun z => by
  rw [z] at h
  exact absurd h (by decide +kernel)
theorem sign_ne {s : Str} (h : s ∈ signs5) : ¬ s = "" := fun z => by
  rw [z] at h
  exact absurd h (by decide +kernel)
theorem intW_ne {s : Str} (h : intW s = true) : ¬ s = "" := fun z => by
  rw [z] at h
  exact absurd h (by decide +kernel)
theorem cap7 : capOf 0 1000000 ≤ 600 := by decide +kernel
theorem nS0 : nS 0 = "0" := by decide +kernel
theorem numF_fit {ws r : List Str} {n : Int} (h : numF ws = .ok (n, r)) : n.natAbs ≤ 1000000 ∧ ws = numW n ++ r := by
  by_cases hm : here ws = "-"
  · rw [numF_eq (r1 := ws.tail) (if_pos hm)] at h
    by_cases hb : intW (here ws.tail) = false ∨ (here ws = "-" ∧ here ws.tail = "0")
    · rw [if_pos hb] at h; cases h
    · rw [if_neg hb] at h
      cases hw : withinO (here ws.tail) 0 1000000 with
      | none => rw [hw] at h; cases h
      | some m =>
        rw [hw] at h
        dsimp only at h
        rw [if_pos hm] at h
        cases h
        obtain ⟨h1, h2, h3, h4⟩ := within_canon hw cap7
        have hm0 : ¬ m = 0 := fun z => hb (.inr ⟨hm, by rw [h1, z, nS0]⟩)
        refine ⟨by omega, ?_⟩
        unfold numW
        rw [if_pos (by omega), Int.neg_neg, ← h1]
        have e1 := cons_here hm (by decide +kernel)
        have e2 := cons_here (ws := ws.tail) rfl (intW_ne h2)
        show ws = ("-" : Str) :: here ws.tail :: ws.tail.tail
        rw [← e2]
        exact e1
  · rw [numF_eq (r1 := ws) (if_neg hm)] at h
    by_cases hb : intW (here ws) = false ∨ (here ws = "-" ∧ here ws = "0")
    · rw [if_pos hb] at h; cases h
    · rw [if_neg hb] at h
      cases hw : withinO (here ws) 0 1000000 with
      | none => rw [hw] at h; cases h
      | some m =>
        rw [hw] at h
        dsimp only at h
        rw [if_neg hm] at h
        cases h
        obtain ⟨h1, h2, h3, h4⟩ := within_canon hw cap7
        refine ⟨by omega, ?_⟩
        unfold numW
        rw [if_neg (by omega), ← h1]
        exact cons_here rfl (intW_ne h2)
theorem leafF_fit {ws r : List Str} {t : PT} (h : leafF ws = .ok (t, r)) : ∃ a, t = .leaf a ∧ Fit a ∧ ws = leafW a ++ r := by
  unfold leafF at h
  split at h
  · rename_i ha
    split at h
    · rename_i h1
      cases h
      exact ⟨.all, rfl, trivial, cons_here h1 (by decide +kernel)⟩
    · rename_i h1
      split at h
      · rename_i h2
        split at h
        · rename_i h3
          have e2 := cons_here (ws := ws.tail) rfl (fine_ne h3)
          by_cases hg : here ws = "group"
          · rw [if_pos hg] at h
            cases h
            refine ⟨.grp (here ws.tail), rfl, h3, ?_⟩
            show ws = ("group" : Str) :: here ws.tail :: ws.tail.tail
            rw [← e2]
            exact cons_here hg (by decide +kernel)
          · rw [if_neg hg] at h
            cases h
            refine ⟨.key (here ws.tail), rfl, h3, ?_⟩
            show ws = ("key" : Str) :: here ws.tail :: ws.tail.tail
            rw [← e2]
            simp only [List.mem_cons, List.not_mem_nil, or_false] at h2
            exact cons_here (h2.resolve_left hg) (by decide +kernel)
        · cases h
      · rename_i h2
        split at h
        · rename_i h3
          split at h
          · rename_i n r1 hn
            cases h
            obtain ⟨hb, e⟩ := numF_fit hn
            refine ⟨_, rfl, ⟨h3, hb⟩, ?_⟩
            show ws = cmpW (decide (here ws = "amount")) :: here ws.tail :: (numW n ++ r)
            rw [← e, cmpW_of ha h1 h2]
            have e2 := cons_here (ws := ws.tail) rfl (sign_ne h3)
            rw [← e2]
            refine cons_here rfl fun z => ?_
            rw [z] at ha
            exact absurd ha (by decide +kernel)
          · cases h
        · cases h
  · cases h
theorem numL_head {n : Nat} (h : 1 ≤ n) : ∃ c r, TL.numL n = c :: r ∧ 49 ≤ c := by
  induction n using Nat.strongRecOn with
  | _ n ih =>
    by_cases h9 : n < 10
    · exact ⟨48 + n, [], TL.numL_lt h9, by omega⟩
    · obtain ⟨c, r, e, hc⟩ := ih (n / 10) (by omega) (by omega)
      exact ⟨c, r ++ [48 + n % 10], by rw [TL.numL_step (by omega), e]; rfl, hc⟩
theorem nS_nominus (m : Nat) : ¬ ∃ cs, (nS (m : Int)).cps.toList = 45 :: cs := fun ⟨cs, z⟩ => by
  have hd := TL.numL_digits m
  rw [← nS_nat m, z] at hd
  have := hd.head
  omega
theorem nS_ne (m : Nat) : ¬ nS (m : Int) = "" := fun z => by
  have e := nS_nat m
  rw [z] at e
  exact TL.numL_ne m e.symm
theorem nS_intW (m : Nat) : intW (nS (m : Int)) = true := by
  unfold intW
  by_cases h0 : nS (m : Int) = "0"
  · rw [if_pos h0]
  · rw [if_neg h0, body_plain (nS_nominus m), decide_eq_false (nS_ne m)]
    have hm : 1 ≤ m := by
      rcases Nat.eq_zero_or_pos m with z | z
      · rw [z] at h0
        exact absurd nS0 h0
      · exact z
    have ha : allIn (nS (m : Int)) digits10 = true := List.all_eq_true.mpr fun c hc => decide_eq_true ((dig_iff c).mpr (by
      rw [nS_nat] at hc
      exact TL.numL_digits m c hc))
    have hf : firstIs0 (nS (m : Int)) = false := by
      obtain ⟨c, r, e, hc⟩ := numL_head hm
      unfold firstIs0
      rw [nS_nat, e, List.headD_cons]
      refine decide_eq_false fun z => ?_
      have h3 : ([c] : List Nat) = [48] := (congrArg (fun s : Str => s.cps.toList) z).trans (by decide +kernel)
      have : c = 48 := by simpa using h3
      omega
    rw [hf, ha]; rfl
theorem nS_within {m : Nat} (h : m ≤ 1000000) : withinO (nS (m : Int)) 0 1000000 = some (m : Int) := by
  have hl : (TL.numL m).length ≤ 7 := TL.numL_len (by decide) (Nat.lt_of_le_of_lt h (by decide))
  have hs : (nS (m : Int)).cps.size ≤ 7 := by
    have := sz_list (nS (m : Int))
    rw [nS_nat] at this
    show (nS (m : Int)).length ≤ 7
    omega
  unfold withinO
  rw [capW, if_neg (by omega), if_pos (nS_intW m), show nS (m : Int) = Str.ofString (toString (m : Int)) from rfl, TL.int_num (Nat.le_trans hl (by decide))]
  dsimp only
  rw [if_pos (by omega)]
theorem nS_nodash (m : Nat) : ¬ nS (m : Int) = "-" := fun z => nS_nominus m ⟨[], by rw [z]; decide +kernel⟩
theorem numF_back {n : Int} (h : n.natAbs ≤ 1000000) (rest : List Str) : numF (numW n ++ rest) = .ok (n, rest) := by
  unfold numW
  by_cases hn : n < 0
  · obtain ⟨m, hm⟩ : ∃ m : Nat, -n = (m : Int) := ⟨(-n).toNat, by omega⟩
    rw [if_pos hn, hm]
    show numF (("-" : Str) :: nS (m : Int) :: rest) = _
    rw [numF_eq (r1 := nS (m : Int) :: rest) (by rw [here_cons, if_pos rfl]; rfl)]
    have hb : ¬ (intW (here (nS (m : Int) :: rest)) = false ∨ (here (("-" : Str) :: nS (m : Int) :: rest) = "-" ∧ here (nS (m : Int) :: rest) = "0")) := by
      rintro (h | ⟨_, h⟩)
      · rw [here_cons, nS_intW] at h; cases h
      · rw [here_cons] at h
        have e := nS_nat m
        rw [h] at e
        obtain ⟨c, r, e2, hc⟩ := numL_head (n := m) (by omega)
        rw [e2] at e
        have : [48] = c :: r := e
        cases this
        omega
    rw [if_neg hb, show withinO (here (nS (m : Int) :: rest)) 0 1000000 = some (m : Int) from nS_within (by omega)]
    dsimp only
    rw [here_cons, if_pos rfl]
    show Except.ok (-(m : Int), rest) = _
    rw [← hm, Int.neg_neg]
  · obtain ⟨m, rfl⟩ : ∃ m : Nat, n = (m : Int) := ⟨n.toNat, by omega⟩
    rw [if_neg hn]
    show numF (nS (m : Int) :: rest) = _
    rw [numF_eq (r1 := nS (m : Int) :: rest) (by rw [here_cons, if_neg (nS_nodash m)])]
    have hneg : ¬ (intW (here (nS (m : Int) :: rest)) = false ∨ (here (nS (m : Int) :: rest) = "-" ∧ here (nS (m : Int) :: rest) = "0")) := by
      rintro (h | ⟨h, _⟩)
      · rw [here_cons, nS_intW] at h; cases h
      · exact nS_nodash m h
    rw [if_neg hneg, show withinO (here (nS (m : Int) :: rest)) 0 1000000 = some (m : Int) from nS_within (by omega)]
    dsimp only
    rw [here_cons, if_neg (nS_nodash m)]; rfl
theorem fit_lf {a : Atom} (h : Fit a) : LfOk a := fun rest => by
  cases a with
  | all =>
    show leafF ("all" :: rest) = _
    unfold leafF
    rw [here_cons, if_pos (by decide +kernel), if_pos rfl]; rfl
  | grp s =>
    show leafF ("group" :: s :: rest) = _
    unfold leafF
    rw [here_cons, if_pos (by decide +kernel), if_neg (by decide +kernel), if_pos (by decide +kernel), if_pos (by show fineB s = true; exact h), if_pos rfl]; rfl
  | key s =>
    show leafF ("key" :: s :: rest) = _
    unfold leafF
    rw [here_cons, if_pos (by decide +kernel), if_neg (by decide +kernel), if_pos (by decide +kernel), if_pos (by show fineB s = true; exact h), if_neg (by decide +kernel)]; rfl
  | cmp a s n =>
    have e := leaf_num (ws := cmpW a :: s :: (numW n ++ rest)) (n := n) (r := rest) (by rw [here_cons]; cases a <;> decide +kernel) (by rw [here_cons]; cases a <;> decide +kernel) (by rw [here_cons]; cases a <;> decide +kernel) h.1 (numF_back h.2 rest)
    show leafF (cmpW a :: s :: (numW n ++ rest)) = _
    rw [e]
    have : decide (here (cmpW a :: s :: (numW n ++ rest)) = "amount") = a := by
      rw [here_cons]
      cases a <;> decide +kernel
    rw [this]; rfl
theorem fits_lf : ∀ {t : PT}, Fits t → Lfs t
  | .leaf _, h => fit_lf h
  | .neg c, h => fits_lf (t := c) h
  | .two _ c d, h => ⟨fits_lf (t := c) h.1, fits_lf (t := d) h.2⟩
theorem fine_len {s : Str} (h : fineB s = true) : 1 ≤ s.length ∧ s.length ≤ 12 ∧ allIn s signs = true := by
  unfold fineB at h
  rw [Bool.and_eq_true, Bool.and_eq_true, decide_eq_true_eq, decide_eq_true_eq] at h
  exact ⟨h.1, h.2.1, h.2.2⟩
theorem fits_sz : ∀ {t : PT}, Fits t → t.Sz
  | .leaf (.cmp _ s n), h => h
  | .leaf (.grp s), h => (fine_len h).2.1
  | .leaf (.key s), h => (fine_len h).2.1
  | .leaf .all, _ => trivial
  | .neg c, h => fits_sz (t := c) h
  | .two _ c d, h => ⟨fits_sz (t := c) h.1, fits_sz (t := d) h.2⟩
theorem good_fits : ∀ {t : PT}, t.Good → Fits t
  | .leaf (.cmp _ s n), h => ⟨h.1, nums_small n h.2⟩
  | .leaf (.grp s), h => grps_fine s h
  | .leaf (.key s), h => names_fine s h
  | .leaf .all, _ => trivial
  | .neg c, h => good_fits (t := c) h
  | .two _ c d, h => ⟨good_fits (t := c) h.1, good_fits (t := d) h.2⟩

/-! ### what the parser takes: signs other than brackets, and brackets -/
def brk (w : Str) : Bool := decide (w = "(" ∨ w = ")")
def szw (w : Str) : Nat := if brk w then 0 else w.length
def szW (ws : List Str) : Nat := (ws.map szw).sum
def lpw (w : Str) : Nat := if w = "(" then 1 else 0
def lpW (ws : List Str) : Nat := (ws.map lpw).sum
theorem szW_cons (w : Str) (r : List Str) : szW (w :: r) = szw w + szW r := by unfold szW; rw [List.map_cons, List.sum_cons]
theorem lpW_cons (w : Str) (r : List Str) : lpW (w :: r) = lpw w + lpW r := by unfold lpW; rw [List.map_cons, List.sum_cons]
theorem szW_app (a b : List Str) : szW (a ++ b) = szW a + szW b := by unfold szW; rw [List.map_append, List.sum_append]
theorem lpW_app (a b : List Str) : lpW (a ++ b) = lpW a + lpW b := by unfold lpW; rw [List.map_append, List.sum_append]
theorem szW_nil : szW [] = 0 := rfl
theorem lpW_nil : lpW [] = 0 := rfl
theorem szw_not : szw "not" = 3 := by decide +kernel
theorem szw_two (o : Bool) : szw (twoW o) = if o then 2 else 3 := by cases o <;> decide +kernel
theorem szw_lp : szw "(" = 0 := by decide +kernel
theorem szw_rp : szw ")" = 0 := by decide +kernel
theorem lpw_not : lpw "not" = 0 := by decide +kernel
theorem lpw_two (o : Bool) : lpw (twoW o) = 0 := by cases o <;> decide +kernel
theorem lpw_lp : lpw "(" = 1 := by decide +kernel
theorem lpw_rp : lpw ")" = 0 := by decide +kernel
theorem szW_pw (ws : List Str) (w : Str) (us : List Str) : szW (pw ws w us) = szW us := by
  unfold pw
  split
  · rw [szW_cons, szW_app, szW_cons, szw_lp, szw_rp, szW_nil]; omega
  · rfl
theorem lpW_pw (ws : List Str) (w : Str) (us : List Str) : lpW (pw ws w us) = lpW us + if w ∈ ws then 1 else 0 := by
  unfold pw
  split
  · rw [lpW_cons, lpW_app, lpW_cons, lpw_lp, lpw_rp, lpW_nil]; omega
  · rfl
theorem tw_neg (c : PT) : tw (.neg c) = ("not" : Str) :: pw ["and", "or"] c.word (tw c) := rfl
theorem tw_and (c d : PT) : tw (.two false c d) = pw ["or"] c.word (tw c) ++ twoW false :: pw ["and", "or"] d.word (tw d) := rfl
theorem tw_or (c d : PT) : tw (.two true c d) = tw c ++ twoW true :: pw ["or"] d.word (tw d) := rfl
/-- what the parser f takes -/
def Eat (ws : List Str) (f : List Str → Res) : Prop := ∀ us t r, f us = .ok (t, r) → Fits t ∧ szW us = szW (tw t) + szW r ∧ lpW (pw ws t.word (tw t)) + lpW r ≤ lpW us
def Eat0 (f : List Str → Res) : Prop := ∀ us t r, f us = .ok (t, r) → Fits t ∧ szW us = szW (tw t) + szW r ∧ lpW (tw t) + lpW r ≤ lpW us
theorem cons_two {us : List Str} {o : Bool} (h : here us = twoW o) : us = twoW o :: us.tail := cons_here h (by cases o <;> decide +kernel)
theorem chainA_eat {f : List Str → Res} (hf : Eat ["and", "or"] f) : ∀ {n : Nat} {t : PT} {us : List Str} {t' : PT} {r : List Str}, Fits t → chainL false f n t us = .ok (t', r) → Fits t' ∧ szW (tw t) + szW us = szW (tw t') + szW r ∧ lpW (pw ["or"] t'.word (tw t')) + lpW r ≤ lpW (pw ["or"] t.word (tw t)) + lpW us
  | 0, t, us, t', r, h, e => by cases e; exact ⟨h, rfl, Nat.le_refl _⟩
  | n + 1, t, us, t', r, h, e => by
    by_cases hh : here us = twoW false
    · cases e1 : f us.tail with
      | error x => rw [chainL_err hh e1] at e; cases e
      | ok x =>
        obtain ⟨t2, r2⟩ := x
        rw [chainL_yes hh e1] at e
        obtain ⟨f2, s2, l2⟩ := hf _ _ _ e1
        obtain ⟨g1, g2, g3⟩ := chainA_eat hf (t := .two false t t2) ⟨h, f2⟩ e
        have eu := cons_two hh
        have su := congrArg szW eu
        have lu := congrArg lpW eu
        rw [szW_cons, szw_two] at su
        rw [lpW_cons, lpw_two] at lu
        rw [tw_and, szW_app, szW_cons, szW_pw, szW_pw, szw_two] at g2
        rw [show PT.word (.two false t t2) = "and" from rfl, lpW_pw ["or"] "and", if_neg (by decide +kernel), tw_and, lpW_app, lpW_cons, lpw_two] at g3
        exact ⟨g1, by omega, by omega⟩
    · rw [chainL_no hh] at e
      cases e; exact ⟨h, rfl, Nat.le_refl _⟩
theorem chainO_eat {f : List Str → Res} (hf : Eat ["or"] f) : ∀ {n : Nat} {t : PT} {us : List Str} {t' : PT} {r : List Str}, Fits t → chainL true f n t us = .ok (t', r) → Fits t' ∧ szW (tw t) + szW us = szW (tw t') + szW r ∧ lpW (tw t') + lpW r ≤ lpW (tw t) + lpW us
  | 0, t, us, t', r, h, e => by cases e; exact ⟨h, rfl, Nat.le_refl _⟩
  | n + 1, t, us, t', r, h, e => by
    by_cases hh : here us = twoW true
    · cases e1 : f us.tail with
      | error x => rw [chainL_err hh e1] at e; cases e
      | ok x =>
        obtain ⟨t2, r2⟩ := x
        rw [chainL_yes hh e1] at e
        obtain ⟨f2, s2, l2⟩ := hf _ _ _ e1
        obtain ⟨g1, g2, g3⟩ := chainO_eat hf (t := .two true t t2) ⟨h, f2⟩ e
        have eu := cons_two hh
        have su := congrArg szW eu
        have lu := congrArg lpW eu
        rw [szW_cons, szw_two] at su
        rw [lpW_cons, lpw_two] at lu
        rw [tw_or, szW_app, szW_cons, szW_pw, szw_two] at g2
        rw [tw_or, lpW_app, lpW_cons, lpw_two] at g3
        exact ⟨g1, by omega, by omega⟩
    · rw [chainL_no hh] at e
      cases e; exact ⟨h, rfl, Nat.le_refl _⟩
theorem lp_or_le (w : Str) (us : List Str) : lpW (pw ["or"] w us) ≤ lpW (pw ["and", "or"] w us) := by
  rw [lpW_pw, lpW_pw]
  by_cases h : w ∈ ([("or" : Str)] : List Str)
  · rw [if_pos h, if_pos (by rw [List.mem_singleton.mp h]; decide +kernel)]; exact Nat.le_refl _
  · rw [if_neg h]; exact Nat.add_le_add (Nat.le_refl _) (Nat.zero_le _)
theorem lp_le (ws : List Str) (w : Str) (us : List Str) : lpW us ≤ lpW (pw ws w us) := by rw [lpW_pw]; exact Nat.le_add_right _ _
theorem both_eat {f : List Str → Res} (hf : Eat ["and", "or"] f) : Eat ["or"] (chain false f) := fun us t r h => by
  obtain ⟨t1, r1, e1, e2⟩ := chain_ok_of h
  obtain ⟨f1, s1, l1⟩ := hf _ _ _ e1
  obtain ⟨g1, g2, g3⟩ := chainA_eat hf f1 e2
  have := lp_or_le t1.word (tw t1)
  exact ⟨g1, by omega, by omega⟩
theorem either_eat {f : List Str → Res} (hf : Eat ["or"] f) : Eat0 (chain true f) := fun us t r h => by
  obtain ⟨t1, r1, e1, e2⟩ := chain_ok_of h
  obtain ⟨f1, s1, l1⟩ := hf _ _ _ e1
  obtain ⟨g1, g2, g3⟩ := chainO_eat hf f1 e2
  have := lp_le ["or"] t1.word (tw t1)
  exact ⟨g1, by omega, by omega⟩
theorem turnS_eat {dn : Option (List Str → Res)} (hf : ∀ f, dn = some f → Eat ["and", "or"] f) : Eat ["and", "or"] (turnS dn) := fun us t r h => by
  unfold turnS at h
  split at h
  · rename_i hn
    cases dn with
    | none => cases h
    | some f =>
      dsimp only at h
      cases e : f us.tail with
      | error x => rw [e] at h; cases h
      | ok x =>
        obtain ⟨t1, r1⟩ := x
        rw [e] at h
        cases h
        obtain ⟨f1, s1, l1⟩ := hf f rfl _ _ _ e
        have eu := cons_here hn (by decide +kernel)
        have su := congrArg szW eu
        have lu := congrArg lpW eu
        rw [szW_cons, szw_not] at su
        rw [lpW_cons, lpw_not] at lu
        refine ⟨f1, ?_, ?_⟩
        · rw [tw_neg, szW_cons, szw_not, szW_pw]; omega
        · rw [show PT.word (.neg t1) = "not" from rfl, lpW_pw ["and", "or"] "not", if_neg (by decide +kernel), tw_neg, lpW_cons, lpw_not]; omega
  · unfold atomF at h
    split at h
    · rename_i hp
      cases dn with
      | none => cases h
      | some f =>
        simp only [Option.map, brF] at h
        cases e : chain true (chain false f) us.tail with
        | error x => rw [e] at h; cases h
        | ok x =>
          obtain ⟨t1, r1⟩ := x
          rw [e] at h
          dsimp only at h
          split at h
          · rename_i hr
            cases h
            obtain ⟨f1, s1, l1⟩ := either_eat (both_eat (hf f rfl)) _ _ _ e
            have eu := cons_here hp (by decide +kernel)
            have su := congrArg szW eu
            have lu := congrArg lpW eu
            rw [szW_cons, szw_lp] at su
            rw [lpW_cons, lpw_lp] at lu
            have er := cons_here hr (by decide +kernel)
            have sr := congrArg szW er
            have lr := congrArg lpW er
            rw [szW_cons, szw_rp] at sr
            rw [lpW_cons, lpw_rp] at lr
            refine ⟨f1, by omega, ?_⟩
            rw [lpW_pw]
            have : (if t.word ∈ ([("and" : Str), "or"] : List Str) then 1 else 0) ≤ 1 := by split <;> omega
            omega
          · cases h
    · obtain ⟨a, rfl, ha, eu⟩ := leafF_fit h
      have su := congrArg szW eu
      have lu := congrArg lpW eu
      rw [szW_app] at su
      rw [lpW_app] at lu
      refine ⟨ha, su, ?_⟩
      rw [lpW_pw, if_neg (show ¬ (PT.leaf a).word ∈ ([("and" : Str), "or"] : List Str) from word_not.2.2.1), show tw (.leaf a) = leafW a from rfl]
      omega
theorem turnF_eat : ∀ D, Eat ["and", "or"] (turnF D)
  | 0 => turnS_eat fun f h => by cases h
  | D + 1 => turnS_eat fun f h => by
    cases h
    exact turnF_eat D
theorem whole_eat {ws : List Str} {t : PT} (h : wholeF ws = .ok t) : Fits t ∧ szW ws = szW (tw t) ∧ lpW (tw t) ≤ lpW ws := by
  unfold wholeF at h
  cases e : topF ws with
  | error x => rw [e] at h; cases h
  | ok x =>
    obtain ⟨t1, r⟩ := x
    rw [e] at h
    dsimp only at h
    split at h
    · rename_i hr
      cases h
      subst hr
      obtain ⟨h1, h2, h3⟩ := either_eat (both_eat (turnF_eat 20)) _ _ _ e
      rw [szW_nil] at h2
      rw [lpW_nil] at h3
      exact ⟨h1, h2, h3⟩
    · cases h

/-! ### words of what is written of a parsed tree -/
section
variable {lx : List (Str × Nat)} {xl : Nat}
theorem fine_aw {s : Str} (h : fineB s = true) : AW s := by
  obtain ⟨h1, h2, h3⟩ := fine_len h
  refine ⟨fun z => ?_, h3⟩
  have := sz_list s
  rw [show s.cps.toList = [] from z, List.length_nil] at this
  omega
theorem dig_isW {c : Nat} (h : 48 ≤ c ∧ c ≤ 57) : isW c = true := by
  have : c = 48 ∨ c = 49 ∨ c = 50 ∨ c = 51 ∨ c = 52 ∨ c = 53 ∨ c = 54 ∨ c = 55 ∨ c = 56 ∨ c = 57 := by omega
  rcases this with rfl | rfl | rfl | rfl | rfl | rfl | rfl | rfl | rfl | rfl <;> decide +kernel
theorem num_aw (m : Nat) : AW (nS (m : Int)) := by
  have e : TL.tl (nS (m : Int)) = TL.numL m := nS_nat m
  refine ⟨by rw [e]; exact TL.numL_ne m, ?_⟩
  rw [e, List.all_eq_true]
  exact fun c hc => dig_isW (TL.numL_digits m c hc)
theorem neg_nat {n : Int} (h : n < 0) : ∃ m : Nat, n = Int.negSucc m ∧ -n = ((m + 1 : Nat) : Int) := ⟨(-n).toNat - 1, by omega, by omega⟩
theorem rd_num5 {n : Int} {s : List Nat} (hs : Ok s) {ws : List Str} (h : RdG lx xl s ws) : RdG lx xl (TL.tl (nS n) ++ s) (numW n ++ ws) := by
  unfold numW
  by_cases hneg : n < 0
  · obtain ⟨m, e1, e2⟩ := neg_nat hneg
    have e3 : TL.tl (nS n) = 45 :: TL.tl (nS ((m + 1 : Nat) : Int)) := by
      rw [e1]
      exact (nS_neg m).trans (by rw [show TL.tl (nS ((m + 1 : Nat) : Int)) = TL.numL (m + 1) from nS_nat (m + 1)])
    rw [if_pos hneg, e2, e3]
    exact RdG.mi (RdG.aw (num_aw _) hs h)
  · obtain ⟨m, rfl⟩ : ∃ m : Nat, n = (m : Int) := ⟨n.toNat, by omega⟩
    rw [if_neg hneg]
    exact RdG.aw (num_aw m) hs h
theorem rd_leaf5 : ∀ {a : Atom}, Fit a → ∀ {s : List Nat} {ws : List Str}, Ok s → RdG lx xl s ws → RdG lx xl (TL.tl a.text ++ s) (leafW a ++ ws)
  | .all, _, s, ws, hs, h => RdG.aw (by decide +kernel) hs h
  | .grp x, hg, s, ws, hs, h => by
    show RdG lx xl (TL.tl (("group" : Str) ++ (" " : Str) ++ x) ++ s) (("group" : Str) :: x :: ws)
    rw [TL.tl_append, TL.tl_append, tl_sp, List.append_assoc, List.append_assoc]
    exact RdG.aw (by decide +kernel) Ok.sp (RdG.sp (RdG.aw (fine_aw hg) hs h))
  | .key x, hg, s, ws, hs, h => by
    show RdG lx xl (TL.tl (("key" : Str) ++ (" " : Str) ++ x) ++ s) (("key" : Str) :: x :: ws)
    rw [TL.tl_append, TL.tl_append, tl_sp, List.append_assoc, List.append_assoc]
    exact RdG.aw (by decide +kernel) Ok.sp (RdG.sp (RdG.aw (fine_aw hg) hs h))
  | .cmp a x n, hg, s, ws, hs, h => by
    show RdG lx xl (TL.tl (cmpW a ++ (" " : Str) ++ x ++ (" " : Str) ++ nS n) ++ s) (cmpW a :: x :: (numW n ++ ws))
    rw [TL.tl_append, TL.tl_append, TL.tl_append, TL.tl_append, tl_sp]
    simp only [List.append_assoc]
    exact RdG.aw (cmpW_aw a) Ok.sp (RdG.sp (RdG.sign hg.1 (by simp) (RdG.sp (rd_num5 hs h))))
theorem rd_wr5 : ∀ {t : PT}, Fits t → ∀ {s : List Nat} {ws : List Str}, Ok s → RdG lx xl s ws → RdG lx xl (TL.tl (wr t) ++ s) (tw t ++ ws)
  | .leaf a, hg, s, ws, hs, h => rd_leaf5 hg hs h
  | .neg c, hg, s, ws, hs, h => by
    show RdG lx xl (TL.tl (("not " : Str) ++ parS ["and", "or"] c.word (wr c)) ++ s) (("not" : Str) :: (pw ["and", "or"] c.word (tw c) ++ ws))
    rw [TL.tl_append, show TL.tl ("not " : Str) = TL.tl ("not" : Str) ++ [32] by decide +kernel, List.append_assoc, List.append_assoc]
    exact RdG.aw (by decide +kernel) Ok.sp (RdG.sp (rd_par (fun h1 h2 => rd_wr5 (t := c) hg h1 h2) hs h))
  | .two false c d, hg, s, ws, hs, h => by
    show RdG lx xl (TL.tl (parS ["or"] c.word (wr c) ++ (" and " : Str) ++ parS ["and", "or"] d.word (wr d)) ++ s) (pw ["or"] c.word (tw c) ++ ("and" : Str) :: pw ["and", "or"] d.word (tw d) ++ ws)
    rw [TL.tl_append, TL.tl_append, show TL.tl (" and " : Str) = 32 :: (TL.tl ("and" : Str) ++ [32]) by decide +kernel]
    simp only [List.append_assoc, List.cons_append]
    exact rd_par (fun h1 h2 => rd_wr5 (t := c) hg.1 h1 h2) Ok.sp (RdG.sp (RdG.aw (by decide +kernel) Ok.sp (RdG.sp (rd_par (fun h1 h2 => rd_wr5 (t := d) hg.2 h1 h2) hs h))))
  | .two true c d, hg, s, ws, hs, h => by
    show RdG lx xl (TL.tl (wr c ++ (" or " : Str) ++ parS ["or"] d.word (wr d)) ++ s) (tw c ++ ("or" : Str) :: pw ["or"] d.word (tw d) ++ ws)
    rw [TL.tl_append, TL.tl_append, show TL.tl (" or " : Str) = 32 :: (TL.tl ("or" : Str) ++ [32]) by decide +kernel]
    simp only [List.append_assoc, List.cons_append]
    exact rd_wr5 (t := c) hg.1 Ok.sp (RdG.sp (RdG.aw (by decide +kernel) Ok.sp (RdG.sp (rd_par (fun h1 h2 => rd_wr5 (t := d) hg.2 h1 h2) hs h))))
end
theorem toks_wr5 {t : PT} (hg : Fits t) : ∃ l, toks ((wr t).cps.size + 1) (wr t).cps.toList 0 = .ok l ∧ l.map Prod.fst = tw t := by
  have h := rd_wr5 (lx := []) (xl := 0) hg Ok.nil Rd_nil
  rw [List.append_nil, List.append_nil] at h
  obtain ⟨l, e1, e2⟩ := h.2 ((wr t).cps.size + 1) 0 (by show (wr t).cps.toList.length < _; rw [Array.length_toList]; omega)
  rw [show shT (0 + ((TL.tl (wr t)).length - 0)) ([] : List (Str × Nat)) = [] from rfl, List.append_nil] at e1
  rw [List.map_nil, List.append_nil] at e2
  exact ⟨l, e1, e2⟩
theorem whole_wr5 {t : PT} (hg : Fits t) (hd : nd t ≤ 20) : wholeF (tw t) = .ok t := whole_of (reads_nd (fits_lf hg) hd).1
/-! ### signs of a text and of its words -/
def okc (c : Nat) : Bool := decide (¬ c ∈ (" ()" : Str).cps.toList)
def lpc (c : Nat) : Bool := decide ((⟨#[c]⟩ : Str) = "(")
def szT (s : List Nat) : Nat := (s.filter okc).length
def lpT (s : List Nat) : Nat := (s.filter lpc).length
theorem szT_app (a b : List Nat) : szT (a ++ b) = szT a + szT b := by unfold szT; rw [List.filter_append, List.length_append]
theorem lpT_app (a b : List Nat) : lpT (a ++ b) = lpT a + lpT b := by unfold lpT; rw [List.filter_append, List.length_append]
theorem szT_le (s : List Nat) : szT s ≤ s.length := List.length_filter_le _ _
theorem isW_okc {c : Nat} (h : isW c = true) : okc c = true ∧ lpc c = false := by
  have h1 : ¬ c ∈ (" ()" : Str).cps.toList := fun hc => by
    have e : (" ()" : Str).cps.toList = [32, 40, 41] := by decide +kernel
    rw [e] at hc
    simp only [List.mem_cons, List.not_mem_nil, or_false] at hc
    rcases hc with rfl | rfl | rfl <;> revert h <;> decide +kernel
  refine ⟨decide_eq_true h1, decide_eq_false fun z => ?_⟩
  have : [c] = [40] := (congrArg (fun s : Str => s.cps.toList) z).trans (by decide +kernel)
  cases this
  exact h1 (by decide +kernel)
theorem mk_eq {u : List Nat} {w : Str} (h : (⟨u.toArray⟩ : Str) = w) : u = w.cps.toList := by rw [← h]
theorem plain_sz {u : List Nat} (h : ∀ c ∈ u, okc c = true ∧ lpc c = false) : szw ⟨u.toArray⟩ = szT u ∧ lpw ⟨u.toArray⟩ = lpT u := by
  have h1 : ¬ (⟨u.toArray⟩ : Str) = "(" := fun z => by
    have e := (mk_eq z).trans (show ("(" : Str).cps.toList = [40] by decide +kernel)
    have := (h 40 (by rw [e]; simp)).1
    revert this; decide +kernel
  have h2 : ¬ (⟨u.toArray⟩ : Str) = ")" := fun z => by
    have e := (mk_eq z).trans (show (")" : Str).cps.toList = [41] by decide +kernel)
    have := (h 41 (by rw [e]; simp)).1
    revert this; decide +kernel
  unfold szw lpw szT lpT brk
  rw [decide_eq_false (by rintro (z | z) <;> contradiction), if_neg Bool.false_ne_true, if_neg h1]
  refine ⟨?_, ?_⟩
  · rw [List.filter_eq_self.mpr fun c hc => (h c hc).1]
    show u.toArray.size = _
    exact List.size_toArray
  · rw [List.filter_eq_nil_iff.mpr fun c hc => by rw [(h c hc).2]; decide]; rfl
theorem word_sz {s : List Nat} {k : Nat} (h : wordLen s = some k) (hs : 0 < s.length) : szw ⟨(s.take k).toArray⟩ = szT (s.take k) ∧ lpw ⟨(s.take k).toArray⟩ = lpT (s.take k) := by
  unfold wordLen at h
  split at h
  · cases h
    refine plain_sz fun c hc => isW_okc ?_
    have e : s.take (s.takeWhile isW).length = s.takeWhile isW := by
      have := List.takeWhile_append_dropWhile (p := isW) (l := s)
      have e2 : s.take (s.takeWhile isW).length = (s.takeWhile isW ++ s.dropWhile isW).take (s.takeWhile isW).length := by rw [this]
      rw [e2, List.take_left]
    rw [e] at hc
    exact List.all_eq_true.mp List.all_takeWhile c hc
  · split at h
    · rename_i h2
      cases h
      rcases h2 with h2 | h2
      · rw [h2, mk_eq h2]; decide +kernel
      · rw [h2, mk_eq h2]; decide +kernel
    · unfold opLen at h
      cases s with
      | nil => simp at hs
      | cons c r =>
        dsimp only at h
        split at h
        · rename_i hc
          cases h
          rw [show (c :: r).take 1 = [c] from rfl]
          have e : opsS.cps.toList = [60, 61, 62, 45, 40, 41] := by decide +kernel
          rw [e] at hc
          simp only [List.mem_cons, List.not_mem_nil, or_false] at hc
          rcases hc with rfl | rfl | rfl | rfl | rfl | rfl <;> decide +kernel
        · cases h
theorem toks_sz : ∀ {n : Nat} {s : List Nat} {a : Nat} {l : List (Str × Nat)}, s.length < n → toks n s a = .ok l → szW (l.map Prod.fst) = szT s ∧ lpW (l.map Prod.fst) = lpT s
  | 0, s, a, l, hn, _ => absurd hn (by omega)
  | n + 1, [], a, l, _, h => by
    rw [toks] at h
    cases h
    exact ⟨rfl, rfl⟩
  | n + 1, c :: r, a, l, hn, h => by
    rw [List.length_cons] at hn
    rw [toks] at h
    by_cases h0 : c = 32
    · rw [if_pos h0] at h
      obtain ⟨h1, h2⟩ := toks_sz (by omega) h
      subst h0
      have e1 : szT (32 :: r) = szT r := by
        unfold szT
        rw [List.filter_cons_of_neg (by decide +kernel)]
      have e2 : lpT (32 :: r) = lpT r := by
        unfold lpT
        rw [List.filter_cons_of_neg (by decide +kernel)]
      rw [e1, e2]
      exact ⟨h1, h2⟩
    · rw [if_neg h0] at h
      cases hw : wordLen (c :: r) with
      | none => rw [hw] at h; cases h
      | some k =>
        rw [hw] at h
        have hk := wordLen_pos hw (by simp)
        dsimp only at h
        cases ht : toks n ((c :: r).drop k) (a + k) with
        | error e => rw [ht] at h; cases h
        | ok m =>
          rw [ht] at h
          cases h
          obtain ⟨h1, h2⟩ := toks_sz (by rw [List.length_drop, List.length_cons]; omega) ht
          obtain ⟨w1, w2⟩ := word_sz hw (by simp)
          rw [List.map_cons, szW_cons, lpW_cons, h1, h2, w1, w2, ← szT_app, ← lpT_app, List.take_append_drop]
          exact ⟨rfl, rfl⟩
theorem text_sz {z : Str} {l : List (Str × Nat)} (h : toks (z.cps.size + 1) z.cps.toList 0 = .ok l) : szW (l.map Prod.fst) = szT z.cps.toList ∧ lpW (l.map Prod.fst) = lpT z.cps.toList := toks_sz (by rw [Array.length_toList]; omega) h
/-! ### how long, how deep -/
theorem aw_szw {w : Str} (h : AW w) : szw w = w.length := by
  have e := (plain_sz (u := TL.tl w) fun c hc => isW_okc (List.all_eq_true.mp h.2 c hc)).1
  rw [show (⟨(TL.tl w).toArray⟩ : Str) = w from TL.ext_tl (by rw [TL.tl_mk])] at e
  rw [e]
  unfold szT
  rw [List.filter_eq_self.mpr fun c hc => (isW_okc (List.all_eq_true.mp h.2 c hc)).1]
  exact sz_list w
theorem szw_cmp (a : Bool) : szw (cmpW a) = 6 := by cases a <;> decide +kernel
theorem cmp_len (a : Bool) : (cmpW a).length = 6 := by cases a <;> decide +kernel
theorem sign_szw : ∀ s ∈ signs5, szw s = s.length ∧ 1 ≤ s.length ∧ s.length ≤ 2 := by decide +kernel
theorem num_szW (n : Int) : szW (numW n) = (nS n).length := by
  unfold numW
  by_cases hneg : n < 0
  · obtain ⟨m, e1, e2⟩ := neg_nat hneg
    rw [if_pos hneg, e2, szW_cons, szW_cons, szW_nil, aw_szw (num_aw _), show szw "-" = 1 by decide +kernel]
    have h1 := sz_list (nS n)
    have h2 := sz_list (nS ((m + 1 : Nat) : Int))
    rw [e1, nS_neg, List.length_cons] at h1
    rw [nS_nat] at h2
    rw [e1]
    omega
  · obtain ⟨m, rfl⟩ : ∃ m : Nat, n = (m : Int) := ⟨n.toNat, by omega⟩
    rw [if_neg hneg, szW_cons, szW_nil, aw_szw (num_aw _), Nat.add_zero]
theorem leaf_len : ∀ {a : Atom}, Fit a → a.text.length ≤ szW (leafW a) + 2 ∧ 3 ≤ szW (leafW a)
  | .all, _ => by
    show ("all" : Str).length ≤ szW ["all"] + 2 ∧ 3 ≤ szW ["all"]
    decide +kernel
  | .grp x, h => by
    show (("group" : Str) ++ (" " : Str) ++ x).length ≤ szW ["group", x] + 2 ∧ 3 ≤ szW ["group", x]
    rw [szW_cons, szW_cons, szW_nil, aw_szw (fine_aw h), app_len, app_len, show szw "group" = 5 by decide +kernel, show ("group" : Str).length = 5 by decide +kernel, show (" " : Str).length = 1 by decide +kernel]
    omega
  | .key x, h => by
    show (("key" : Str) ++ (" " : Str) ++ x).length ≤ szW ["key", x] + 2 ∧ 3 ≤ szW ["key", x]
    rw [szW_cons, szW_cons, szW_nil, aw_szw (fine_aw h), app_len, app_len, show szw "key" = 3 by decide +kernel, show ("key" : Str).length = 3 by decide +kernel, show (" " : Str).length = 1 by decide +kernel]
    omega
  | .cmp a x n, h => by
    show (cmpW a ++ (" " : Str) ++ x ++ (" " : Str) ++ nS n).length ≤ szW (cmpW a :: x :: numW n) + 2 ∧ 3 ≤ szW (cmpW a :: x :: numW n)
    have hx := sign_szw x h.1
    rw [szW_cons, szW_cons, num_szW, szw_cmp, hx.1, app_len, app_len, app_len, app_len, cmp_len, show (" " : Str).length = 1 by decide +kernel]
    omega
theorem par_len (ws : List Str) (w x : Str) : (parS ws w x).length ≤ x.length + 2 := by
  unfold parS
  split
  · rw [app_len, app_len, show ("(" : Str).length = 1 by decide +kernel, show (")" : Str).length = 1 by decide +kernel]; omega
  · omega
def PT.dpt : PT → Nat
  | .leaf _ => 0
  | .neg c => c.dpt + 1
  | .two _ c d => max c.dpt d.dpt + 1
def PT.nodes : PT → Nat
  | .leaf _ => 1
  | .neg c => c.nodes + 1
  | .two _ c d => c.nodes + d.nodes + 1
structure Bd (t : PT) : Prop where
  len : (wr t).length ≤ 3 * szW (tw t)
  psz : psz t ≤ 4 * szW (tw t)
  dp : 3 * (t.dpt + 1) ≤ szW (tw t)
  nodes : t.nodes ≤ szW (tw t)
theorem bd_of : ∀ {t : PT}, Fits t → Bd t
  | .leaf a, h => by
    obtain ⟨h1, h2⟩ := leaf_len (a := a) h
    exact ⟨by show a.text.length ≤ 3 * szW (leafW a); omega, by show 2 ≤ 4 * szW (leafW a); omega, by show 3 * (0 + 1) ≤ szW (leafW a); omega, by show 1 ≤ szW (leafW a); omega⟩
  | .neg c, h => by
    obtain ⟨h1, h2, h3, h4⟩ := bd_of (t := c) h
    have e : szW (tw (.neg c)) = 3 + szW (tw c) := by rw [tw_neg, szW_cons, szw_not, szW_pw]
    have hl : (wr (.neg c)).length ≤ 4 + ((wr c).length + 2) := by
      show (("not " : Str) ++ parS ["and", "or"] c.word (wr c)).length ≤ _
      rw [app_len, show ("not " : Str).length = 4 by decide +kernel]
      have := par_len ["and", "or"] c.word (wr c)
      omega
    exact ⟨by omega, by show 5 + K03.psz c ≤ _; omega, by show 3 * (c.dpt + 1 + 1) ≤ _; omega, by show c.nodes + 1 ≤ _; omega⟩
  | .two false c d, h => by
    obtain ⟨h1, h2, h3, h4⟩ := bd_of (t := c) h.1
    obtain ⟨g1, g2, g3, g4⟩ := bd_of (t := d) h.2
    have e : szW (tw (.two false c d)) = szW (tw c) + (3 + szW (tw d)) := by rw [tw_and, szW_app, szW_cons, szW_pw, szW_pw, szw_two]; rfl
    have hl : (wr (.two false c d)).length ≤ ((wr c).length + 2) + 5 + ((wr d).length + 2) := by
      show (parS ["or"] c.word (wr c) ++ (" and " : Str) ++ parS ["and", "or"] d.word (wr d)).length ≤ _
      rw [app_len, app_len, show (" and " : Str).length = 5 by decide +kernel]
      have := par_len ["or"] c.word (wr c)
      have := par_len ["and", "or"] d.word (wr d)
      omega
    exact ⟨by omega, by show 8 + K03.psz c + K03.psz d ≤ _; omega, by show 3 * (max c.dpt d.dpt + 1 + 1) ≤ _; omega, by show c.nodes + d.nodes + 1 ≤ _; omega⟩
  | .two true c d, h => by
    obtain ⟨h1, h2, h3, h4⟩ := bd_of (t := c) h.1
    obtain ⟨g1, g2, g3, g4⟩ := bd_of (t := d) h.2
    have e : szW (tw (.two true c d)) = szW (tw c) + (2 + szW (tw d)) := by rw [tw_or, szW_app, szW_cons, szW_pw, szw_two]; rfl
    have hl : (wr (.two true c d)).length ≤ (wr c).length + 4 + ((wr d).length + 2) := by
      show (wr c ++ (" or " : Str) ++ parS ["or"] d.word (wr d)).length ≤ _
      rw [app_len, app_len, show (" or " : Str).length = 4 by decide +kernel]
      have := par_len ["or"] d.word (wr d)
      omega
    exact ⟨by omega, by show 8 + K03.psz c + K03.psz d ≤ _; omega, by show 3 * (max c.dpt d.dpt + 1 + 1) ≤ _; omega, by show c.nodes + d.nodes + 1 ≤ _; omega⟩
theorem nums_szW : ∀ n ∈ nums, szW (numW n) ≤ 8 := by decide +kernel
theorem grps_szW : ∀ s ∈ grps, szw s ≤ 4 := by decide +kernel
theorem names_szW : ∀ s ∈ lawNames, szw s ≤ 12 := by decide +kernel
/-- the law's own conditions are not long -/
theorem good_szW : ∀ {t : PT}, t.Good → szW (tw t) + 3 ≤ 19 * 2 ^ t.dep
  | .leaf .all, _ => by show szW ["all"] + 3 ≤ 19 * 2 ^ 0; decide +kernel
  | .leaf (.grp x), h => by
    show szW ["group", x] + 3 ≤ 19 * 2 ^ 0
    have := grps_szW x h
    rw [szW_cons, szW_cons, szW_nil, show szw "group" = 5 by decide +kernel]
    omega
  | .leaf (.key x), h => by
    show szW ["key", x] + 3 ≤ 19 * 2 ^ 0
    have := names_szW x h
    rw [szW_cons, szW_cons, szW_nil, show szw "key" = 3 by decide +kernel]
    omega
  | .leaf (.cmp a x n), h => by
    show szW (cmpW a :: x :: numW n) + 3 ≤ 19 * 2 ^ 0
    have h1 := nums_szW n h.2
    have h2 := sign_szw x h.1
    rw [szW_cons, szW_cons, szw_cmp, h2.1]
    omega
  | .neg c, h => by
    have ih := good_szW (t := c) h
    rw [tw_neg, szW_cons, szw_not, szW_pw]
    show 3 + szW (tw c) + 3 ≤ 19 * 2 ^ (c.dep + 1)
    rw [Nat.pow_succ]
    have : 1 ≤ 2 ^ c.dep := Nat.one_le_two_pow
    omega
  | .two o c d, h => by
    have h1 := good_szW (t := c) h.1
    have h2 := good_szW (t := d) h.2
    have e1 : 2 ^ c.dep ≤ 2 ^ max c.dep d.dep := Nat.pow_le_pow_right (by decide) (by omega)
    have e2 : 2 ^ d.dep ≤ 2 ^ max c.dep d.dep := Nat.pow_le_pow_right (by decide) (by omega)
    show szW (tw (.two o c d)) + 3 ≤ 19 * 2 ^ (max c.dep d.dep + 1)
    rw [Nat.pow_succ]
    cases o with
    | false =>
      have e : szW (tw (.two false c d)) = szW (tw c) + (3 + szW (tw d)) := by rw [tw_and, szW_app, szW_cons, szW_pw, szW_pw, szw_two]; rfl
      omega
    | true =>
      have e : szW (tw (.two true c d)) = szW (tw c) + (2 + szW (tw d)) := by rw [tw_or, szW_app, szW_cons, szW_pw, szw_two]; rfl
      omega

/-! ### trees as data -/
def atomD : Atom → PyData
  | .cmp a s n => .tuple [.str (cmpW a), .str s, .int n]
  | .grp s => .tuple [.str "group", .str s]
  | .key s => .tuple [.str "key", .str s]
  | .all => .tuple [.str "all"]
def treeD : PT → PyData
  | .leaf a => atomD a
  | .neg c => .tuple [.str "not", treeD c]
  | .two o c d => .tuple [.str (twoW o), treeD c, treeD d]
theorem dpTree {K : PySem.W.Frag} {H : Hp} : ∀ {t : PT} {v : V}, TrAt H t v → Dp K H v (treeD t)
  | .leaf (.cmp a s n), v, ⟨p, e, h⟩ => by rw [e]; exact .tup (tupT h) (.cons (.str _) (.cons (.str _) (.cons (.int _) .nil)))
  | .leaf (.grp s), v, ⟨p, e, h⟩ => by rw [e]; exact .tup (tupT h) (.cons (.str _) (.cons (.str _) .nil))
  | .leaf (.key s), v, ⟨p, e, h⟩ => by rw [e]; exact .tup (tupT h) (.cons (.str _) (.cons (.str _) .nil))
  | .leaf .all, v, ⟨p, e, h⟩ => by rw [e]; exact .tup (tupT h) (.cons (.str _) .nil)
  | .neg c, v, ⟨p, u, e, h, h1⟩ => by rw [e]; exact .tup (tupT h) (.cons (.str _) (.cons (dpTree (t := c) h1) .nil))
  | .two o c d, v, ⟨p, u, x, e, h, h1, h2⟩ => by rw [e]; exact .tup (tupT h) (.cons (.str _) (.cons (dpTree (t := c) h1) (.cons (dpTree (t := d) h2) .nil)))
theorem fine_str {s : Str} (h : fineB s = true) : PyData.strOk s = true := by
  have h3 := (fine_len h).2.2
  have hs : ∀ c ∈ signs.cps.toList, c < 0x110000 := by decide +kernel
  show s.cps.all (· < 0x110000) = true
  rw [← Array.all_toList, List.all_eq_true]
  intro c hc
  exact decide_eq_true (hs c (of_decide_eq_true (List.all_eq_true.mp h3 c hc)))
theorem sign_str : ∀ s ∈ signs5, PyData.strOk s = true := by decide +kernel
theorem cmp_str (a : Bool) : PyData.strOk (cmpW a) = true := by cases a <;> decide +kernel
theorem two_str (o : Bool) : PyData.strOk (twoW o) = true := by cases o <;> decide +kernel
theorem treeLay : ∀ {t : PT}, Fits t → PyData.canLay0 (treeD t) = true
  | .leaf (.cmp a s n), h => by simp [treeD, atomD, PyData.canLay0, PyData.canLayAll0, cmp_str, sign_str s h.1]
  | .leaf (.grp s), h => by simp [treeD, atomD, PyData.canLay0, PyData.canLayAll0, fine_str h, show PyData.strOk "group" = true by decide +kernel]
  | .leaf (.key s), h => by simp [treeD, atomD, PyData.canLay0, PyData.canLayAll0, fine_str h, show PyData.strOk "key" = true by decide +kernel]
  | .leaf .all, h => by decide +kernel
  | .neg c, h => by simp [treeD, PyData.canLay0, PyData.canLayAll0, treeLay (t := c) h, show PyData.strOk "not" = true by decide +kernel]
  | .two o c d, h => by simp [treeD, PyData.canLay0, PyData.canLayAll0, two_str, treeLay (t := c) h.1, treeLay (t := d) h.2]
theorem treeDep : ∀ t : PT, (treeD t).depth ≤ t.dpt + 1
  | .leaf (.cmp a s n) => by simp [treeD, atomD, PyData.depth, PyData.depthAll]
  | .leaf (.grp s) => by simp [treeD, atomD, PyData.depth, PyData.depthAll]
  | .leaf (.key s) => by simp [treeD, atomD, PyData.depth, PyData.depthAll]
  | .leaf .all => by simp [treeD, atomD, PyData.depth, PyData.depthAll]
  | .neg c => by
    have := treeDep c
    simp [treeD, PyData.depth, PyData.depthAll, PT.dpt]
    omega
  | .two o c d => by
    have := treeDep c
    have := treeDep d
    simp [treeD, PyData.depth, PyData.depthAll, PT.dpt]
    omega
theorem neTree {K : PySem.W.Frag} {H : Hp} {Q : VK} {t : PT} {u v : V} (hu : TrAt H t u) (hv : TrAt H t v) (f : Fits t) (d : t.dpt ≤ 62) (q : Q (.bl false) H) : rNeD K u v H Q := by
  have sh : SeqAt.shaped (treeD t) = true := by
    unfold SeqAt.shaped
    rw [treeLay f, Bool.true_and]
    exact decide_eq_true (Nat.le_trans (treeDep t) (by omega))
  exact ⟨_, _, dpTree hu, dpTree hv, sh, sh, by rw [SeqAt.eqv_refl _ (treeLay f)]; exact q⟩

/-! ### changed texts -/
theorem take_filter_succ {l : List Nat} {p : Nat → Bool} {i c : Nat} (h : l[i]? = some c) : (l.take (i + 1)).filter p = (l.take i).filter p ++ if p c = true then [c] else [] := by
  rw [List.take_add_one, h, List.filter_append]
  cases hp : p c <;> simp [hp]
def sgV (c : Nat) : V := .str ⟨#[c]⟩
def pcs18 : List Str := ["a", "(", ")", " and ", " or ", "not ", "<", "=", "-", "0", "7", " ", "all", "weight", " key ", "group x", "\n", "A"]
theorem pcs_le : ∀ p ∈ pcs18, p.length ≤ 8 := by decide +kernel
theorem cut_to (z : Str) (k : Nat) : TL.tl (cutS z none (some (k : Int))) = (TL.tl z).take k := by
  unfold cutS
  rw [HT.sIx_none, HT.sIx_nat]
  show ((z.cps.toList.drop 0).take (min k z.length - 0)) = _
  rw [List.drop_zero, Nat.sub_zero, ← sz_list]
  exact List.take_eq_take_iff.mpr (by show min (min k _) _ = min k _; omega)
theorem cut_from (z : Str) (k : Nat) : TL.tl (cutS z (some (k : Int)) none) = (TL.tl z).drop k := by
  unfold cutS
  rw [HT.sIx_none, HT.sIx_nat]
  show ((z.cps.toList.drop (min k z.length)).take (z.length - min k z.length)) = z.cps.toList.drop k
  rw [← sz_list]
  rcases Nat.le_total k z.cps.toList.length with h | h
  · rw [Nat.min_eq_left h]
    exact List.take_of_length_le (by rw [List.length_drop]; exact Nat.le_refl _)
  · rw [Nat.min_eq_right h, List.drop_of_length_le h, List.drop_of_length_le (Nat.le_refl _), List.take_nil]
structure Near (x y : Str) : Prop where
  len : y.length ≤ x.length + 8
  sz : szT (TL.tl y) ≤ szT (TL.tl x) + 8
theorem szT_cut (s : List Nat) (a : Nat) : szT s = szT (s.take a) + szT (s.drop a) := by rw [← szT_app, List.take_append_drop]
theorem near_put {s p : List Nat} {a b : Nat} (h : a ≤ b) (hp : p.length ≤ 8) : (s.take a ++ p ++ s.drop b).length ≤ s.length + 8 ∧ szT (s.take a ++ p ++ s.drop b) ≤ szT s + 8 := by
  have h1 := szT_cut s a
  have h2 := szT_cut (s.drop a) (b - a)
  have h3 := szT_le p
  rw [List.drop_drop, show a + (b - a) = b by omega] at h2
  rw [szT_app, szT_app, List.length_append, List.length_append, List.length_take, List.length_drop]
  exact ⟨by omega, by omega⟩
theorem near_twice {s : List Nat} {a d : Nat} (h : d ≤ 8) : (s.take (a + d) ++ s.drop a).length ≤ s.length + 8 ∧ szT (s.take (a + d) ++ s.drop a) ≤ szT s + 8 := by
  have h1 := szT_cut s a
  have e : s.take (a + d) = s.take a ++ (s.drop a).take d := by rw [List.take_add]
  have h3 := szT_le ((s.drop a).take d)
  rw [List.length_take] at h3
  rw [e, szT_app, szT_app, List.length_append, List.length_append, List.length_take, List.length_take, List.length_drop]
  exact ⟨by omega, by omega⟩
theorem near_of {x y : Str} (h : (TL.tl y).length ≤ (TL.tl x).length + 8 ∧ szT (TL.tl y) ≤ szT (TL.tl x) + 8) : Near x y := ⟨by have h1 := sz_list x; have h2 := sz_list y; have h3 : y.cps.toList.length ≤ x.cps.toList.length + 8 := h.1; omega, h.2⟩
theorem aB {a b : Str} {Q : VK} {H : Hp} (h : a.length + b.length ≤ 1000000) (q : Q (.str (a ++ b)) H) : rAddS (.str a) (.str b) H Q := Z.addS (Nat.le_trans h (by decide)) q
def spChanged (K : PySem.W.Frag) : Sp := fun vs H Q _ => ∃ (a : Addr) (x : Str), vs = [.ref a, .str x] ∧ DrawsAt H a ∧ x.length ≤ 100000 ∧ ∀ H' y, Near x y → Kp [a] H H' → DrawsAt H' a → Q (.str y) H'
theorem ok__law_changed {P : Program} {w : World} {K : PySem.W.Frag} {mg : Str → Option Value} {base : Heap} (T : T P K mg) : FnOk P w K mg base CX0 2 T.a__law_changed T.fd__law_changed ["draws", "text"] (spChanged K) := by
  refine T.F__law_changed.ok sc__law_changed (fun vs H Q E h => ?_) (fun cdv A outer s H vs Q E hr h => ?_)
  · obtain ⟨a, x, rfl, _⟩ := h
    rfl
  · obtain ⟨a, x, rfl, hd, hx, q⟩ := h
    refine ⟨_, (pss_cons (ps_set (i := 2) sc__law_changed.nd rfl (by first | exact Or.inl rfl | exact Or.inr rfl) (pe_call (ok__law_take T) (hr.mono (by decide)) (by rfl) T.g__law_take T.F__law_take.kp T.b__law_take .nil pass0 (pa_cons (pv 0) (pa_cons (pe_op op_add (pe_callB c_lens (by rfl) T.z_len (by decide +kernel) (pa_cons (pv 1) pa_nil)) pe_int) pa_nil))))
      (pss_cons (ps_set (i := 3) sc__law_changed.nd rfl (by first | exact Or.inl rfl | exact Or.inr rfl) (pe_lst (pa_cons pe_str (pa_cons pe_str (pa_cons pe_str (pa_cons pe_str (pa_cons pe_str (pa_cons pe_str (pa_cons pe_str (pa_cons pe_str (pa_cons pe_str (pa_cons pe_str (pa_cons pe_str (pa_cons pe_str (pa_cons pe_str (pa_cons pe_str (pa_cons pe_str (pa_cons pe_str (pa_cons pe_str (pa_cons pe_str pa_nil))))))))))))))))))))
      (pss_cons (ps_set (i := 4) sc__law_changed.nd rfl (by first | exact Or.inl rfl | exact Or.inr rfl) (pe_ix ix_list (pv 3) (pe_call (ok__law_take T) (hr.mono (by decide)) (by rfl) T.g__law_take T.F__law_take.kp T.b__law_take .nil pass0 (pa_cons (pv 0) (pa_cons (pe_callB c_len (by rfl) T.z_len (by decide +kernel) (pa_cons (pv 3) pa_nil)) pa_nil))) (fun _ _ => rfl)))
      (pss_cons (ps_set (i := 5) sc__law_changed.nd rfl (by first | exact Or.inl rfl | exact Or.inr rfl) (pe_call (ok__law_take T) (hr.mono (by decide)) (by rfl) T.g__law_take T.F__law_take.kp T.b__law_take .nil pass0 (pa_cons (pv 0) (pa_cons pe_int pa_nil))))
      (pss_cons (ps_if (pt_cmpR op_eq (pv 5) pe_int (nomark _)) (pss_one (ps_ret (pe_op o_addS (pe_op o_addS (pe_slice sl_str (pv 1) po_none (po_some (pv 2))) (pv 4)) (pe_slice sl_str (pv 1) (po_some (pv 2)) po_none)))) pss_nil)
      (pss_cons (ps_if (pt_cmpR op_eq (pv 5) pe_int (nomark _)) (pss_one (ps_ret (pe_op o_addS (pe_slice sl_str (pv 1) po_none (po_some (pv 2))) (pe_slice sl_str (pv 1) (po_some (pe_op op_add (pv 2) pe_int)) po_none)))) pss_nil)
      (pss_cons (ps_if (pt_cmpR op_eq (pv 5) pe_int (nomark _)) (pss_one (ps_ret (pe_op o_addS (pe_op o_addS (pe_slice sl_str (pv 1) po_none (po_some (pv 2))) (pv 4)) (pe_slice sl_str (pv 1) (po_some (pe_op op_add (pv 2) pe_int)) po_none)))) pss_nil)
      (pss_one (ps_ret (pe_op o_addS (pe_slice sl_str (pv 1) po_none (po_some (pe_op op_add (pv 2) (pe_call (ok__law_take T) (hr.mono (by decide)) (by rfl) T.g__law_take T.F__law_take.kp T.b__law_take .nil pass0 (pa_cons (pv 0) (pa_cons pe_int pa_nil)))))) (pe_slice sl_str (pv 1) (po_some (pv 2)) po_none))))))))))), ?_⟩
    have zl : x.length ≤ sizeLine := Nat.le_trans hx (by decide)
    walk_at "z0"
    walk_at "z"
    refine Z.lenS (Nat.le_trans hx (by decide)) ?_
    walk_at "z"
    have hxs : x.cps.size = x.length := rfl
    refine ⟨a, _, rfl, hd, by omega, by omega, fun H1 v h0 h1 k1 d1 => ?_⟩
    obtain ⟨at_, rfl⟩ : ∃ at_ : Nat, v = (at_ : Int) := ⟨v.toNat, by omega⟩
    walk_at "z"
    refine Z.lstK (fun b H2 nb k2 e2 => ?_)
    have d2 := d1.kp0 k2
    have nab : a ≠ b := d1.ne nb
    walk_at "z"
    refine Z.lenL (lstL e2) ?_
    walk_at "z"
    refine ⟨a, 18, rfl, d2, by decide, by decide, fun H3 w w0 w1 k3 d3 => ?_⟩
    obtain ⟨p, hp, ep⟩ := pickS pcs18 w0 w1
    have hpl := pcs_le p hp
    refine Z.ixL (lstL (k3.get (nin1 nab.symm) e2)) ep ?_
    walk_at "z"
    refine ⟨a, 4, rfl, d3, by decide, by decide, fun H4 kd c0 c1 k4 d4 => ?_⟩
    have kk : Kp [a] H H4 := k1.trans ((k2.sub (by simp)).trans (k3.trans k4))
    have l1 := cutS_length x none (some (at_ : Int))
    have l2 := cutS_length x (some (at_ : Int)) none
    have l3 := cutS_length x (some ((at_ : Int) + 1)) none
    walk_at "z"
    refine Z.ite (fun g1 => ?_) (fun g1 => ?_)
    · walk_at "z"
      refine ⟨x, rfl, zl, ?_⟩
      walk_at "z"
      refine aB (by omega) ?_
      walk_at "z"
      refine ⟨x, rfl, zl, ?_⟩
      refine aB (by rw [app_len]; omega) ?_
      refine q H4 _ (near_of ?_) kk d4
      rw [TL.tl_append, TL.tl_append, cut_to, cut_from]
      exact near_put (Nat.le_refl _) (by show p.cps.toList.length ≤ 8; rw [sz_list]; exact hpl)
    · walk_at "z"
      refine Z.ite (fun g2 => ?_) (fun g2 => ?_)
      · walk_at "z"
        refine ⟨x, rfl, zl, ?_⟩
        walk_at "z"
        refine ⟨x, rfl, zl, ?_⟩
        refine aB (by omega) ?_
        refine q H4 _ (near_of ?_) kk d4
        rw [TL.tl_append, cut_to, show ((at_ : Int) + 1) = ((at_ + 1 : Nat) : Int) by omega, cut_from]
        have := near_put (s := TL.tl x) (p := []) (a := at_) (b := at_ + 1) (by omega) (by decide)
        rwa [List.append_nil] at this
      · walk_at "z"
        refine Z.ite (fun g3 => ?_) (fun g3 => ?_)
        · walk_at "z"
          refine ⟨x, rfl, zl, ?_⟩
          walk_at "z"
          refine aB (by omega) ?_
          walk_at "z"
          refine ⟨x, rfl, zl, ?_⟩
          refine aB (by rw [app_len]; omega) ?_
          refine q H4 _ (near_of ?_) kk d4
          rw [TL.tl_append, TL.tl_append, cut_to, show ((at_ : Int) + 1) = ((at_ + 1 : Nat) : Int) by omega, cut_from]
          exact near_put (by omega) (by show p.cps.toList.length ≤ 8; rw [sz_list]; exact hpl)
        · walk_at "z"
          refine ⟨a, 9, rfl, d4, by decide, by decide, fun H5 u u0 u1 k5 d5 => ?_⟩
          obtain ⟨d, rfl⟩ : ∃ d : Nat, u = (d : Int) := ⟨u.toNat, by omega⟩
          walk_at "z"
          have l4 := cutS_length x none (some ((at_ : Int) + (d : Int)))
          refine ⟨x, rfl, zl, ?_⟩
          walk_at "z"
          refine ⟨x, rfl, zl, ?_⟩
          refine aB (by omega) ?_
          refine q H5 _ (near_of ?_) (kk.trans k5) d5
          rw [TL.tl_append, show ((at_ : Int) + (d : Int)) = ((at_ + d : Nat) : Int) by omega, cut_to, cut_from]
          exact near_twice (by omega)
/-! ### _law_parsed, _law_size -/
def PTx (z : Str) (t : PT) : Prop := ∃ l, toks (z.cps.size + 1) z.cps.toList 0 = .ok l ∧ wholeF (l.map Prod.fst) = .ok t
def spParsed : Sp := fun vs H Q _ => ∃ z : Str, vs = [.str z] ∧ z.length ≤ 2000 ∧ (∀ t, PTx z t → ∀ H' v, Kp [] H H' → TrAt H' t v → Q v H') ∧ ((∀ t, ¬ PTx z t) → ∀ H', Kp [] H H' → Q .non H')
theorem ok__law_parsed {P : Program} {w : World} {K : PySem.W.Frag} {mg : Str → Option Value} {base : Heap} (T : T P K mg) : FnOk P w K mg base CX0 131 T.a__law_parsed T.fd__law_parsed ["text"] spParsed := by
  refine T.F__law_parsed.ok sc__law_parsed (fun vs H Q E h => ?_) (fun cdv A outer s H vs Q E hr h => ?_)
  · obtain ⟨z, rfl, _⟩ := h
    rfl
  · obtain ⟨z, rfl, hz, q, qn⟩ := h
    refine ⟨_, (pss_one (ps_try_as (i := 1) rfl rfl sc__law_parsed.nd rfl rfl ⟨by rfl, by decide, .inl T.x_TextError.g⟩ takes0 (fun W pn xe tk po => (pss_one (ps_ret (pe_callS (ok_parse_condition T) (hr.mono (by decide)) (by rfl) T.g_parse_condition T.F_parse_condition.kp T.b_parse_condition (fun σ => passAt tk σ) (pa_cons (pv 0) pa_nil))))) (fun a oe cls d pn hz hf => (pss_one (ps_ret pe_non))))), ?_⟩
    walk_at "z0"
    walk_at "z"
    refine ⟨_, rfl, ?_⟩
    have hzs : z.cps.size ≤ 2000 := hz
    refine ⟨z, rfl, by omega, fun h2 => ⟨fun c hc H1 d k1 nd => ?_, fun l hl => ⟨fun t ht H1 v k1 hv => ?_, fun k re hk H1 d k1 nd => ?_⟩⟩, fun h2 d nd => absurd h2 (by omega)⟩
    · refine ⟨true, T.x_TextError.te, fun _ a ha => ?_, fun z => by cases z⟩
      walk_at "z"
      refine qn (fun t ht => ?_) _ (k1.trans (Kp.new nd))
      obtain ⟨l, e1, _⟩ := ht
      rw [hc] at e1; cases e1
    · walk_at "z"
      exact q t ⟨l, hl, ht⟩ H1 v k1 hv
    · refine ⟨true, T.x_TextError.te, fun _ a ha => ?_, fun z => by cases z⟩
      walk_at "z"
      refine qn (fun t ht => ?_) _ (k1.trans (Kp.new nd))
      obtain ⟨m, e1, e2⟩ := ht
      rw [hl] at e1; cases e1
      rw [hk] at e2; cases e2
def spSize (K : PySem.W.Frag) : Sp := fun vs H Q _ => ∃ z : Str, vs = [.str z] ∧ z.length ≤ 2000 ∧ ∀ H', Kp [] H H' → Q (.int (szT (TL.tl z) : Nat)) H'
theorem ok__law_size {P : Program} {w : World} {K : PySem.W.Frag} {mg : Str → Option Value} {base : Heap} (T : T P K mg) : FnOk P w K mg base CX0 1 T.a__law_size T.fd__law_size ["text"] (spSize K) := by
  refine T.F__law_size.ok sc__law_size (fun vs H Q E h => ?_) (fun cdv A outer s H vs Q E hr h => ?_)
  · obtain ⟨z, rfl, _⟩ := h
    rfl
  · obtain ⟨z, rfl, hz, q⟩ := h
    refine ⟨_, (pss_one (ps_ret (pe_callB c_len (by rfl) T.z_len (by decide +kernel) (pa_cons (pe_lc (own := [("sign", 1)]) (g := gName 1) rfl sc__law_size.nd (pi_str (pv 0)) (blkOk_by (own := [("sign", 1)]) (N := N__law_size) (sc := defScope s__law_size) (by decide +kernel)) (fun _ _ _ _ _ => (pg_name (i := 1) sc__law_size.nd rfl (by first | exact Or.inl rfl | exact Or.inr rfl))) (fun _ _ _ _ _ => (pts_one (pt_cmpR o_ninSg (pv 1) pe_str rfl))) (fun _ _ _ _ _ => (pv 1))) pa_nil)))), ?_⟩
    have hzl := sz_list z
    walk_at "z0"
    walk_at "z"
    refine Z.lcs (fun D i H' => Kp [] H H' ∧ H' D = some (.lst (((z.cps.toList.take i).filter okc).map sgV))) ?_ ?_ ?_
    · intro D H1 nD k1 e1
      exact ⟨k1, e1⟩
    · rintro D i c H1 nD hc ⟨k1, e1⟩
      rw [← Array.getElem?_toList] at hc
      have hsucc := take_filter_succ (p := okc) hc
      dsimp only [wipe, List.set]
      walk_at "z"
      refine ⟨rfl, ?_⟩
      walk_at "z"
      refine Z.iteN (fun h3 => ?_) (fun h3 => ?_)
      · walk_at "z"
        refine ⟨_, e1, Z.szl (m := 2000) ?_, k1.mut nD rfl, ?_⟩
        · rw [List.length_map]
          exact Nat.le_trans (List.length_filter_le _ _) (Nat.le_trans (List.length_take_le' _ _) (by omega))
        · rw [upd_same, hsucc, if_pos (show okc c = true from decide_eq_true h3), List.map_append]; rfl
      · walk_at "z"
        refine ⟨k1, ?_⟩
        rw [hsucc, if_neg (show ¬ okc c = true from fun z => (of_decide_eq_true z) h3), List.append_nil]
        exact e1
    · rintro D H1 nD ⟨k1, e1⟩
      rw [List.take_of_length_le (by rw [Array.length_toList]; exact Nat.le_refl _)] at e1
      walk_at "z"
      refine Z.lenL (lstL e1) ?_
      rw [List.length_map]
      exact q H1 k1

/-! ### conditions as trees, at their places -/
def Atom.Ok : Atom → Prop
  | .cmp _ s _ => s ∈ signs5
  | _ => True
def cmpB (s : Str) (x y : Int) : Bool := if s = "<" then decide (x < y) else if s = "<=" then decide (x ≤ y) else if s = "=" then decide (x = y) else if s = ">=" then decide (y ≤ x) else decide (y < x)
def Atom.holds (r : Row) : Atom → Bool
  | .cmp a s n => cmpB s (if a then r.m else r.w) n
  | .grp s => decide (r.g = s)
  | .key s => decide (r.k = s)
  | .all => true
inductive CT where
  | leaf (p : Addr) (a : Atom)
  | neg (p : Addr) (c : CT)
  | two (p : Addr) (o : Bool) (c d : CT)
def CT.ad : CT → Addr
  | .leaf p _ => p
  | .neg p _ => p
  | .two p _ _ _ => p
def CT.At (H : Hp) : CT → Prop
  | .leaf p a => H p = some (.tup a.vs) ∧ a.Ok
  | .neg p c => H p = some (.tup [.str "not", .ref c.ad]) ∧ c.At H
  | .two p o c d => H p = some (.tup [.str (twoW o), .ref c.ad, .ref d.ad]) ∧ c.At H ∧ d.At H
def CT.holds (r : Row) : CT → Bool
  | .leaf _ a => a.holds r
  | .neg _ c => !c.holds r
  | .two _ o c d => if o then c.holds r || d.holds r else c.holds r && d.holds r
def CT.size : CT → Nat
  | .leaf _ _ => 1
  | .neg _ c => c.size + 1
  | .two _ _ c d => c.size + d.size + 1
def CT.depth : CT → Nat
  | .leaf _ _ => 0
  | .neg _ c => c.depth + 1
  | .two _ _ c d => max c.depth d.depth + 1
def CT.pre : CT → List CT
  | .leaf p a => [.leaf p a]
  | .neg p c => .neg p c :: c.pre
  | .two p o c d => .two p o c d :: (d.pre ++ c.pre)
def CT.post : CT → List CT
  | .leaf p a => [.leaf p a]
  | .neg p c => c.post ++ [.neg p c]
  | .two p o c d => c.post ++ (d.post ++ [.two p o c d])
theorem post_pre : ∀ t : CT, t.pre.reverse = t.post
  | .leaf _ _ => rfl
  | .neg p c => by rw [CT.pre, CT.post, List.reverse_cons, post_pre c]
  | .two p o c d => by rw [CT.pre, CT.post, List.reverse_cons, List.reverse_append, post_pre c, post_pre d, List.append_assoc]
theorem pre_len : ∀ t : CT, t.pre.length = t.size
  | .leaf _ _ => rfl
  | .neg p c => by rw [CT.pre, CT.size, List.length_cons, pre_len c]
  | .two p o c d => by rw [CT.pre, CT.size, List.length_cons, List.length_append, pre_len c, pre_len d]; omega
theorem post_len (t : CT) : t.post.length = t.size := by rw [← post_pre, List.length_reverse, pre_len]
theorem size_pos : ∀ t : CT, 1 ≤ t.size
  | .leaf _ _ => Nat.le_refl _
  | .neg _ _ => by rw [CT.size]; omega
  | .two _ _ _ _ => by rw [CT.size]; omega
theorem size_depth : ∀ t : CT, t.size + 1 ≤ 2 ^ (t.depth + 1)
  | .leaf _ _ => by simp [CT.size, CT.depth]
  | .neg _ c => by
    have h := size_depth c
    rw [CT.size, CT.depth, Nat.pow_succ]
    omega
  | .two _ _ c d => by
    have h1 := size_depth c
    have h2 := size_depth d
    have e1 : 2 ^ (c.depth + 1) ≤ 2 ^ (max c.depth d.depth + 1) := Nat.pow_le_pow_right (by decide) (by omega)
    have e2 : 2 ^ (d.depth + 1) ≤ 2 ^ (max c.depth d.depth + 1) := Nat.pow_le_pow_right (by decide) (by omega)
    rw [CT.size, CT.depth, Nat.pow_succ]
    omega
theorem CT.At.kp {M : List Addr} {H H' : Hp} (k : Kp M H H') (n : ∀ x ∈ M, ∃ xs, H x = some (.lst xs)) : ∀ {t : CT}, t.At H → t.At H'
  | .leaf p a, h => ⟨k _ _ (fun z => by
      obtain ⟨xs, e⟩ := n _ z
      rw [h.1] at e
      cases e) h.1, h.2⟩
  | .neg p c, h => ⟨k _ _ (fun z => by
      obtain ⟨xs, e⟩ := n _ z
      rw [h.1] at e
      cases e) h.1, CT.At.kp k n h.2⟩
  | .two p o c d, h => ⟨k _ _ (fun z => by
      obtain ⟨xs, e⟩ := n _ z
      rw [h.1] at e
      cases e) h.1, CT.At.kp k n h.2.1, CT.At.kp k n h.2.2⟩
theorem CT.At.kp0 {H H' : Hp} {t : CT} (h : t.At H) (k : Kp [] H H') : t.At H' := h.kp k fun _ h => by cases h
theorem CT.At.kpd {H H' : Hp} {a : Addr} {t : CT} (h : t.At H) (k : Kp [a] H H') (d : DrawsAt H a) : t.At H' := h.kp k fun x hx => by
  rw [List.mem_singleton.mp hx]
  exact ⟨_, d.choose_spec⟩
theorem post_at {H : Hp} : ∀ {t : CT}, t.At H → ∀ c ∈ t.post, c.At H
  | .leaf p a, h, c, hc => by rw [List.mem_singleton.mp hc]; exact h
  | .neg p e, h, c, hc => by
    rcases List.mem_append.mp hc with z | z
    · exact post_at h.2 c z
    · rw [List.mem_singleton.mp z]; exact h
  | .two p o e f, h, c, hc => by
    rcases List.mem_append.mp hc with z | z
    · exact post_at h.2.1 c z
    · rcases List.mem_append.mp z with y | y
      · exact post_at h.2.2 c y
      · rw [List.mem_singleton.mp y]; exact h
def crefs (l : List CT) : List V := l.map fun c => V.ref c.ad
theorem crefs_len (l : List CT) : (crefs l).length = l.length := by unfold crefs; rw [List.length_map]
theorem crefs_append (l m : List CT) : crefs (l ++ m) = crefs l ++ crefs m := by unfold crefs; rw [List.map_append]
theorem crefs_of {ps : List CT} {i : Nat} {v : V} (h : (crefs ps)[i]? = some v) : ∃ x, ps[i]? = some x ∧ v = .ref x.ad := by
  unfold crefs at h
  rw [List.getElem?_map] at h
  cases e : ps[i]? with
  | none => rw [e] at h; cases h
  | some x => rw [e] at h; exact ⟨x, rfl, (Option.some.inj h).symm⟩
def szs (l : List CT) : Nat := (l.map CT.size).sum
theorem szs_len : ∀ l : List CT, l.length ≤ szs l
  | [] => Nat.zero_le _
  | c :: r => by
    have h := szs_len r
    have h1 := size_pos c
    unfold szs at h ⊢
    rw [List.map_cons, List.sum_cons, List.length_cons]
    omega
theorem szs_cons (c : CT) (r : List CT) : szs (c :: r) = c.size + szs r := by unfold szs; rw [List.map_cons, List.sum_cons]
def CT.word : CT → Str
  | .leaf _ a => a.word
  | .neg _ _ => "not"
  | .two _ o _ _ => twoW o
def CT.vs : CT → List V
  | .leaf _ a => a.vs
  | .neg _ c => [.str "not", .ref c.ad]
  | .two _ o c d => [.str (twoW o), .ref c.ad, .ref d.ad]
theorem CT.At.tup {H : Hp} : ∀ {t : CT}, t.At H → H t.ad = some (.tup t.vs)
  | .leaf _ _, h => h.1
  | .neg _ _, h => h.1
  | .two _ _ _ _, h => h.1
theorem Atom.at0 : ∀ a : Atom, atI a.vs 0 = some (.str a.word)
  | .cmp _ _ _ => rfl
  | .grp _ => rfl
  | .key _ => rfl
  | .all => rfl
theorem CT.at0 : ∀ t : CT, atI t.vs 0 = some (.str t.word)
  | .leaf _ a => a.at0
  | .neg _ _ => rfl
  | .two _ _ _ _ => rfl
theorem CT.At.ix0 {K : PySem.W.Frag} {H : Hp} {Q : VK} {t : CT} (h : t.At H) (q : Q (.str t.word) H) : rIxT K (.ref t.ad) (.int 0) H Q := Z.ixT (tupT h.tup) t.at0 q
def parts3 : List Str := ["not", "and", "or"]
def parts2 : List Str := ["and", "or"]
theorem leaf_no3 (a : Atom) : ¬ a.word ∈ parts3 := by
  cases a with
  | cmp a s n => cases a with
    | true => show ¬ (cmpW true ∈ parts3); decide +kernel
    | false => show ¬ (cmpW false ∈ parts3); decide +kernel
  | grp s => show ¬ (("group" : Str) ∈ parts3); decide +kernel
  | key s => show ¬ (("key" : Str) ∈ parts3); decide +kernel
  | all => show ¬ (("all" : Str) ∈ parts3); decide +kernel
theorem neg_in3 : ("not" : Str) ∈ parts3 := by decide +kernel
theorem two_in3 (o : Bool) : twoW o ∈ parts3 := by cases o <;> decide +kernel
/-! ### samphire.conditions -/
def spParts (K : PySem.W.Frag) : Sp := fun vs H Q _ => ∃ t : CT, vs = [.ref t.ad] ∧ t.At H ∧ t.size ≤ 1000 ∧ ∀ H' l, H l = none → Kp [] H H' → H' l = some (.lst (crefs t.post)) → Q (.ref l) H'
theorem ok_parts_first {P : Program} {w : World} {K : PySem.W.Frag} {mg : Str → Option Value} {base : Heap} (T : T P K mg) : FnOk P w K mg base CX0 1 T.a_parts_first T.fd_parts_first ["condition"] (spParts K) := by
  refine T.F_parts_first.ok sc_parts_first (fun vs H Q E h => ?_) (fun cdv A outer s H vs Q E hr h => ?_)
  · obtain ⟨t, rfl, _⟩ := h
    rfl
  · obtain ⟨t, rfl, ht, hz, q⟩ := h
    refine ⟨_, (pss_cons (ps_set (i := 1) sc_parts_first.nd rfl (by first | exact Or.inl rfl | exact Or.inr rfl) (pe_lst pa_nil))
      (pss_cons (ps_set (i := 2) sc_parts_first.nd rfl (by first | exact Or.inl rfl | exact Or.inr rfl) (pe_lst (pa_cons (pv 0) pa_nil)))
      (pss_cons (ps_while PassesOwn.never (pt_truth (pv 2) (by intro _; rfl)) (pss_cons (ps_set (i := 3) sc_parts_first.nd rfl (by first | exact Or.inl rfl | exact Or.inr rfl) (pe_bm0 PySem.F.plainAttrs_list PySem.F.slot_list_pop PySem.F.type_list_pop mt_pop (pv 2)))
      (pss_cons (ps_expr (pe_bm PySem.F.plainAttrs_list PySem.F.slot_list_append PySem.F.type_list_append mt_append (pv 1) (pa_cons (pv 3) pa_nil)))
      (pss_one (ps_if (pt_cmpR op_in_seq (pe_ix ix_tup (pv 3) pe_int (fun _ _ => rfl)) (pe_tup (pa_cons pe_str (pa_cons pe_str (pa_cons pe_str pa_nil)))) rfl) (pss_one (ps_expr (pe_bm PySem.F.plainAttrs_list PySem.F.slot_list_extend PySem.F.type_list_extend RL.mt_extendT (pv 2) (pa_cons (pe_slice sl_tup (pv 3) (po_some pe_int) po_none) pa_nil)))) pss_nil)))))
      (pss_one (ps_ret (pe_revL (pv 1))))))), ?_⟩
    walk_at "z0"
    walk_at "z"
    refine Z.lstK (fun F H1 nF k1 e1 => ?_)
    walk_at "z"
    refine Z.lstK (fun L H2 nL k2 e2 => ?_)
    have e2F := k2.get nin0 e1
    have nFL : F ≠ L := ne_of_none e1 nL
    have nL0 : H L = none := k1.none nin0 nL
    walk_at "z"
    refine Z.wh (fun m σ' H' => ∃ y3, ∃ (fs st : List CT), σ' = [some (.ref t.ad), some (.ref F), some (.ref L), y3] ∧ Kp [] H H' ∧ H' F = some (.lst (crefs fs)) ∧ H' L = some (.lst (crefs st.reverse)) ∧ (∀ c ∈ st, c.At H) ∧ t.pre = fs ++ st.flatMap CT.pre ∧ m = szs st ∧ fs.length + m = t.size) t.size ⟨_, [], [t], rfl, k1.trans k2, e2F, e2, by simpa using ht, by simp, by simp [szs], by simp⟩ ?_
    rintro m σ' H3 ⟨y3, fs, st, rfl, k3, e3F, e3L, hst, hpre, rfl, hsum⟩
    walk_at "z"
    refine Z.truL e3L ?_
    have hlen := szs_len st
    cases st with
    | nil =>
      rw [show (crefs ([] : List CT).reverse).isEmpty = true from rfl]
      walk_at "z"
      refine Z.lrk (lstL e3F) (fun p H4 np k4 e4 => ?_)
      refine q H4 p (k3.none nin0 np) (k3.trans k4) ?_
      rw [List.flatMap_nil, List.append_nil] at hpre
      rw [e4, ← post_pre, hpre]
      unfold crefs
      rw [List.map_reverse]
    | cons x rest =>
      have hx : x.At H := hst x (by simp)
      have hne : (crefs (x :: rest).reverse).isEmpty = false := by
        unfold crefs
        rw [List.isEmpty_map, List.isEmpty_eq_false_iff]
        simp
      rw [hne]
      walk_at "z"
      refine Z.whb ?_
      walk_at "z"
      refine ⟨Z.tyL e3L, ?_⟩
      rw [List.reverse_cons, crefs_append] at e3L
      refine Z.popS (y := .ref x.ad) e3L ?_
      have k4 : Kp [L] H3 (upd H3 L (.lst (crefs rest.reverse))) := Kp.put (by simp)
      have e4L : (upd H3 L (.lst (crefs rest.reverse))) L = some (.lst (crefs rest.reverse)) := upd_same
      revert k4 e4L
      generalize upd H3 L (.lst (crefs rest.reverse)) = H4
      intro k4 e4L
      have e4F := k4.get (nin1 nFL) e3F
      rw [szs_cons] at hsum
      rw [List.length_cons, szs_cons] at hlen
      walk_at "z"
      refine ⟨Z.tyL e4F, ?_⟩
      walk_at "z"
      refine Z.app e4F (Z.szl (m := 1000) (by rw [crefs_len]; omega)) ?_
      have k5 : Kp [F] H4 (upd H4 F (.lst (crefs fs ++ [.ref x.ad]))) := Kp.put (by simp)
      have e5F : (upd H4 F (.lst (crefs fs ++ [.ref x.ad]))) F = some (.lst (crefs fs ++ [.ref x.ad])) := upd_same
      revert k5 e5F
      generalize upd H4 F (.lst (crefs fs ++ [.ref x.ad])) = H5
      intro k5 e5F
      have e5L := k5.get (nin1 nFL.symm) e4L
      have k05 : Kp [] H H5 := (k3.then1 k4 nL0).then1 k5 nF
      have e5F' : H5 F = some (.lst (crefs (fs ++ [x]))) := by rw [crefs_append]; exact e5F
      have hx5 : x.At H5 := hx.kp0 k05
      have hpre' : t.pre = (fs ++ [x]) ++ (x.pre.tail ++ rest.flatMap CT.pre) := by
        rw [hpre, List.flatMap_cons, List.append_assoc]
        cases x <;> rfl
      walk_at "z"
      refine hx5.ix0 ?_
      walk_at "z"
      refine Z.tupK (fun c3 H6 nc k6 e6 => ?_)
      refine Z.inq (xs := parts3.map V.str) (.inr (tupT e6)) rfl Z.strs_flat ?_
      rw [Z.inV_strs]
      walk_at "z"
      have e6F := k6.get nin0 e5F'
      have e6L := k6.get nin0 e5L
      have k06 := k05.trans k6
      have hx6 := hx5.kp0 k6
      cases x with
      | leaf p a =>
        refine Z.no (leaf_no3 a) ?_
        walk_at "z"
        refine ⟨szs rest, by rw [szs_cons, CT.size]; omega, _, fs ++ [.leaf p a], rest, rfl, k06, e6F, e6L, fun c hc => hst c (by simp [hc]), hpre', rfl, ?_⟩
        rw [CT.size] at hsum
        rw [List.length_append, List.length_singleton]
        omega
      | neg p c =>
        rw [CT.size] at hsum hlen
        refine Z.yes neg_in3 ?_
        walk_at "z"
        refine ⟨Z.tyL e6L, ?_⟩
        walk_at "z"
        refine Z.slT (k := 1) (tupT hx6.tup) (by decide) (by simp [CT.vs]) (fun d H7 nd k7 e7 => ?_)
        have e7L := k7.get nin0 e6L
        walk_at "z"
        refine Z.extT e7L e7 (by rw [crefs_len, List.length_reverse]; simp [CT.vs]; omega) ?_
        walk_at "z"
        refine ⟨szs (c :: rest), by rw [szs_cons, szs_cons, CT.size]; omega, _, fs ++ [.neg p c], c :: rest, rfl, (k06.trans k7).mut nL0 rfl, ?_, ?_, ?_, ?_, rfl, ?_⟩
        · rw [upd_ne nFL]; exact k7.get nin0 e6F
        · rw [upd_same, List.reverse_cons, crefs_append]; rfl
        · intro z hz
          rcases List.mem_cons.mp hz with rfl | hz
          · exact hx.2
          · exact hst z (by simp [hz])
        · rw [hpre', List.flatMap_cons]; rfl
        · rw [List.length_append, List.length_singleton, szs_cons]
          omega
      | two p o c d2 =>
        rw [CT.size] at hsum hlen
        refine Z.yes (two_in3 o) ?_
        walk_at "z"
        refine ⟨Z.tyL e6L, ?_⟩
        walk_at "z"
        refine Z.slT (k := 1) (tupT hx6.tup) (by decide) (by simp [CT.vs]) (fun d H7 nd k7 e7 => ?_)
        have e7L := k7.get nin0 e6L
        walk_at "z"
        refine Z.extT e7L e7 (by rw [crefs_len, List.length_reverse]; simp [CT.vs]; omega) ?_
        walk_at "z"
        refine ⟨szs (d2 :: c :: rest), by rw [szs_cons, szs_cons, szs_cons, CT.size]; omega, _, fs ++ [.two p o c d2], d2 :: c :: rest, rfl, (k06.trans k7).mut nL0 rfl, ?_, ?_, ?_, ?_, rfl, ?_⟩
        · rw [upd_ne nFL]; exact k7.get nin0 e6F
        · rw [upd_same, List.reverse_cons, List.reverse_cons, List.append_assoc, crefs_append]; rfl
        · intro z hz
          rcases List.mem_cons.mp hz with rfl | hz
          · exact hx.2.2
          · rcases List.mem_cons.mp hz with rfl | hz
            · exact hx.2.1
            · exact hst z (by simp [hz])
        · rw [hpre', List.flatMap_cons, List.flatMap_cons]
          show fs ++ [_] ++ ((d2.pre ++ c.pre) ++ _) = _
          rw [List.append_assoc d2.pre]
        · rw [List.length_append, List.length_singleton, szs_cons, szs_cons]
          omega
def spCompares : Sp := fun vs H Q _ => ∃ (x y : Int) (s : Str), vs = [.int x, .str s, .int y] ∧ Q (.bl (cmpB s x y)) H
theorem ok_compares {P : Program} {w : World} {K : PySem.W.Frag} {mg : Str → Option Value} {base : Heap} (T : T P K mg) : FnOk P w K mg base CX0 1 T.a_compares T.fd_compares ["number", "sign", "other"] spCompares := by
  refine T.F_compares.ok sc_compares (fun vs H Q E h => ?_) (fun cdv A outer s H vs Q E hr h => ?_)
  · obtain ⟨x, y, s, rfl, _⟩ := h
    rfl
  · obtain ⟨x, y, s, rfl, q⟩ := h
    refine ⟨_, (pss_cons (ps_if (pt_cmpR op_eq (pv 1) pe_str (nomark _)) (pss_one (ps_ret (pe_cmpR op_lt (pv 0) (pv 2) (nomark _)))) pss_nil)
      (pss_cons (ps_if (pt_cmpR op_eq (pv 1) pe_str (nomark _)) (pss_one (ps_ret (pe_cmpR op_le (pv 0) (pv 2) (nomark _)))) pss_nil)
      (pss_cons (ps_if (pt_cmpR op_eq (pv 1) pe_str (nomark _)) (pss_one (ps_ret (pe_cmpR op_eq (pv 0) (pv 2) (nomark _)))) pss_nil)
      (pss_cons (ps_if (pt_cmpR op_eq (pv 1) pe_str (nomark _)) (pss_one (ps_ret (pe_cmpR op_ge (pv 0) (pv 2) (nomark _)))) pss_nil)
      (pss_one (ps_ret (pe_cmpR op_gt (pv 0) (pv 2) (nomark _)))))))), ?_⟩
    unfold cmpB at q
    walk_at "z0"
    walk_at "z"
    refine Z.ite (fun h1 => ?_) (fun h1 => ?_)
    · rw [if_pos h1] at q
      walk_at "z"
      exact q
    · rw [if_neg h1] at q
      walk_at "z"
      refine Z.ite (fun h2 => ?_) (fun h2 => ?_)
      · rw [if_pos h2] at q
        walk_at "z"
        exact q
      · rw [if_neg h2] at q
        walk_at "z"
        refine Z.ite (fun h3 => ?_) (fun h3 => ?_)
        · rw [if_pos h3] at q
          walk_at "z"
          exact q
        · rw [if_neg h3] at q
          walk_at "z"
          refine Z.ite (fun h4 => ?_) (fun h4 => ?_)
          · rw [if_pos h4] at q
            walk_at "z"
            exact q
          · rw [if_neg h4] at q
            walk_at "z"
            exact q
def spAtom : Sp := fun vs H Q _ => ∃ (p i : Addr) (a : Atom) (r : Row), vs = [.ref p, .ref i] ∧ H p = some (.tup a.vs) ∧ RowAt H i r ∧ Q (.bl (a.holds r)) H
theorem ok_atom_holds {P : Program} {w : World} {K : PySem.W.Frag} {mg : Str → Option Value} {base : Heap} (T : T P K mg) : FnOk P w K mg base CX0 2 T.a_atom_holds T.fd_atom_holds ["atom", "item"] spAtom := by
  refine T.F_atom_holds.ok sc_atom_holds (fun vs H Q E h => ?_) (fun cdv A outer s H vs Q E hr h => ?_)
  · obtain ⟨p, i, a, r, rfl, _⟩ := h
    rfl
  · obtain ⟨p, i, a, r, rfl, hp, hi, q⟩ := h
    refine ⟨_, (pss_cons (ps_asg (pv 1) (pg_tup rfl (pgs_cons (pg_name (i := 2) sc_atom_holds.nd rfl (by first | exact Or.inl rfl | exact Or.inr rfl)) (pgs_cons (pg_name (i := 3) sc_atom_holds.nd rfl (by first | exact Or.inl rfl | exact Or.inr rfl)) (pgs_cons (pg_name (i := 4) sc_atom_holds.nd rfl (by first | exact Or.inl rfl | exact Or.inr rfl)) (pgs_cons (pg_name (i := 5) sc_atom_holds.nd rfl (by first | exact Or.inl rfl | exact Or.inr rfl)) pgs_nil))))))
      (pss_cons (ps_set (i := 6) sc_atom_holds.nd rfl (by first | exact Or.inl rfl | exact Or.inr rfl) (pe_ix ix_tup (pv 0) pe_int (fun _ _ => rfl)))
      (pss_cons (ps_if (pt_cmpR op_eq (pv 6) pe_str (nomark _)) (pss_one (ps_ret (pe_cmpR op_eq (pv 2) (pe_ix ix_tup (pv 0) pe_int (fun _ _ => rfl)) (nomark _)))) pss_nil)
      (pss_cons (ps_if (pt_cmpR op_eq (pv 6) pe_str (nomark _)) (pss_one (ps_ret (pe_cmpR op_eq (pv 3) (pe_ix ix_tup (pv 0) pe_int (fun _ _ => rfl)) (nomark _)))) pss_nil)
      (pss_cons (ps_if (pt_cmpR op_eq (pv 6) pe_str (nomark _)) (pss_one (ps_ret (pe_call (ok_compares T) (hr.mono (by decide)) (by rfl) T.g_compares T.F_compares.kp T.b_compares .nil pass0 (pa_cons (pv 4) (pa_cons (pe_ix ix_tup (pv 0) pe_int (fun _ _ => rfl)) (pa_cons (pe_ix ix_tup (pv 0) pe_int (fun _ _ => rfl)) pa_nil)))))) pss_nil)
      (pss_cons (ps_if (pt_cmpR op_eq (pv 6) pe_str (nomark _)) (pss_one (ps_ret (pe_call (ok_compares T) (hr.mono (by decide)) (by rfl) T.g_compares T.F_compares.kp T.b_compares .nil pass0 (pa_cons (pv 5) (pa_cons (pe_ix ix_tup (pv 0) pe_int (fun _ _ => rfl)) (pa_cons (pe_ix ix_tup (pv 0) pe_int (fun _ _ => rfl)) pa_nil)))))) pss_nil)
      (pss_one (ps_ret pe_bl)))))))), ?_⟩
    walk_at "z0"
    walk_at "z"
    refine Z.gtup (tupT hi) rfl ?_
    dsimp only [Row.vs]
    walk_at "z"
    refine Z.ixT (tupT hp) a.at0 ?_
    walk_at "z"
    cases a with
    | cmp b s n =>
      cases b with
      | true =>
        dsimp only [Atom.word]
        refine Z.no (by decide +kernel) ?_
        walk_at "z"
        refine Z.no (by decide +kernel) ?_
        walk_at "z"
        refine Z.no (by decide +kernel) ?_
        walk_at "z"
        refine Z.yes (by decide +kernel) ?_
        walk_at "z"
        refine Z.ixT (v := .str s) (tupT hp) rfl ?_
        walk_at "z"
        refine Z.ixT (v := .int n) (tupT hp) rfl ?_
        exact ⟨_, _, _, rfl, q⟩
      | false =>
        dsimp only [Atom.word]
        refine Z.no (by decide +kernel) ?_
        walk_at "z"
        refine Z.no (by decide +kernel) ?_
        walk_at "z"
        refine Z.yes (by decide +kernel) ?_
        walk_at "z"
        refine Z.ixT (v := .str s) (tupT hp) rfl ?_
        walk_at "z"
        refine Z.ixT (v := .int n) (tupT hp) rfl ?_
        exact ⟨_, _, _, rfl, q⟩
    | grp s =>
      dsimp only [Atom.word]
      refine Z.no (by decide +kernel) ?_
      walk_at "z"
      refine Z.yes rfl ?_
      walk_at "z"
      refine Z.ixT (v := .str s) (tupT hp) rfl ?_
      walk_at "z"
      exact q
    | key s =>
      dsimp only [Atom.word]
      refine Z.yes rfl ?_
      walk_at "z"
      refine Z.ixT (v := .str s) (tupT hp) rfl ?_
      walk_at "z"
      exact q
    | all =>
      dsimp only [Atom.word]
      refine Z.no (by decide +kernel) ?_
      walk_at "z"
      refine Z.no (by decide +kernel) ?_
      walk_at "z"
      refine Z.no (by decide +kernel) ?_
      walk_at "z"
      refine Z.no (by decide +kernel) ?_
      walk_at "z"
      exact q
/-! a stack of bools, the top first -/
def CT.step (r : Row) : List Bool → CT → Option (List Bool)
  | st, .leaf _ a => some (a.holds r :: st)
  | b :: s, .neg _ _ => some ((!b) :: s)
  | b :: a :: s, .two _ o _ _ => some ((if o then a || b else a && b) :: s)
  | _, _ => none
def runs (r : Row) : List CT → List Bool → Option (List Bool)
  | [], st => some st
  | x :: l, st => match CT.step r st x with
    | none => none
    | some s => runs r l s
theorem runs_cons {r : Row} {x : CT} {l : List CT} {st : List Bool} : runs r (x :: l) st = match CT.step r st x with | none => none | some s => runs r l s := rfl
theorem runs_append {r : Row} : ∀ {l m : List CT} {st s : List Bool}, runs r l st = some s → runs r (l ++ m) st = runs r m s
  | [], _, _, _, h => by cases h; rfl
  | x :: l, m, st, s, h => by
    rw [runs_cons] at h
    rw [List.cons_append, runs_cons]
    cases e : CT.step r st x with
    | none => rw [e] at h; cases h
    | some z =>
      rw [e] at h
      exact runs_append (l := l) h
theorem runs_post {r : Row} : ∀ (t : CT) (st : List Bool), runs r t.post st = some (t.holds r :: st)
  | .leaf _ _, _ => rfl
  | .neg p c, st => by
    rw [CT.post, runs_append (runs_post c st)]; rfl
  | .two p o c d, st => by
    rw [CT.post, runs_append (runs_post c st), runs_append (runs_post d _)]
    cases o <;> rfl
theorem runs_take {r : Row} : ∀ {l : List CT} {st s : List Bool}, runs r l st = some s → ∀ i, ∃ z, runs r (l.take i) st = some z
  | _, st, _, _, 0 => ⟨st, by rw [List.take_zero]; rfl⟩
  | [], st, _, _, i + 1 => ⟨st, rfl⟩
  | x :: l, st, s, h, i + 1 => by
    rw [runs_cons] at h
    rw [List.take_succ_cons, runs_cons]
    cases e : CT.step r st x with
    | none => rw [e] at h; cases h
    | some z =>
      rw [e] at h
      exact runs_take (l := l) h i
theorem runs_step {r : Row} {l : List CT} {i : Nat} {x : CT} {st s z : List Bool} (h : l[i]? = some x) (h1 : runs r (l.take i) st = some s) (h2 : runs r (l.take (i + 1)) st = some z) : CT.step r s x = some z := by
  rw [List.take_add_one, h, runs_append h1] at h2
  change (match CT.step r s x with | none => none | some s => some s) = some z at h2
  cases e : CT.step r s x with
  | none => rw [e] at h2; cases h2
  | some y => rw [e] at h2; exact h2
def spLast (K : PySem.W.Frag) : Sp := fun vs H Q _ => ∃ (l p : Addr) (t : CT) (r : Row), vs = [.ref l, .ref p] ∧ H l = some (.lst (crefs t.post)) ∧ t.At H ∧ t.size ≤ 1000 ∧ RowAt H p r ∧ ∀ H', Kp [] H H' → Q (.bl (t.holds r)) H'
theorem leaf_no2 (a : Atom) : ¬ a.word ∈ parts2 := fun h => leaf_no3 a (by
  unfold parts3
  exact List.mem_cons_of_mem _ h)
theorem leaf_not (a : Atom) : ¬ a.word = "not" := fun h => leaf_no3 a (by rw [h]; exact neg_in3)
theorem bools_rev (b : Bool) (s : List Bool) : ((b :: s).reverse.map V.bl) = s.reverse.map V.bl ++ [.bl b] := by rw [List.reverse_cons, List.map_append]; rfl
theorem ok_last_holds {P : Program} {w : World} {K : PySem.W.Frag} {mg : Str → Option Value} {base : Heap} (T : T P K mg) : FnOk P w K mg base CX0 3 T.a_last_holds T.fd_last_holds ["conditions", "item"] (spLast K) := by
  refine T.F_last_holds.ok sc_last_holds (fun vs H Q E h => ?_) (fun cdv A outer s H vs Q E hr h => ?_)
  · obtain ⟨l, p, t, r, rfl, _⟩ := h
    rfl
  · obtain ⟨l, p, t, r, rfl, hl, ht, hz, hp, q⟩ := h
    refine ⟨_, (pss_cons (ps_set (i := 2) sc_last_holds.nd rfl (by first | exact Or.inl rfl | exact Or.inr rfl) (pe_lst pa_nil))
      (pss_cons (ps_for PassesOwn.never rfl (pi_list (pv 0)) (pg_name (i := 3) sc_last_holds.nd rfl (by first | exact Or.inl rfl | exact Or.inr rfl)) (pss_cons (ps_set (i := 4) sc_last_holds.nd rfl (by first | exact Or.inl rfl | exact Or.inr rfl) (pe_ix ix_tup (pv 3) pe_int (fun _ _ => rfl)))
      (pss_one (ps_if (pt_cmpR op_eq (pv 4) pe_str (nomark _)) (pss_one (ps_expr (pe_bm PySem.F.plainAttrs_list PySem.F.slot_list_append PySem.F.type_list_append mt_append (pv 2) (pa_cons (pe_not (pe_bm0 PySem.F.plainAttrs_list PySem.F.slot_list_pop PySem.F.type_list_pop mt_pop (pv 2))) pa_nil)))) (pss_one (ps_if (pt_cmpR op_in_seq (pv 4) (pe_tup (pa_cons pe_str (pa_cons pe_str pa_nil))) rfl) (pss_cons (ps_set (i := 5) sc_last_holds.nd rfl (by first | exact Or.inl rfl | exact Or.inr rfl) (pe_bm0 PySem.F.plainAttrs_list PySem.F.slot_list_pop PySem.F.type_list_pop mt_pop (pv 2)))
      (pss_cons (ps_set (i := 6) sc_last_holds.nd rfl (by first | exact Or.inl rfl | exact Or.inr rfl) (pe_bm0 PySem.F.plainAttrs_list PySem.F.slot_list_pop PySem.F.type_list_pop mt_pop (pv 2)))
      (pss_one (ps_if (pt_cmpR op_eq (pv 4) pe_str (nomark _)) (pss_one (ps_expr (pe_bm PySem.F.plainAttrs_list PySem.F.slot_list_append PySem.F.type_list_append mt_append (pv 2) (pa_cons (pe_and (pv 6) (pe_one (pv 5))) pa_nil)))) (pss_one (ps_expr (pe_bm PySem.F.plainAttrs_list PySem.F.slot_list_append PySem.F.type_list_append mt_append (pv 2) (pa_cons (pe_or (pv 6) (pe_one (pv 5))) pa_nil)))))))) (pss_one (ps_expr (pe_bm PySem.F.plainAttrs_list PySem.F.slot_list_append PySem.F.type_list_append mt_append (pv 2) (pa_cons (pe_call (ok_atom_holds T) (hr.mono (by decide)) (by rfl) T.g_atom_holds T.F_atom_holds.kp T.b_atom_holds .nil pass0 (pa_cons (pv 3) (pa_cons (pv 1) pa_nil))) pa_nil))))))))))
      (pss_one (ps_ret (pe_ix ix_list (pv 2) pe_int (fun _ _ => rfl)))))), ?_⟩
    walk_at "z0"
    walk_at "z"
    refine Z.lstK (fun R H1 nR k1 e1 => ?_)
    walk_at "z"
    have hrun := runs_post (r := r) t []
    refine Z.forl (crefs t.post) (lstL (k1.get nin0 hl)) (fun i σ' H' => ∃ y3 y4 y5 y6, ∃ st : List Bool, σ' = [some (.ref l), some (.ref p), some (.ref R), y3, y4, y5, y6] ∧ Kp [] H H' ∧ H' R = some (.lst (st.reverse.map V.bl)) ∧ st.length ≤ i ∧ runs r (t.post.take i) [] = some st) ⟨_, _, _, _, [], rfl, k1, e1, by simp, rfl⟩ ?_ ?_ ?_
    · rintro i σ' H' hi ⟨y3, y4, y5, y6, st, rfl, k2, e2, hsl, hst⟩
      exact lstL (k2.get nin0 hl)
    · rintro i v σ' H2 hv ⟨y3, y4, y5, y6, st, rfl, k2, e2, hsl, hst⟩
      obtain ⟨x, hx, rfl⟩ := crefs_of hv
      have hil : i < t.post.length := (List.getElem?_eq_some_iff.mp hx).1
      rw [post_len] at hil
      have hxa : x.At H2 := (post_at ht x (List.mem_of_getElem? hx)).kp0 k2
      obtain ⟨st', hst'⟩ := runs_take hrun (i + 1)
      have hstep := runs_step hx hst hst'
      walk_at "z"
      refine hxa.ix0 ?_
      walk_at "z"
      cases x with
      | leaf px a =>
        dsimp only [CT.word]
        refine Z.no (leaf_not a) ?_
        walk_at "z"
        refine Z.tupK (fun c2 H3 nc k3 e3 => ?_)
        refine Z.inq (xs := parts2.map V.str) (.inr (tupT e3)) rfl Z.strs_flat ?_
        rw [Z.inV_strs]
        have e3R := k3.get nin0 e2
        have k03 := k2.trans k3
        walk_at "z"
        refine Z.no (leaf_no2 a) ?_
        walk_at "z"
        refine ⟨Z.tyL e3R, ?_⟩
        walk_at "z"
        refine ⟨_, _, a, r, rfl, (hxa.kp0 k3).tup, k03.get nin0 hp, ?_⟩
        walk_at "z"
        refine Z.app e3R (Z.szl (m := 1000) (by rw [List.length_map, List.length_reverse]; omega)) ?_
        walk_at "z"
        cases hstep
        exact ⟨_, _, _, _, a.holds r :: st, rfl, k03.mut nR rfl, by rw [upd_same, bools_rev], by simp; omega, hst'⟩
      | neg px c =>
        dsimp only [CT.word]
        refine Z.yes rfl ?_
        walk_at "z"
        refine ⟨Z.tyL e2, ?_⟩
        walk_at "z"
        refine ⟨Z.tyL e2, ?_⟩
        cases st with
        | nil => cases hstep
        | cons b s =>
          cases hstep
          rw [bools_rev] at e2
          refine Z.popS (y := .bl b) e2 ?_
          walk_at "z"
          refine Z.app upd_same (Z.szl (m := 1000) (by rw [List.length_map, List.length_reverse]; rw [List.length_cons] at hsl; omega)) ?_
          rw [upd_upd]
          walk_at "z"
          exact ⟨_, _, _, _, (!b) :: s, rfl, k2.mut nR rfl, by rw [upd_same, bools_rev], by rw [List.length_cons] at hsl ⊢; omega, hst'⟩
      | two px o c d =>
        dsimp only [CT.word]
        refine Z.no (by cases o <;> decide +kernel) ?_
        walk_at "z"
        refine Z.tupK (fun c2 H3 nc k3 e3 => ?_)
        refine Z.inq (xs := parts2.map V.str) (.inr (tupT e3)) rfl Z.strs_flat ?_
        rw [Z.inV_strs]
        have e3R := k3.get nin0 e2
        have k03 := k2.trans k3
        walk_at "z"
        refine Z.yes (by cases o <;> decide +kernel) ?_
        walk_at "z"
        refine ⟨Z.tyL e3R, ?_⟩
        match st, hstep, hsl, e3R with
        | [], hstep, _, _ => cases hstep
        | [_], hstep, _, _ => cases hstep
        | b :: a :: s, hstep, hsl, e3R =>
          cases hstep
          rw [bools_rev] at e3R
          refine Z.popS (y := .bl b) e3R ?_
          walk_at "z"
          refine ⟨Z.tyL upd_same, ?_⟩
          have e4 : (upd H3 R (.lst ((a :: s).reverse.map V.bl))) R = some (.lst (s.reverse.map V.bl ++ [.bl a])) := by rw [upd_same, bools_rev]
          refine Z.popS (y := .bl a) e4 ?_
          rw [upd_upd]
          have hs10 : s.reverse.length ≤ 1000 := by
            rw [List.length_reverse]
            rw [List.length_cons, List.length_cons] at hsl
            omega
          walk_at "z"
          cases o with
          | true =>
            refine Z.no (by decide +kernel) ?_
            walk_at "z"
            refine ⟨Z.tyL upd_same, ?_⟩
            walk_at "z"
            cases a with
            | true =>
              walk_at "z"
              refine Z.app upd_same (Z.szl (m := 1000) (by rw [List.length_map]; exact hs10)) ?_
              rw [upd_upd]
              walk_at "z"
              exact ⟨_, _, _, _, _, rfl, k03.mut nR rfl, by rw [upd_same, bools_rev]; rfl, by rw [List.length_cons, List.length_cons] at hsl; rw [List.length_cons]; omega, hst'⟩
            | false =>
              walk_at "z"
              refine Z.app upd_same (Z.szl (m := 1000) (by rw [List.length_map]; exact hs10)) ?_
              rw [upd_upd]
              walk_at "z"
              exact ⟨_, _, _, _, _, rfl, k03.mut nR rfl, by rw [upd_same, bools_rev]; rfl, by rw [List.length_cons, List.length_cons] at hsl; rw [List.length_cons]; omega, hst'⟩
          | false =>
            refine Z.yes (by decide +kernel) ?_
            walk_at "z"
            refine ⟨Z.tyL upd_same, ?_⟩
            walk_at "z"
            cases a with
            | true =>
              walk_at "z"
              refine Z.app upd_same (Z.szl (m := 1000) (by rw [List.length_map]; exact hs10)) ?_
              rw [upd_upd]
              walk_at "z"
              exact ⟨_, _, _, _, _, rfl, k03.mut nR rfl, by rw [upd_same, bools_rev]; rfl, by rw [List.length_cons, List.length_cons] at hsl; rw [List.length_cons]; omega, hst'⟩
            | false =>
              walk_at "z"
              refine Z.app upd_same (Z.szl (m := 1000) (by rw [List.length_map]; exact hs10)) ?_
              rw [upd_upd]
              walk_at "z"
              exact ⟨_, _, _, _, _, rfl, k03.mut nR rfl, by rw [upd_same, bools_rev]; rfl, by rw [List.length_cons, List.length_cons] at hsl; rw [List.length_cons]; omega, hst'⟩
    · rintro σ' H2 ⟨y3, y4, y5, y6, st, rfl, k2, e2, hsl, hst⟩
      rw [crefs_len, List.take_length, hrun] at hst
      cases hst
      walk_at "z"
      refine Z.ixL (v := .bl (t.holds r)) (lstL e2) rfl ?_
      exact q H2 k2
def spLHeld (K : PySem.W.Frag) : Sp := fun vs H Q _ => ∃ (t : CT) (p : Addr) (r : Row), vs = [.ref t.ad, .ref p] ∧ t.At H ∧ t.size ≤ 1000 ∧ RowAt H p r ∧ ∀ H', Kp [] H H' → Q (.bl (t.holds r)) H'

theorem ok_held {P : Program} {w : World} {K : PySem.W.Frag} {mg : Str → Option Value} {base : Heap} (T : T P K mg) : FnOk P w K mg base CX0 4 T.a_held T.fd_held ["condition", "item"] (spLHeld K) := by
  refine T.F_held.ok sc_held (fun vs H Q E h => ?_) (fun cdv A outer s H vs Q E hr h => ?_)
  · obtain ⟨t, p, r, rfl, _⟩ := h
    rfl
  · obtain ⟨t, p, r, rfl, ht, hz, hp, q⟩ := h
    refine ⟨_, (pss_one (ps_ret (pe_call (ok_last_holds T) (hr.mono (by decide)) (by rfl) T.g_last_holds T.F_last_holds.kp T.b_last_holds .nil pass0 (pa_cons (pe_call (ok_parts_first T) (hr.mono (by decide)) (by rfl) T.g_parts_first T.F_parts_first.kp T.b_parts_first .nil pass0 (pa_cons (pv 0) pa_nil)) (pa_cons (pv 1) pa_nil))))), ?_⟩
    walk_at "z0"
    walk_at "z"
    refine ⟨t, rfl, ht, hz, fun H1 l nl k1 e1 => ?_⟩
    walk_at "z"
    refine ⟨l, p, t, r, rfl, e1, ht.kp0 k1, hz, k1.get nin0 hp, fun H2 k2 => ?_⟩
    exact q H2 (k1.trans k2)
theorem fit_ok : ∀ {a : Atom}, Fit a → a.Ok
  | .cmp _ _ _, h => h.1
  | .grp _, _ => trivial
  | .key _, _ => trivial
  | .all, _ => trivial
theorem ct_of {H : Hp} : ∀ {t : PT} {v : V}, TrAt H t v → Fits t → ∃ c : CT, v = .ref c.ad ∧ c.At H ∧ c.size = t.nodes
  | .leaf a, v, ⟨p, e, h⟩, f => ⟨.leaf p a, e, ⟨h, fit_ok f⟩, rfl⟩
  | .neg c, v, ⟨p, u, e, h, h1⟩, f => by
    obtain ⟨c', rfl, a1, s1⟩ := ct_of (t := c) h1 f
    exact ⟨.neg p c', e, ⟨h, a1⟩, by show c'.size + 1 = c.nodes + 1; rw [s1]⟩
  | .two o c d, v, ⟨p, u, x, e, h, h1, h2⟩, f => by
    obtain ⟨c', rfl, a1, s1⟩ := ct_of (t := c) h1 f.1
    obtain ⟨d', rfl, a2, s2⟩ := ct_of (t := d) h2 f.2
    exact ⟨.two p o c' d', e, ⟨h, a1, a2⟩, by show c'.size + d'.size + 1 = c.nodes + d.nodes + 1; rw [s1, s2]⟩

/-! ### the law -/
theorem PTx.uniq {z : Str} {t u : PT} (h1 : PTx z t) (h2 : PTx z u) : t = u := by
  obtain ⟨l, a1, a2⟩ := h1
  obtain ⟨m, b1, b2⟩ := h2
  rw [a1] at b1
  cases b1
  rw [a2] at b2
  cases b2
  rfl
structure Facts (y : Str) (u : PT) : Prop where
  fits : Fits u
  back : PTx (wr u) u
  sz : szT (TL.tl (wr u)) = szT (TL.tl y)
  lp : lpT (TL.tl (wr u)) ≤ lpT (TL.tl y)
  len : (wr u).length ≤ 600
  psz : psz u ≤ 800
  dpt : u.dpt ≤ 62
  nodes : u.nodes ≤ 189
theorem facts_of {y : Str} {u : PT} (h : PTx y u) (hs : szT (TL.tl y) ≤ 189) : Facts y u := by
  obtain ⟨l, e1, e2⟩ := h
  obtain ⟨t1, t2⟩ := text_sz e1
  obtain ⟨f, s1, s2⟩ := whole_eat e2
  have hd := whole_dp e2
  obtain ⟨l2, g1, g2⟩ := toks_wr5 f
  obtain ⟨r1, r2⟩ := text_sz g1
  rw [g2] at r1 r2
  have t1' : szW (l.map Prod.fst) = szT (TL.tl y) := t1
  have t2' : lpW (l.map Prod.fst) = lpT (TL.tl y) := t2
  have r1' : szW (tw u) = szT (TL.tl (wr u)) := r1
  have r2' : lpW (tw u) = lpT (TL.tl (wr u)) := r2
  obtain ⟨b1, b2, b3, b4⟩ := bd_of f
  exact ⟨f, ⟨l2, g1, by rw [g2]; exact whole_wr5 f hd⟩, by omega, by omega, by omega, by omega, by omega, by omega⟩
theorem good_text {t : PT} (hg : t.Good) (hd : t.dep ≤ 3) : (wr t).length ≤ 447 ∧ szT (TL.tl (wr t)) ≤ 149 := by
  have f := good_fits hg
  obtain ⟨l2, g1, g2⟩ := toks_wr5 f
  obtain ⟨r1, r2⟩ := text_sz g1
  rw [g2] at r1
  have r1' : szW (tw t) = szT (TL.tl (wr t)) := r1
  have hb := (bd_of f).len
  have h1 := good_szW hg
  have h2 : 2 ^ t.dep ≤ 2 ^ 3 := Nat.pow_le_pow_right (by decide) hd
  omega
def spLaw (K : PySem.W.Frag) : Sp := fun vs H Q _ => ∃ (a : Addr) (ns : List Int), vs = [.ref a] ∧ SqL K H a (ns.map V.int) ∧ ns.length ≤ 63 ∧ (∀ z ∈ ns, Builtin.Int.intBits z ≤ 1048576) ∧ ∀ H', Q (.bl true) H'
theorem ok_law {P : Program} {w : World} {K : PySem.W.Frag} {mg : Str → Option Value} {base : Heap} (T : T P K mg) : FnOk P w K mg base CX0 132 T.a_law T.fd_law ["script"] (spLaw K) := by
  refine T.F_law.ok sc_law (fun vs H Q E h => ?_) (fun cdv A outer s H vs Q E hr h => ?_)
  · obtain ⟨a, ns, rfl, _⟩ := h
    rfl
  · obtain ⟨c, ns, rfl, hS, hlen, hb, q⟩ := h
    refine ⟨_, (pss_cons (ps_set (i := 1) sc_law.nd rfl (by first | exact Or.inl rfl | exact Or.inr rfl) (pe_call (ok__law_draws T) (hr.mono (by decide)) (by rfl) T.g__law_draws T.F__law_draws.kp T.b__law_draws .nil pass0 (pa_cons (pv 0) pa_nil)))
      (pss_cons (ps_set (i := 2) sc_law.nd rfl (by first | exact Or.inl rfl | exact Or.inr rfl) (pe_call (ok__law_items T) (hr.mono (by decide)) (by rfl) T.g__law_items T.F__law_items.kp T.b__law_items .nil pass0 (pa_cons (pv 1) (pa_cons pe_int pa_nil))))
      (pss_cons (ps_set (i := 3) sc_law.nd rfl (by first | exact Or.inl rfl | exact Or.inr rfl) (pe_call (ok__law_written T) (hr.mono (by decide)) (by rfl) T.g__law_written T.F__law_written.kp T.b__law_written .nil pass0 (pa_cons (pe_call (ok__law_condition T) (hr.mono (by decide)) (by rfl) T.g__law_condition T.F__law_condition.kp T.b__law_condition .nil pass0 (pa_cons (pv 1) (pa_cons pe_int pa_nil))) pa_nil)))
      (pss_cons (ps_for PassesOwn.never rfl (pi_range1 (by rfl) T.z_range (pa_cons pe_int pa_nil)) (pg_name (i := 4) sc_law.nd rfl (by first | exact Or.inl rfl | exact Or.inr rfl)) (pss_cons (ps_set (i := 3) sc_law.nd rfl (by first | exact Or.inl rfl | exact Or.inr rfl) (pe_call (ok__law_changed T) (hr.mono (by decide)) (by rfl) T.g__law_changed T.F__law_changed.kp T.b__law_changed .nil pass0 (pa_cons (pv 1) (pa_cons (pv 3) pa_nil))))
      (pss_cons (ps_set (i := 5) sc_law.nd rfl (by first | exact Or.inl rfl | exact Or.inr rfl) (pe_call (ok__law_parsed T) (hr.mono (by decide)) (by rfl) T.g__law_parsed T.F__law_parsed.kp T.b__law_parsed .nil pass0 (pa_cons (pv 3) pa_nil)))
      (pss_one (ps_if (pt_cmpR o_notN (pv 5) pe_non (nomark _)) (pss_cons (ps_set (i := 6) sc_law.nd rfl (by first | exact Or.inl rfl | exact Or.inr rfl) (pe_call (ok_write_condition T) (hr.mono (by decide)) (by rfl) T.g_write_condition T.F_write_condition.kp T.b_write_condition .nil pass0 (pa_cons (pv 5) pa_nil)))
      (pss_cons (ps_if (PW.pt (pw_or (pt_cmpR (op_neD hr.units) (pe_call (ok__law_parsed T) (hr.mono (by decide)) (by rfl) T.g__law_parsed T.F__law_parsed.kp T.b__law_parsed .nil pass0 (pa_cons (pv 6) pa_nil)) (pv 5) (nomark _)) (pw_or1 (pt_cmpR op_ne (pe_call (ok__law_size T) (hr.mono (by decide)) (by rfl) T.g__law_size T.F__law_size.kp T.b__law_size .nil pass0 (pa_cons (pv 6) pa_nil)) (pe_call (ok__law_size T) (hr.mono (by decide)) (by rfl) T.g__law_size T.F__law_size.kp T.b__law_size .nil pass0 (pa_cons (pv 3) pa_nil)) (nomark _))))) (pss_one (ps_ret pe_bl)) pss_nil)
      (pss_cons (ps_if (pt_cmpR op_gt (pe_callB c_len (by rfl) T.z_len (by decide +kernel) (pa_cons (pe_lc (own := [("sign", 9)]) (g := gName 9) rfl sc_law.nd (pi_str (pv 6)) (blkOk_by (own := [("sign", 9)]) (N := N_law) (sc := defScope s_law) (by decide +kernel)) (fun _ _ _ _ _ => (pg_name (i := 9) sc_law.nd rfl (by first | exact Or.inl rfl | exact Or.inr rfl))) (fun _ _ _ _ _ => (pts_one (pt_cmpR op_eq (pv 9) pe_str (nomark _)))) (fun _ _ _ _ _ => (pv 9))) pa_nil)) (pe_callB c_len (by rfl) T.z_len (by decide +kernel) (pa_cons (pe_lc (own := [("sign", 9)]) (g := gName 9) rfl sc_law.nd (pi_str (pv 3)) (blkOk_by (own := [("sign", 9)]) (N := N_law) (sc := defScope s_law) (by decide +kernel)) (fun _ _ _ _ _ => (pg_name (i := 9) sc_law.nd rfl (by first | exact Or.inl rfl | exact Or.inr rfl))) (fun _ _ _ _ _ => (pts_one (pt_cmpR op_eq (pv 9) pe_str (nomark _)))) (fun _ _ _ _ _ => (pv 9))) pa_nil)) (nomark _)) (pss_one (ps_ret pe_bl)) pss_nil)
      (pss_one (ps_for PassesOwn.never rfl (pi_list (pv 2)) (pg_name (i := 7) sc_law.nd rfl (by first | exact Or.inl rfl | exact Or.inr rfl)) (pss_one (ps_if (pt_not (pt_val (pe_callB call_isi (by rfl) T.z_isinstance (by decide +kernel) (pa_cons (pe_call (ok_held T) (hr.mono (by decide)) (by rfl) T.g_held T.F_held.kp T.b_held .nil pass0 (pa_cons (pv 5) (pa_cons (pv 7) pa_nil))) (pa_cons (pe_bltn (v := .ty "bool") (by rfl) T.z_bool (by decide +kernel) rfl) pa_nil))))) (pss_one (ps_ret pe_bl)) pss_nil))))))) pss_nil)))))
      (pss_cons (ps_set (i := 3) sc_law.nd rfl (by first | exact Or.inl rfl | exact Or.inr rfl) (pe_call (ok_write_items T) (hr.mono (by decide)) (by rfl) T.g_write_items T.F_write_items.kp T.b_write_items .nil pass0 (pa_cons (pv 2) pa_nil)))
      (pss_cons (ps_for PassesOwn.never rfl (pi_range1 (by rfl) T.z_range (pa_cons pe_int pa_nil)) (pg_name (i := 4) sc_law.nd rfl (by first | exact Or.inl rfl | exact Or.inr rfl)) (pss_cons (ps_set (i := 3) sc_law.nd rfl (by first | exact Or.inl rfl | exact Or.inr rfl) (pe_call (ok__law_changed T) (hr.mono (by decide)) (by rfl) T.g__law_changed T.F__law_changed.kp T.b__law_changed .nil pass0 (pa_cons (pv 1) (pa_cons (pv 3) pa_nil))))
      (pss_cons (ps_set (i := 8) sc_law.nd rfl (by first | exact Or.inl rfl | exact Or.inr rfl) (pe_call (ok__law_read T) (hr.mono (by decide)) (by rfl) T.g__law_read T.F__law_read.kp T.b__law_read .nil pass0 (pa_cons (pv 3) pa_nil)))
      (pss_one (ps_if (PW.pt (pw_and (pt_cmpR o_notN (pv 8) pe_non (nomark _)) (pw_and1 (PW.pt (pw_or (pt_cmpR o_notN (pe_call (ok_check_items T) (hr.mono (by decide)) (by rfl) T.g_check_items T.F_check_items.kp T.b_check_items .nil pass0 (pa_cons (pv 8) pa_nil)) pe_non (nomark _)) (pw_or1 (pt_cmpR (op_neD hr.units) (pe_call (ok__law_read T) (hr.mono (by decide)) (by rfl) T.g__law_read T.F__law_read.kp T.b__law_read .nil pass0 (pa_cons (pe_call (ok_write_items T) (hr.mono (by decide)) (by rfl) T.g_write_items T.F_write_items.kp T.b_write_items .nil pass0 (pa_cons (pv 8) pa_nil)) pa_nil)) (pv 8) (nomark _)))))))) (pss_one (ps_ret pe_bl)) pss_nil)))))
      (pss_one (ps_ret pe_bl)))))))), ?_⟩
    walk_at "z0"
    walk_at "z"
    refine ⟨c, ns, rfl, hS, hlen, hb, fun a H1 na k1 d1 => ?_⟩
    walk_at "z"
    refine ⟨a, 6, rfl, d1, by decide, fun H2 p ps np I hl6 => ?_⟩
    have nap : a ≠ p := d1.ne np
    walk_at "z"
    refine ⟨a, 3, rfl, by decide, I.dr, fun H3 t v k3 d3 ht hg hd => ?_⟩
    walk_at "z"
    refine ⟨t, v, rfl, ht, hg, by omega, by omega, fun H4 k4 => ?_⟩
    obtain ⟨gl, gs⟩ := good_text hg (by omega)
    have hok : ∀ x ∈ ps, RowG x.2 := fun x hx => (I.ok x hx).gg
    have e4 := k4.get nin0 (k3.get (nin1 nap.symm) I.at_)
    have r4 := (I.rows.kpd k3 I.dr).kp0 k4
    have d4 := d3.kp0 k4
    walk_at "z"
    refine Z.forr 5 (by rfl) (by decide) (fun i σ' H' => ∃ x y4 y5 y6 y7, σ' = [some (.ref c), some (.ref a), some (.ref p), some (.str x), y4, y5, y6, y7, none, none] ∧ DrawsAt H' a ∧ H' p = some (.lst (refs ps)) ∧ RowsAt H' ps ∧ x.length ≤ 447 + 8 * i ∧ szT (TL.tl x) ≤ 149 + 8 * i) ⟨wr t, _, _, _, _, rfl, d4, e4, r4, by omega, by omega⟩ ?_ ?_
    · rintro i σ' H5 hi ⟨x, y4, y5, y6, y7, rfl, d5, e5, r5, hxl, hxs⟩
      walk_at "z"
      refine ⟨a, x, rfl, d5, by omega, fun H6 y hn k6 d6 => ?_⟩
      have hyl := hn.len
      have hys := hn.sz
      have e6 := k6.get (nin1 nap.symm) e5
      have r6 := r5.kpd k6 d5
      walk_at "z"
      refine ⟨y, rfl, by omega, fun u hu H7 v7 k7 hv7 => ?_, fun hno H7 k7 => ?_⟩
      · have F := facts_of hu (by omega)
        have d7 := d6.kp0 k7
        have e7 := k7.get nin0 e6
        have r7 := r6.kp0 k7
        have hF1 := F.len
        have hF2 := F.psz
        obtain ⟨ct, hct, hat, hcs⟩ := ct_of hv7 F.fits
        walk_at "z"
        refine Z.yesN (by rw [hct]; simp) ?_
        walk_at "z"
        refine ⟨u, v7, rfl, hv7, fits_sz F.fits, by omega, by omega, fun H8 k8 => ?_⟩
        have hv8 := hv7.kp0 k8
        walk_at "z"
        refine ⟨wr u, rfl, by omega, fun u2 hu2 H9 v9 k9 hv9 => ?_, fun hno => absurd F.back (hno u)⟩
        obtain rfl := F.back.uniq hu2
        have hv89 := hv8.kp0 k9
        walk_at "z"
        refine neTree hv9 hv89 F.fits F.dpt ?_
        walk_at "z"
        refine ⟨wr u, rfl, by omega, fun H10 k10 => ?_⟩
        walk_at "z"
        refine ⟨y, rfl, by omega, fun H11 k11 => ?_⟩
        walk_at "z"
        refine Z.noN (congrArg (fun n : Nat => (n : Int)) F.sz) ?_
        walk_at "z"
        refine Z.lcs (fun D i H' => Kp [] H11 H' ∧ H' D = some (.lst ((((TL.tl (wr u)).take i).filter lpc).map sgV))) (fun D HX nD kX eX => ⟨kX, eX⟩) ?_ ?_
        · rintro D j cc HX nD hc ⟨kX, eX⟩
          rw [← Array.getElem?_toList] at hc
          have hsucc := take_filter_succ (p := lpc) hc
          dsimp only [wipe, List.set]
          walk_at "z"
          refine ⟨rfl, ?_⟩
          walk_at "z"
          refine Z.ite (fun h3 => ?_) (fun h3 => ?_)
          · walk_at "z"
            refine ⟨_, eX, Z.szl (m := 2000) ?_, kX.mut nD rfl, ?_⟩
            · rw [List.length_map]
              refine Nat.le_trans (List.length_filter_le _ _) (Nat.le_trans (List.length_take_le' _ _) ?_)
              have := sz_list (wr u)
              show (wr u).cps.toList.length ≤ 2000
              omega
            · rw [upd_same]
              have e9 : ((TL.tl (wr u)).take (j + 1)).filter lpc = ((TL.tl (wr u)).take j).filter lpc ++ [cc] := hsucc.trans (by rw [if_pos (show lpc cc = true from decide_eq_true h3)])
              rw [e9, List.map_append]; rfl
          · walk_at "z"
            refine ⟨kX, ?_⟩
            have e9 : ((TL.tl (wr u)).take (j + 1)).filter lpc = ((TL.tl (wr u)).take j).filter lpc := hsucc.trans (by rw [if_neg (show ¬ lpc cc = true from fun z => h3 (of_decide_eq_true z)), List.append_nil])
            rw [e9]
            exact eX
        rintro Dk12 H12 nDk12 ⟨k12, e12⟩
        rw [List.take_of_length_le (by have := sz_list (wr u); show (wr u).cps.toList.length ≤ (wr u).cps.size; rw [Array.length_toList]; exact Nat.le_refl _)] at e12
        walk_at "z"
        refine Z.lenL (lstL e12) ?_
        rw [List.length_map]
        walk_at "z"
        refine Z.lcs (fun D i H' => Kp [] H12 H' ∧ H' D = some (.lst ((((TL.tl y).take i).filter lpc).map sgV))) (fun D HX nD kX eX => ⟨kX, eX⟩) ?_ ?_
        · rintro D j cc HX nD hc ⟨kX, eX⟩
          rw [← Array.getElem?_toList] at hc
          have hsucc := take_filter_succ (p := lpc) hc
          dsimp only [wipe, List.set]
          walk_at "z"
          refine ⟨rfl, ?_⟩
          walk_at "z"
          refine Z.ite (fun h3 => ?_) (fun h3 => ?_)
          · walk_at "z"
            refine ⟨_, eX, Z.szl (m := 2000) ?_, kX.mut nD rfl, ?_⟩
            · rw [List.length_map]
              refine Nat.le_trans (List.length_filter_le _ _) (Nat.le_trans (List.length_take_le' _ _) ?_)
              have := sz_list y
              show y.cps.toList.length ≤ 2000
              omega
            · rw [upd_same]
              have e9 : ((TL.tl y).take (j + 1)).filter lpc = ((TL.tl y).take j).filter lpc ++ [cc] := hsucc.trans (by rw [if_pos (show lpc cc = true from decide_eq_true h3)])
              rw [e9, List.map_append]; rfl
          · walk_at "z"
            refine ⟨kX, ?_⟩
            have e9 : ((TL.tl y).take (j + 1)).filter lpc = ((TL.tl y).take j).filter lpc := hsucc.trans (by rw [if_neg (show ¬ lpc cc = true from fun z => h3 (of_decide_eq_true z)), List.append_nil])
            rw [e9]
            exact eX
        rintro Dk13 H13 nDk13 ⟨k13, e13⟩
        rw [List.take_of_length_le (by have := sz_list y; show y.cps.toList.length ≤ y.cps.size; rw [Array.length_toList]; exact Nat.le_refl _)] at e13
        walk_at "z"
        refine Z.lenL (lstL e13) ?_
        rw [List.length_map]
        walk_at "z"
        have hlp : ((TL.tl (wr u)).filter lpc).length ≤ ((TL.tl y).filter lpc).length := F.lp
        refine Z.no (by omega) ?_
        walk_at "z"
        have kk : Kp [] H7 H13 := k8.trans (k9.trans (k10.trans (k11.trans (k12.trans k13))))
        have d13 := d7.kp0 kk
        have e13p := kk.get nin0 e7
        have r13 := r7.kp0 kk
        have hat13 := hat.kp0 kk
        have hnod := F.nodes
        refine Z.forl (refs ps) (lstL e13p) (fun j σ' H' => ∃ z7, σ' = [some (.ref c), some (.ref a), some (.ref p), some (.str y), some (.int (i : Int)), some v7, some (.str (wr u)), z7, none, none] ∧ Kp [] H13 H') ⟨_, rfl, Kp.refl _⟩ ?_ ?_ ?_
        · rintro j σ' H' hj ⟨z7, rfl, kj⟩
          exact lstL (kj.get nin0 e13p)
        · rintro j v σ' H14 hv ⟨z7, rfl, kj⟩
          obtain ⟨x, hx, rfl⟩ := refs_of hv
          walk_at "z"
          refine ⟨ct, x.1, x.2, by rw [hct]; rfl, hat13.kp0 kj, by omega, r13.kp0 kj x (List.mem_of_getElem? hx), fun H15 k15 => ?_⟩
          walk_at "z"
          refine Z.isi (A := "bool") (b := true) (.base (.bl _)) (by decide +kernel) ?_
          walk_at "z"
          exact ⟨_, rfl, kj.trans k15⟩
        · rintro σ' H14 ⟨z7, rfl, kj⟩
          walk_at "z"
          exact ⟨_, _, _, _, _, rfl, d13.kp0 kj, kj.get nin0 e13p, r13.kp0 kj, by omega, by omega⟩
      · walk_at "z"
        refine Z.noN rfl ?_
        walk_at "z"
        exact ⟨_, _, _, _, _, rfl, d6.kp0 k7, k7.get nin0 e6, r6.kp0 k7, by omega, by omega⟩
    · rintro σ' H5 ⟨x, y4, y5, y6, y7, rfl, d5, e5, r5, hxl, hxs⟩
      walk_at "z"
      refine ⟨p, ps, rfl, e5, r5, by omega, fun x hx => (hok x hx).t, fun H6 k6 => ?_⟩
      have htx : (ps.map fun x => lineN x.2) = (ps.map fun x => x.2).map lineN := by rw [List.map_map]; rfl
      have hrl := textR_len (rs := ps.map fun x => x.2) (fun r hr => by obtain ⟨x, hx, rfl⟩ := List.mem_map.mp hr; exact hok x hx)
      unfold textR at hrl
      rw [List.length_map, ← htx] at hrl
      generalize Txt.join "" (ps.map fun x => lineN x.2) = tx at hrl
      have d6 := d5.kp0 k6
      walk_at "z"
      refine Z.forr 5 (by rfl) (by decide) (fun i σ' H' => ∃ x y4 y5 y6 y7 y8, σ' = [some (.ref c), some (.ref a), some (.ref p), some (.str x), y4, y5, y6, y7, y8, none] ∧ DrawsAt H' a ∧ x.length ≤ 360 + 8 * i) ⟨tx, _, _, _, _, _, rfl, d6, by omega⟩ ?_ ?_
      · rintro i σ' H7 hi ⟨x, y4, y5, y6, y7, y8, rfl, d7, hxl⟩
        walk_at "z"
        refine ⟨a, x, rfl, d7, by omega, fun H8 y hn k8 d8 => ?_⟩
        have hyl := hn.len
        walk_at "z"
        refine ⟨y, rfl, by omega, fun hr H9 p9 qs np9 k9 e9 r9 hqs => ?_, fun hr H9 k9 => ?_⟩
        · have hG := rowsX_ok hr
          rw [← hqs] at hG
          have hql : qs.length ≤ 1000 := by have := hG.len; rwa [List.length_map] at this
          have hqo : ∀ x ∈ qs, RowG x.2 := fun x hx => hG.ok _ (List.mem_map_of_mem hx)
          have d9 := d8.kp0 k9
          walk_at "z"
          refine Z.yesN (by simp) ?_
          walk_at "z"
          refine ⟨p9, qs, rfl, e9, r9, fun x hx => (hqo x hx).s, hql, fun H10 v o k10 ho hv => ?_⟩
          obtain rfl := (first_none hG).uniq ho
          have hv : v = .non := hv
          subst hv
          have e10 := k10.get nin0 e9
          have r10 := r9.kp0 k10
          walk_at "z"
          refine Z.noN rfl ?_
          walk_at "z"
          refine ⟨p9, qs, rfl, e10, r10, hql, fun x hx => (hqo x hx).t, fun H11 k11 => ?_⟩
          have hty : (qs.map fun x => lineN x.2) = (qs.map fun x => x.2).map lineN := by rw [List.map_map]; rfl
          have e11 := k11.get nin0 e10
          have r11 := r10.kp0 k11
          obtain ⟨b1, b2⟩ := textR_back hG
          have hl2 := textR_len hG.ok
          rw [List.length_map] at hl2
          have hte : Txt.join "" (qs.map fun x => lineN x.2) = textR (qs.map fun x => x.2) := by unfold textR; rw [hty]
          rw [hte]
          walk_at "z"
          refine ⟨_, rfl, by omega, fun hr2 H12 p12 qs2 np12 k12 e12 r12 hq2 => ?_, fun hr2 => absurd b1 hr2⟩
          rw [b2] at hq2
          walk_at "z"
          refine neRows2 e12 (k12.get nin0 e11) r12 (r11.kp0 k12) hq2 (fun x hx => ?_) ?_
          · have : x.2 ∈ qs2.map fun x => x.2 := List.mem_map_of_mem hx
            rw [hq2] at this
            exact (hG.ok _ this).s
          walk_at "z"
          exact ⟨_, _, _, _, _, _, rfl, ((d9.kp0 k10).kp0 k11).kp0 k12, by omega⟩
        · walk_at "z"
          refine Z.noN rfl ?_
          walk_at "z"
          exact ⟨_, _, _, _, _, _, rfl, d8.kp0 k9, by omega⟩
      · rintro σ' H7 ⟨x, y4, y5, y6, y7, y8, rfl, d7, hxl⟩
        walk_at "z"
        exact q _

set_option maxHeartbeats 4000000 in
theorem all_mk {l : PySem.W.OpenLaw} {w : World} {K : PySem.W.Frag} {h : Heap} {mg : Str → Option Value} {fa : Addr} (X : K.In h) (G : h.Ns mainGlobals mg) (hfa : mg "law" = some (.ref fa))
    {CSamphireError : Addr}
    {CTextError fTextError cTextError ccTextError : Addr}
    {CTooLarge fTooLarge cTooLarge ccTooLarge : Addr}
    {CConditionReader : Addr}
    {od1 an1 : Option Addr} {sl1 : Array (Option Value)} {oc1 kV1 dc1 pm1 cd1 ct1 : Value} {f1 : Addr}
    {od2 an2 : Option Addr} {sl2 : Array (Option Value)} {oc2 kV2 dc2 pm2 cd2 ct2 : Value} {f2 : Addr}
    {od3 an3 : Option Addr} {sl3 : Array (Option Value)} {oc3 kV3 dc3 pm3 cd3 ct3 : Value} {f3 : Addr}
    {od4 an4 : Option Addr} {sl4 : Array (Option Value)} {oc4 kV4 dc4 pm4 cd4 ct4 : Value} {f4 : Addr}
    {od5 an5 : Option Addr} {sl5 : Array (Option Value)} {oc5 kV5 dc5 pm5 cd5 ct5 : Value} {f5 : Addr}
    {od6 an6 : Option Addr} {sl6 : Array (Option Value)} {oc6 kV6 dc6 pm6 cd6 ct6 : Value} {f6 : Addr}
    {od7 an7 : Option Addr} {sl7 : Array (Option Value)} {oc7 kV7 dc7 pm7 cd7 ct7 : Value} {f7 : Addr}
    {od8 an8 : Option Addr} {sl8 : Array (Option Value)} {oc8 kV8 dc8 pm8 cd8 ct8 : Value} {f8 : Addr}
    {od9 an9 : Option Addr} {sl9 : Array (Option Value)} {oc9 kV9 dc9 pm9 cd9 ct9 : Value} {f9 : Addr}
    {od10 an10 : Option Addr} {sl10 : Array (Option Value)} {oc10 kV10 dc10 pm10 cd10 ct10 : Value} {f10 : Addr}
    {od11 an11 : Option Addr} {sl11 : Array (Option Value)} {oc11 kV11 dc11 pm11 cd11 ct11 : Value} {f11 : Addr}
    {od12 an12 : Option Addr} {sl12 : Array (Option Value)} {oc12 kV12 dc12 pm12 cd12 ct12 : Value} {f12 : Addr}
    {od13 an13 : Option Addr} {sl13 : Array (Option Value)} {oc13 kV13 dc13 pm13 cd13 ct13 : Value} {f13 : Addr}
    {od14 an14 : Option Addr} {sl14 : Array (Option Value)} {oc14 kV14 dc14 pm14 cd14 ct14 : Value} {f14 : Addr}
    {od15 an15 : Option Addr} {sl15 : Array (Option Value)} {oc15 kV15 dc15 pm15 cd15 ct15 : Value} {f15 : Addr}
    {od16 an16 : Option Addr} {sl16 : Array (Option Value)} {oc16 kV16 dc16 pm16 cd16 ct16 : Value} {f16 : Addr}
    {od17 an17 : Option Addr} {sl17 : Array (Option Value)} {oc17 kV17 dc17 pm17 cd17 ct17 : Value} {f17 : Addr}
    {od18 an18 : Option Addr} {sl18 : Array (Option Value)} {oc18 kV18 dc18 pm18 cd18 ct18 : Value} {f18 : Addr}
    {od19 an19 : Option Addr} {sl19 : Array (Option Value)} {oc19 kV19 dc19 pm19 cd19 ct19 : Value} {f19 : Addr}
    {od20 an20 : Option Addr} {sl20 : Array (Option Value)} {oc20 kV20 dc20 pm20 cd20 ct20 : Value} {f20 : Addr}
    {od21 an21 : Option Addr} {sl21 : Array (Option Value)} {oc21 kV21 dc21 pm21 cd21 ct21 : Value} {f21 : Addr}
    {od22 an22 : Option Addr} {sl22 : Array (Option Value)} {oc22 kV22 dc22 pm22 cd22 ct22 : Value} {f22 : Addr}
    {od23 an23 : Option Addr} {sl23 : Array (Option Value)} {oc23 kV23 dc23 pm23 cd23 ct23 : Value} {f23 : Addr}
    {od24 an24 : Option Addr} {sl24 : Array (Option Value)} {oc24 kV24 dc24 pm24 cd24 ct24 : Value} {f24 : Addr}
    {od25 an25 : Option Addr} {sl25 : Array (Option Value)} {oc25 kV25 dc25 pm25 cd25 ct25 : Value} {f25 : Addr}
    {od26 an26 : Option Addr} {sl26 : Array (Option Value)} {oc26 kV26 dc26 pm26 cd26 ct26 : Value} {f26 : Addr}
    {od27 an27 : Option Addr} {sl27 : Array (Option Value)} {oc27 kV27 dc27 pm27 cd27 ct27 : Value} {f27 : Addr}
    {od28 an28 : Option Addr} {sl28 : Array (Option Value)} {oc28 kV28 dc28 pm28 cd28 ct28 : Value} {f28 : Addr}
    {od29 an29 : Option Addr} {sl29 : Array (Option Value)} {oc29 kV29 dc29 pm29 cd29 ct29 : Value} {f29 : Addr}
    {od30 an30 : Option Addr} {sl30 : Array (Option Value)} {oc30 kV30 dc30 pm30 cd30 ct30 : Value} {f30 : Addr}
    {od31 an31 : Option Addr} {sl31 : Array (Option Value)} {oc31 kV31 dc31 pm31 cd31 ct31 : Value} {f31 : Addr}
    {od32 an32 : Option Addr} {sl32 : Array (Option Value)} {oc32 kV32 dc32 pm32 cd32 ct32 : Value} {f32 : Addr}
    {od33 an33 : Option Addr} {sl33 : Array (Option Value)} {oc33 kV33 dc33 pm33 cd33 ct33 : Value} {f33 : Addr}
    {od34 an34 : Option Addr} {sl34 : Array (Option Value)} {oc34 kV34 dc34 pm34 cd34 ct34 : Value} {f34 : Addr}
    {od35 an35 : Option Addr} {sl35 : Array (Option Value)} {oc35 kV35 dc35 pm35 cd35 ct35 : Value} {f35 : Addr}
    {od36 an36 : Option Addr} {sl36 : Array (Option Value)} {oc36 kV36 dc36 pm36 cd36 ct36 : Value} {f36 : Addr}
    {od37 an37 : Option Addr} {sl37 : Array (Option Value)} {oc37 kV37 dc37 pm37 cd37 ct37 : Value} {f37 : Addr}
    {od38 an38 : Option Addr} {sl38 : Array (Option Value)} {oc38 kV38 dc38 pm38 cd38 ct38 : Value} {f38 : Addr}
    {od39 an39 : Option Addr} {sl39 : Array (Option Value)} {oc39 kV39 dc39 pm39 cd39 ct39 : Value} {f39 : Addr}
    {od40 an40 : Option Addr} {sl40 : Array (Option Value)} {oc40 kV40 dc40 pm40 cd40 ct40 : Value} {f40 : Addr}
    {od41 an41 : Option Addr} {sl41 : Array (Option Value)} {oc41 kV41 dc41 pm41 cd41 ct41 : Value} {f41 : Addr}
    {od42 an42 : Option Addr} {sl42 : Array (Option Value)} {oc42 kV42 dc42 pm42 cd42 ct42 : Value} {f42 : Addr}
    {od43 an43 : Option Addr} {sl43 : Array (Option Value)} {oc43 kV43 dc43 pm43 cd43 ct43 : Value} {f43 : Addr}
    {od44 an44 : Option Addr} {sl44 : Array (Option Value)} {oc44 kV44 dc44 pm44 cd44 ct44 : Value} {f44 : Addr}
    {od45 an45 : Option Addr} {sl45 : Array (Option Value)} {oc45 kV45 dc45 pm45 cd45 ct45 : Value} {f45 : Addr}
    {od46 an46 : Option Addr} {sl46 : Array (Option Value)} {oc46 kV46 dc46 pm46 cd46 ct46 : Value} {f46 : Addr}
    {od47 an47 : Option Addr} {sl47 : Array (Option Value)} {oc47 kV47 dc47 pm47 cd47 ct47 : Value} {f47 : Addr}
    {od48 an48 : Option Addr} {sl48 : Array (Option Value)} {oc48 kV48 dc48 pm48 cd48 ct48 : Value} {f48 : Addr}
    {od49 an49 : Option Addr} {sl49 : Array (Option Value)} {oc49 kV49 dc49 pm49 cd49 ct49 : Value} {f49 : Addr}
    {od50 an50 : Option Addr} {sl50 : Array (Option Value)} {oc50 kV50 dc50 pm50 cd50 ct50 : Value} {f50 : Addr}
    {nmTextError qTextError : Str} {NTextError : Addr} {bsTextError : List Value} {snTextError : List Str} {subTextError : List Value} {abTextError : Bool} {colTextError : Option Bool} {ddTextError : Option Addr} {m0TextError m1TextError m2TextError m3TextError m5TextError : Option Value} {occTextError : Value} {cddTextError : Option Addr} {cvsTextError : List Value} {cslTextError : Array (Option Value)} {cclTextError : Value} {ccdTextError : Option Addr} {ccsTextError : Array (Option Value)} {ocTextError : Value} {odTextError : Option Addr} {oslTextError : Array (Option Value)} {docTextError pmTextError ctvTextError : Value}
    {nmTooLarge qTooLarge : Str} {NTooLarge : Addr} {bsTooLarge : List Value} {snTooLarge : List Str} {subTooLarge : List Value} {abTooLarge : Bool} {colTooLarge : Option Bool} {ddTooLarge : Option Addr} {m0TooLarge m1TooLarge m2TooLarge m3TooLarge m5TooLarge : Option Value} {occTooLarge : Value} {cddTooLarge : Option Addr} {cvsTooLarge : List Value} {cslTooLarge : Array (Option Value)} {cclTooLarge : Value} {ccdTooLarge : Option Addr} {ccsTooLarge : Array (Option Value)} {ocTooLarge : Value} {odTooLarge : Option Addr} {oslTooLarge : Array (Option Value)} {docTooLarge pmTooLarge ctvTooLarge : Value}
    {t_DIGITS : Tok}
    {t_WORD_SIGNS : Tok}
    {t_MOST_IN_NAME : Tok}
    {t_MOST_WEIGHT : Tok}
    {t_MOST_AMOUNT : Tok}
    {t_MOST_OPEN : Tok}
    {t_MOST_NUMBER : Tok}
    {t_MOST_CHARACTERS_conditions : Tok}
    {t_MOST_CHARACTERS_reader : Tok}
    {t_MOST_LINES : Tok}
    {t_WORDS_OF_ITEM : Tok}
    {k_COMPARING : Addr} {od_COMPARING : Option Addr} {nn_COMPARING : Nat} {sl_COMPARING : Array (Option Value)} {t0_COMPARING t1_COMPARING t2_COMPARING t3_COMPARING t4_COMPARING : Tok}
    {k_ATOM_WORDS : Addr} {od_ATOM_WORDS : Option Addr} {nn_ATOM_WORDS : Nat} {sl_ATOM_WORDS : Array (Option Value)} {t0_ATOM_WORDS t1_ATOM_WORDS t2_ATOM_WORDS t3_ATOM_WORDS t4_ATOM_WORDS : Tok}
    (a1 : PySem.W.nsIn K mainGlobals "made_of" = some (some (.ref f1)))
    (l1 : K.lookup f1 = some ⟨oc1, od1, .func (PySem.W.fnOf "made_of" "made_of" (defArgs s_made_of) (defBody s_made_of) (defScope s_made_of) .none kV1 dc1 pm1 an1 cd1 ct1), sl1⟩)
    (c1 : PySem.W.codeIn K cd1 "made_of" = true)
    (k1 : PySem.W.keepIn K (.ref f1) = true)
    (a2 : PySem.W.nsIn K mainGlobals "lines_of" = some (some (.ref f2)))
    (l2 : K.lookup f2 = some ⟨oc2, od2, .func (PySem.W.fnOf "lines_of" "lines_of" (defArgs s_lines_of) (defBody s_lines_of) (defScope s_lines_of) .none kV2 dc2 pm2 an2 cd2 ct2), sl2⟩)
    (c2 : PySem.W.codeIn K cd2 "lines_of" = true)
    (k2 : PySem.W.keepIn K (.ref f2) = true)
    (a3 : PySem.W.nsIn K mainGlobals "words_of" = some (some (.ref f3)))
    (l3 : K.lookup f3 = some ⟨oc3, od3, .func (PySem.W.fnOf "words_of" "words_of" (defArgs s_words_of) (defBody s_words_of) (defScope s_words_of) .none kV3 dc3 pm3 an3 cd3 ct3), sl3⟩)
    (c3 : PySem.W.codeIn K cd3 "words_of" = true)
    (k3 : PySem.W.keepIn K (.ref f3) = true)
    (a4 : PySem.W.nsIn K mainGlobals "column_of" = some (some (.ref f4)))
    (l4 : K.lookup f4 = some ⟨oc4, od4, .func (PySem.W.fnOf "column_of" "column_of" (defArgs s_column_of) (defBody s_column_of) (defScope s_column_of) .none kV4 dc4 pm4 an4 cd4 ct4), sl4⟩)
    (c4 : PySem.W.codeIn K cd4 "column_of" = true)
    (k4 : PySem.W.keepIn K (.ref f4) = true)
    (a5 : PySem.W.nsIn K mainGlobals "writes_integer" = some (some (.ref f5)))
    (l5 : K.lookup f5 = some ⟨oc5, od5, .func (PySem.W.fnOf "writes_integer" "writes_integer" (defArgs s_writes_integer) (defBody s_writes_integer) (defScope s_writes_integer) .none kV5 dc5 pm5 an5 cd5 ct5), sl5⟩)
    (c5 : PySem.W.codeIn K cd5 "writes_integer" = true)
    (k5 : PySem.W.keepIn K (.ref f5) = true)
    (a6 : PySem.W.nsIn K mainGlobals "integer_within" = some (some (.ref f6)))
    (l6 : K.lookup f6 = some ⟨oc6, od6, .func (PySem.W.fnOf "integer_within" "integer_within" (defArgs s_integer_within) (defBody s_integer_within) (defScope s_integer_within) .none kV6 dc6 pm6 an6 cd6 ct6), sl6⟩)
    (c6 : PySem.W.codeIn K cd6 "integer_within" = true)
    (k6 : PySem.W.keepIn K (.ref f6) = true)
    (a7 : PySem.W.nsIn K mainGlobals "is_name" = some (some (.ref f7)))
    (l7 : K.lookup f7 = some ⟨oc7, od7, .func (PySem.W.fnOf "is_name" "is_name" (defArgs s_is_name) (defBody s_is_name) (defScope s_is_name) .none kV7 dc7 pm7 an7 cd7 ct7), sl7⟩)
    (c7 : PySem.W.codeIn K cd7 "is_name" = true)
    (k7 : PySem.W.keepIn K (.ref f7) = true)
    (a8 : PySem.W.nsIn K mainGlobals "reason_against" = some (some (.ref f8)))
    (l8 : K.lookup f8 = some ⟨oc8, od8, .func (PySem.W.fnOf "reason_against" "reason_against" (defArgs s_reason_against) (defBody s_reason_against) (defScope s_reason_against) .none kV8 dc8 pm8 an8 cd8 ct8), sl8⟩)
    (c8 : PySem.W.codeIn K cd8 "reason_against" = true)
    (k8 : PySem.W.keepIn K (.ref f8) = true)
    (a9 : PySem.W.nsIn K mainGlobals "check_items" = some (some (.ref f9)))
    (l9 : K.lookup f9 = some ⟨oc9, od9, .func (PySem.W.fnOf "check_items" "check_items" (defArgs s_check_items) (defBody s_check_items) (defScope s_check_items) .none kV9 dc9 pm9 an9 cd9 ct9), sl9⟩)
    (c9 : PySem.W.codeIn K cd9 "check_items" = true)
    (k9 : PySem.W.keepIn K (.ref f9) = true)
    (a10 : PySem.W.nsIn K mainGlobals "token_end" = some (some (.ref f10)))
    (l10 : K.lookup f10 = some ⟨oc10, od10, .func (PySem.W.fnOf "token_end" "token_end" (defArgs s_token_end) (defBody s_token_end) (defScope s_token_end) .none kV10 dc10 pm10 an10 cd10 ct10), sl10⟩)
    (c10 : PySem.W.codeIn K cd10 "token_end" = true)
    (k10 : PySem.W.keepIn K (.ref f10) = true)
    (a11 : PySem.W.nsIn K mainGlobals "tokens_of" = some (some (.ref f11)))
    (l11 : K.lookup f11 = some ⟨oc11, od11, .func (PySem.W.fnOf "tokens_of" "tokens_of" (defArgs s_tokens_of) (defBody s_tokens_of) (defScope s_tokens_of) .none kV11 dc11 pm11 an11 cd11 ct11), sl11⟩)
    (c11 : PySem.W.codeIn K cd11 "tokens_of" = true)
    (k11 : PySem.W.keepIn K (.ref f11) = true)
    (a12 : PySem.W.findIn K (.ref CConditionReader) "__init__" = some (some (.ref f12)))
    (i12 : PySem.W.isFn K (.ref f12) = true)
    (l12 : K.lookup f12 = some ⟨oc12, od12, .func (PySem.W.fnOf "__init__" "ConditionReader.__init__" (defArgs s_ConditionReader_init) (defBody s_ConditionReader_init) (defScope s_ConditionReader_init) .none kV12 dc12 pm12 an12 cd12 ct12), sl12⟩)
    (c12 : PySem.W.codeIn K cd12 "ConditionReader.__init__" = true)
    (k12 : PySem.W.keepIn K (.ref f12) = true)
    (a13 : PySem.W.findIn K (.ref CConditionReader) "whole" = some (some (.ref f13)))
    (i13 : PySem.W.isFn K (.ref f13) = true)
    (l13 : K.lookup f13 = some ⟨oc13, od13, .func (PySem.W.fnOf "whole" "ConditionReader.whole" (defArgs s_ConditionReader_whole) (defBody s_ConditionReader_whole) (defScope s_ConditionReader_whole) .none kV13 dc13 pm13 an13 cd13 ct13), sl13⟩)
    (c13 : PySem.W.codeIn K cd13 "ConditionReader.whole" = true)
    (k13 : PySem.W.keepIn K (.ref f13) = true)
    (a14 : PySem.W.findIn K (.ref CConditionReader) "_here" = some (some (.ref f14)))
    (i14 : PySem.W.isFn K (.ref f14) = true)
    (l14 : K.lookup f14 = some ⟨oc14, od14, .func (PySem.W.fnOf "_here" "ConditionReader._here" (defArgs s_ConditionReader__here) (defBody s_ConditionReader__here) (defScope s_ConditionReader__here) .none kV14 dc14 pm14 an14 cd14 ct14), sl14⟩)
    (c14 : PySem.W.codeIn K cd14 "ConditionReader._here" = true)
    (k14 : PySem.W.keepIn K (.ref f14) = true)
    (a15 : PySem.W.findIn K (.ref CConditionReader) "_refuse" = some (some (.ref f15)))
    (i15 : PySem.W.isFn K (.ref f15) = true)
    (l15 : K.lookup f15 = some ⟨oc15, od15, .func (PySem.W.fnOf "_refuse" "ConditionReader._refuse" (defArgs s_ConditionReader__refuse) (defBody s_ConditionReader__refuse) (defScope s_ConditionReader__refuse) .none kV15 dc15 pm15 an15 cd15 ct15), sl15⟩)
    (c15 : PySem.W.codeIn K cd15 "ConditionReader._refuse" = true)
    (k15 : PySem.W.keepIn K (.ref f15) = true)
    (a16 : PySem.W.findIn K (.ref CConditionReader) "_take" = some (some (.ref f16)))
    (i16 : PySem.W.isFn K (.ref f16) = true)
    (l16 : K.lookup f16 = some ⟨oc16, od16, .func (PySem.W.fnOf "_take" "ConditionReader._take" (defArgs s_ConditionReader__take) (defBody s_ConditionReader__take) (defScope s_ConditionReader__take) .none kV16 dc16 pm16 an16 cd16 ct16), sl16⟩)
    (c16 : PySem.W.codeIn K cd16 "ConditionReader._take" = true)
    (k16 : PySem.W.keepIn K (.ref f16) = true)
    (a17 : PySem.W.findIn K (.ref CConditionReader) "_go_in" = some (some (.ref f17)))
    (i17 : PySem.W.isFn K (.ref f17) = true)
    (l17 : K.lookup f17 = some ⟨oc17, od17, .func (PySem.W.fnOf "_go_in" "ConditionReader._go_in" (defArgs s_ConditionReader__go_in) (defBody s_ConditionReader__go_in) (defScope s_ConditionReader__go_in) .none kV17 dc17 pm17 an17 cd17 ct17), sl17⟩)
    (c17 : PySem.W.codeIn K cd17 "ConditionReader._go_in" = true)
    (k17 : PySem.W.keepIn K (.ref f17) = true)
    (a18 : PySem.W.findIn K (.ref CConditionReader) "_either" = some (some (.ref f18)))
    (i18 : PySem.W.isFn K (.ref f18) = true)
    (l18 : K.lookup f18 = some ⟨oc18, od18, .func (PySem.W.fnOf "_either" "ConditionReader._either" (defArgs s_ConditionReader__either) (defBody s_ConditionReader__either) (defScope s_ConditionReader__either) .none kV18 dc18 pm18 an18 cd18 ct18), sl18⟩)
    (c18 : PySem.W.codeIn K cd18 "ConditionReader._either" = true)
    (k18 : PySem.W.keepIn K (.ref f18) = true)
    (a19 : PySem.W.findIn K (.ref CConditionReader) "_both" = some (some (.ref f19)))
    (i19 : PySem.W.isFn K (.ref f19) = true)
    (l19 : K.lookup f19 = some ⟨oc19, od19, .func (PySem.W.fnOf "_both" "ConditionReader._both" (defArgs s_ConditionReader__both) (defBody s_ConditionReader__both) (defScope s_ConditionReader__both) .none kV19 dc19 pm19 an19 cd19 ct19), sl19⟩)
    (c19 : PySem.W.codeIn K cd19 "ConditionReader._both" = true)
    (k19 : PySem.W.keepIn K (.ref f19) = true)
    (a20 : PySem.W.findIn K (.ref CConditionReader) "_turned" = some (some (.ref f20)))
    (i20 : PySem.W.isFn K (.ref f20) = true)
    (l20 : K.lookup f20 = some ⟨oc20, od20, .func (PySem.W.fnOf "_turned" "ConditionReader._turned" (defArgs s_ConditionReader__turned) (defBody s_ConditionReader__turned) (defScope s_ConditionReader__turned) .none kV20 dc20 pm20 an20 cd20 ct20), sl20⟩)
    (c20 : PySem.W.codeIn K cd20 "ConditionReader._turned" = true)
    (k20 : PySem.W.keepIn K (.ref f20) = true)
    (a21 : PySem.W.findIn K (.ref CConditionReader) "_atom" = some (some (.ref f21)))
    (i21 : PySem.W.isFn K (.ref f21) = true)
    (l21 : K.lookup f21 = some ⟨oc21, od21, .func (PySem.W.fnOf "_atom" "ConditionReader._atom" (defArgs s_ConditionReader__atom) (defBody s_ConditionReader__atom) (defScope s_ConditionReader__atom) .none kV21 dc21 pm21 an21 cd21 ct21), sl21⟩)
    (c21 : PySem.W.codeIn K cd21 "ConditionReader._atom" = true)
    (k21 : PySem.W.keepIn K (.ref f21) = true)
    (a22 : PySem.W.findIn K (.ref CConditionReader) "_bracket" = some (some (.ref f22)))
    (i22 : PySem.W.isFn K (.ref f22) = true)
    (l22 : K.lookup f22 = some ⟨oc22, od22, .func (PySem.W.fnOf "_bracket" "ConditionReader._bracket" (defArgs s_ConditionReader__bracket) (defBody s_ConditionReader__bracket) (defScope s_ConditionReader__bracket) .none kV22 dc22 pm22 an22 cd22 ct22), sl22⟩)
    (c22 : PySem.W.codeIn K cd22 "ConditionReader._bracket" = true)
    (k22 : PySem.W.keepIn K (.ref f22) = true)
    (a23 : PySem.W.findIn K (.ref CConditionReader) "_number" = some (some (.ref f23)))
    (i23 : PySem.W.isFn K (.ref f23) = true)
    (l23 : K.lookup f23 = some ⟨oc23, od23, .func (PySem.W.fnOf "_number" "ConditionReader._number" (defArgs s_ConditionReader__number) (defBody s_ConditionReader__number) (defScope s_ConditionReader__number) .none kV23 dc23 pm23 an23 cd23 ct23), sl23⟩)
    (c23 : PySem.W.codeIn K cd23 "ConditionReader._number" = true)
    (k23 : PySem.W.keepIn K (.ref f23) = true)
    (a24 : PySem.W.nsIn K mainGlobals "parse_condition" = some (some (.ref f24)))
    (l24 : K.lookup f24 = some ⟨oc24, od24, .func (PySem.W.fnOf "parse_condition" "parse_condition" (defArgs s_parse_condition) (defBody s_parse_condition) (defScope s_parse_condition) .none kV24 dc24 pm24 an24 cd24 ct24), sl24⟩)
    (c24 : PySem.W.codeIn K cd24 "parse_condition" = true)
    (k24 : PySem.W.keepIn K (.ref f24) = true)
    (a25 : PySem.W.nsIn K mainGlobals "parts_first" = some (some (.ref f25)))
    (l25 : K.lookup f25 = some ⟨oc25, od25, .func (PySem.W.fnOf "parts_first" "parts_first" (defArgs s_parts_first) (defBody s_parts_first) (defScope s_parts_first) .none kV25 dc25 pm25 an25 cd25 ct25), sl25⟩)
    (c25 : PySem.W.codeIn K cd25 "parts_first" = true)
    (k25 : PySem.W.keepIn K (.ref f25) = true)
    (a26 : PySem.W.nsIn K mainGlobals "compares" = some (some (.ref f26)))
    (l26 : K.lookup f26 = some ⟨oc26, od26, .func (PySem.W.fnOf "compares" "compares" (defArgs s_compares) (defBody s_compares) (defScope s_compares) .none kV26 dc26 pm26 an26 cd26 ct26), sl26⟩)
    (c26 : PySem.W.codeIn K cd26 "compares" = true)
    (k26 : PySem.W.keepIn K (.ref f26) = true)
    (a27 : PySem.W.nsIn K mainGlobals "atom_holds" = some (some (.ref f27)))
    (l27 : K.lookup f27 = some ⟨oc27, od27, .func (PySem.W.fnOf "atom_holds" "atom_holds" (defArgs s_atom_holds) (defBody s_atom_holds) (defScope s_atom_holds) .none kV27 dc27 pm27 an27 cd27 ct27), sl27⟩)
    (c27 : PySem.W.codeIn K cd27 "atom_holds" = true)
    (k27 : PySem.W.keepIn K (.ref f27) = true)
    (a28 : PySem.W.nsIn K mainGlobals "last_holds" = some (some (.ref f28)))
    (l28 : K.lookup f28 = some ⟨oc28, od28, .func (PySem.W.fnOf "last_holds" "last_holds" (defArgs s_last_holds) (defBody s_last_holds) (defScope s_last_holds) .none kV28 dc28 pm28 an28 cd28 ct28), sl28⟩)
    (c28 : PySem.W.codeIn K cd28 "last_holds" = true)
    (k28 : PySem.W.keepIn K (.ref f28) = true)
    (a29 : PySem.W.nsIn K mainGlobals "held" = some (some (.ref f29)))
    (l29 : K.lookup f29 = some ⟨oc29, od29, .func (PySem.W.fnOf "held" "held" (defArgs s_held) (defBody s_held) (defScope s_held) .none kV29 dc29 pm29 an29 cd29 ct29), sl29⟩)
    (c29 : PySem.W.codeIn K cd29 "held" = true)
    (k29 : PySem.W.keepIn K (.ref f29) = true)
    (a30 : PySem.W.nsIn K mainGlobals "within" = some (some (.ref f30)))
    (l30 : K.lookup f30 = some ⟨oc30, od30, .func (PySem.W.fnOf "within" "within" (defArgs s_within) (defBody s_within) (defScope s_within) .none kV30 dc30 pm30 an30 cd30 ct30), sl30⟩)
    (c30 : PySem.W.codeIn K cd30 "within" = true)
    (k30 : PySem.W.keepIn K (.ref f30) = true)
    (a31 : PySem.W.nsIn K mainGlobals "pieces_of" = some (some (.ref f31)))
    (l31 : K.lookup f31 = some ⟨oc31, od31, .func (PySem.W.fnOf "pieces_of" "pieces_of" (defArgs s_pieces_of) (defBody s_pieces_of) (defScope s_pieces_of) .none kV31 dc31 pm31 an31 cd31 ct31), sl31⟩)
    (c31 : PySem.W.codeIn K cd31 "pieces_of" = true)
    (k31 : PySem.W.keepIn K (.ref f31) = true)
    (a32 : PySem.W.nsIn K mainGlobals "write_condition" = some (some (.ref f32)))
    (l32 : K.lookup f32 = some ⟨oc32, od32, .func (PySem.W.fnOf "write_condition" "write_condition" (defArgs s_write_condition) (defBody s_write_condition) (defScope s_write_condition) .none kV32 dc32 pm32 an32 cd32 ct32), sl32⟩)
    (c32 : PySem.W.codeIn K cd32 "write_condition" = true)
    (k32 : PySem.W.keepIn K (.ref f32) = true)
    (a33 : PySem.W.nsIn K mainGlobals "word_fault" = some (some (.ref f33)))
    (l33 : K.lookup f33 = some ⟨oc33, od33, .func (PySem.W.fnOf "word_fault" "word_fault" (defArgs s_word_fault) (defBody s_word_fault) (defScope s_word_fault) .none kV33 dc33 pm33 an33 cd33 ct33), sl33⟩)
    (c33 : PySem.W.codeIn K cd33 "word_fault" = true)
    (k33 : PySem.W.keepIn K (.ref f33) = true)
    (a34 : PySem.W.nsIn K mainGlobals "item_of" = some (some (.ref f34)))
    (l34 : K.lookup f34 = some ⟨oc34, od34, .func (PySem.W.fnOf "item_of" "item_of" (defArgs s_item_of) (defBody s_item_of) (defScope s_item_of) .none kV34 dc34 pm34 an34 cd34 ct34), sl34⟩)
    (c34 : PySem.W.codeIn K cd34 "item_of" = true)
    (k34 : PySem.W.keepIn K (.ref f34) = true)
    (a35 : PySem.W.nsIn K mainGlobals "line_fault" = some (some (.ref f35)))
    (l35 : K.lookup f35 = some ⟨oc35, od35, .func (PySem.W.fnOf "line_fault" "line_fault" (defArgs s_line_fault) (defBody s_line_fault) (defScope s_line_fault) .none kV35 dc35 pm35 an35 cd35 ct35), sl35⟩)
    (c35 : PySem.W.codeIn K cd35 "line_fault" = true)
    (k35 : PySem.W.keepIn K (.ref f35) = true)
    (a36 : PySem.W.nsIn K mainGlobals "read_items" = some (some (.ref f36)))
    (l36 : K.lookup f36 = some ⟨oc36, od36, .func (PySem.W.fnOf "read_items" "read_items" (defArgs s_read_items) (defBody s_read_items) (defScope s_read_items) .none kV36 dc36 pm36 an36 cd36 ct36), sl36⟩)
    (c36 : PySem.W.codeIn K cd36 "read_items" = true)
    (k36 : PySem.W.keepIn K (.ref f36) = true)
    (a37 : PySem.W.nsIn K mainGlobals "write_items" = some (some (.ref f37)))
    (l37 : K.lookup f37 = some ⟨oc37, od37, .func (PySem.W.fnOf "write_items" "write_items" (defArgs s_write_items) (defBody s_write_items) (defScope s_write_items) .none kV37 dc37 pm37 an37 cd37 ct37), sl37⟩)
    (c37 : PySem.W.codeIn K cd37 "write_items" = true)
    (k37 : PySem.W.keepIn K (.ref f37) = true)
    (a38 : PySem.W.nsIn K mainGlobals "_law_draws" = some (some (.ref f38)))
    (l38 : K.lookup f38 = some ⟨oc38, od38, .func (PySem.W.fnOf "_law_draws" "_law_draws" (defArgs s__law_draws) (defBody s__law_draws) (defScope s__law_draws) .none kV38 dc38 pm38 an38 cd38 ct38), sl38⟩)
    (c38 : PySem.W.codeIn K cd38 "_law_draws" = true)
    (k38 : PySem.W.keepIn K (.ref f38) = true)
    (a39 : PySem.W.nsIn K mainGlobals "_law_take" = some (some (.ref f39)))
    (l39 : K.lookup f39 = some ⟨oc39, od39, .func (PySem.W.fnOf "_law_take" "_law_take" (defArgs s__law_take) (defBody s__law_take) (defScope s__law_take) .none kV39 dc39 pm39 an39 cd39 ct39), sl39⟩)
    (c39 : PySem.W.codeIn K cd39 "_law_take" = true)
    (k39 : PySem.W.keepIn K (.ref f39) = true)
    (a40 : PySem.W.nsIn K mainGlobals "_law_name" = some (some (.ref f40)))
    (l40 : K.lookup f40 = some ⟨oc40, od40, .func (PySem.W.fnOf "_law_name" "_law_name" (defArgs s__law_name) (defBody s__law_name) (defScope s__law_name) .none kV40 dc40 pm40 an40 cd40 ct40), sl40⟩)
    (c40 : PySem.W.codeIn K cd40 "_law_name" = true)
    (k40 : PySem.W.keepIn K (.ref f40) = true)
    (a41 : PySem.W.nsIn K mainGlobals "_law_items" = some (some (.ref f41)))
    (l41 : K.lookup f41 = some ⟨oc41, od41, .func (PySem.W.fnOf "_law_items" "_law_items" (defArgs s__law_items) (defBody s__law_items) (defScope s__law_items) .none kV41 dc41 pm41 an41 cd41 ct41), sl41⟩)
    (c41 : PySem.W.codeIn K cd41 "_law_items" = true)
    (k41 : PySem.W.keepIn K (.ref f41) = true)
    (a42 : PySem.W.nsIn K mainGlobals "_law_number" = some (some (.ref f42)))
    (l42 : K.lookup f42 = some ⟨oc42, od42, .func (PySem.W.fnOf "_law_number" "_law_number" (defArgs s__law_number) (defBody s__law_number) (defScope s__law_number) .none kV42 dc42 pm42 an42 cd42 ct42), sl42⟩)
    (c42 : PySem.W.codeIn K cd42 "_law_number" = true)
    (k42 : PySem.W.keepIn K (.ref f42) = true)
    (a43 : PySem.W.nsIn K mainGlobals "_law_condition" = some (some (.ref f43)))
    (l43 : K.lookup f43 = some ⟨oc43, od43, .func (PySem.W.fnOf "_law_condition" "_law_condition" (defArgs s__law_condition) (defBody s__law_condition) (defScope s__law_condition) .none kV43 dc43 pm43 an43 cd43 ct43), sl43⟩)
    (c43 : PySem.W.codeIn K cd43 "_law_condition" = true)
    (k43 : PySem.W.keepIn K (.ref f43) = true)
    (a44 : PySem.W.nsIn K mainGlobals "_law_part" = some (some (.ref f44)))
    (l44 : K.lookup f44 = some ⟨oc44, od44, .func (PySem.W.fnOf "_law_part" "_law_part" (defArgs s__law_part) (defBody s__law_part) (defScope s__law_part) .none kV44 dc44 pm44 an44 cd44 ct44), sl44⟩)
    (c44 : PySem.W.codeIn K cd44 "_law_part" = true)
    (k44 : PySem.W.keepIn K (.ref f44) = true)
    (a45 : PySem.W.nsIn K mainGlobals "_law_written" = some (some (.ref f45)))
    (l45 : K.lookup f45 = some ⟨oc45, od45, .func (PySem.W.fnOf "_law_written" "_law_written" (defArgs s__law_written) (defBody s__law_written) (defScope s__law_written) .none kV45 dc45 pm45 an45 cd45 ct45), sl45⟩)
    (c45 : PySem.W.codeIn K cd45 "_law_written" = true)
    (k45 : PySem.W.keepIn K (.ref f45) = true)
    (a46 : PySem.W.nsIn K mainGlobals "_law_changed" = some (some (.ref f46)))
    (l46 : K.lookup f46 = some ⟨oc46, od46, .func (PySem.W.fnOf "_law_changed" "_law_changed" (defArgs s__law_changed) (defBody s__law_changed) (defScope s__law_changed) .none kV46 dc46 pm46 an46 cd46 ct46), sl46⟩)
    (c46 : PySem.W.codeIn K cd46 "_law_changed" = true)
    (k46 : PySem.W.keepIn K (.ref f46) = true)
    (a47 : PySem.W.nsIn K mainGlobals "_law_parsed" = some (some (.ref f47)))
    (l47 : K.lookup f47 = some ⟨oc47, od47, .func (PySem.W.fnOf "_law_parsed" "_law_parsed" (defArgs s__law_parsed) (defBody s__law_parsed) (defScope s__law_parsed) .none kV47 dc47 pm47 an47 cd47 ct47), sl47⟩)
    (c47 : PySem.W.codeIn K cd47 "_law_parsed" = true)
    (k47 : PySem.W.keepIn K (.ref f47) = true)
    (a48 : PySem.W.nsIn K mainGlobals "_law_read" = some (some (.ref f48)))
    (l48 : K.lookup f48 = some ⟨oc48, od48, .func (PySem.W.fnOf "_law_read" "_law_read" (defArgs s__law_read) (defBody s__law_read) (defScope s__law_read) .none kV48 dc48 pm48 an48 cd48 ct48), sl48⟩)
    (c48 : PySem.W.codeIn K cd48 "_law_read" = true)
    (k48 : PySem.W.keepIn K (.ref f48) = true)
    (a49 : PySem.W.nsIn K mainGlobals "_law_size" = some (some (.ref f49)))
    (l49 : K.lookup f49 = some ⟨oc49, od49, .func (PySem.W.fnOf "_law_size" "_law_size" (defArgs s__law_size) (defBody s__law_size) (defScope s__law_size) .none kV49 dc49 pm49 an49 cd49 ct49), sl49⟩)
    (c49 : PySem.W.codeIn K cd49 "_law_size" = true)
    (k49 : PySem.W.keepIn K (.ref f49) = true)
    (a50 : PySem.W.nsIn K mainGlobals "law" = some (some (.ref f50)))
    (l50 : K.lookup f50 = some ⟨oc50, od50, .func (PySem.W.fnOf "law" "law" (defArgs s_law) (defBody s_law) (defScope s_law) .none kV50 dc50 pm50 an50 cd50 ct50), sl50⟩)
    (c50 : PySem.W.codeIn K cd50 "law" = true)
    (k50 : PySem.W.keepIn K (.ref f50) = true)
    (aCSamphireError : PySem.W.nsIn K mainGlobals "SamphireError" = some (some (.ref CSamphireError)))
    (aCTextError : PySem.W.nsIn K mainGlobals "TextError" = some (some (.ref CTextError)))
    (iCTextError : PySem.W.findIn K (.ref CTextError) "__init__" = some (some (.ref fTextError)))
    (tITextError : PySem.W.typeIn K (.ref fTextError) = some (.type "function"))
    (lkTextError : K.lookup fTextError = some ⟨ocTextError, odTextError, .func ((NF_TextError ccTextError cTextError).fd docTextError pmTextError ctvTextError), oslTextError⟩)
    (hcTextError : PySem.W.codeIn K (.ref cTextError) "TextError.__init__" = true)
    (xLTextError : K.lookup CTextError = some (excClassObj nmTextError qTextError CTextError NTextError bsTextError [.ref CSamphireError, .type "ValueError", .type "Exception", .type "BaseException", .type "object"] true snTextError subTextError abTextError colTextError ddTextError m0TextError m1TextError m2TextError m3TextError m5TextError "ValueError.__new__"))
    (saTextError : PySem.W.findIn K (.ref CTextError) "__setattr__" = some (some (.builtin "object.__setattr__")))
    (sBTextError : PySem.W.subIn K (.ref CTextError) (.type "BaseException") = some true)
    (tCTextError : PySem.W.typeIn K (.ref CTextError) = some (.type "type"))
    (kCTextError : PySem.W.keepIn K (.ref CTextError) = true)
    (coTextError : K.lookup cTextError = some ⟨occTextError, cddTextError, .fields cvsTextError.toArray, cslTextError⟩)
    (flTextError : Sup.flIs cvsTextError l.prog.main.file = true)
    (ceTextError : K.lookup ccTextError = some ⟨cclTextError, ccdTextError, .cell (some (.ref CTextError)), ccsTextError⟩)
    (mrTextError : PySem.W.mroIn K CTextError (.ref CTextError) = some true)
    (sVTextError : PySem.W.subIn K (.ref CTextError) (.type "ValueError") = some true)
    (anTextError : PySem.W.nsIn K PySem.cStatics "thirdparty.any" = some none)
    (suTextError : PySem.W.ks_superIn K CTextError CTextError "__init__" = some (some (.builtin "ValueError.__init__")))
    (tpTextError : (l.prog.main.scope.names.lookup ("super" : Str)).isSome = false)
    (hgTextError : PySem.W.findIn K (.ref CTextError) "__getattribute__" = some (some (.builtin "BaseException.__getattribute__")))
    (hkTextError : PySem.W.findIn K (.ref CTextError) "__getattr__" = some none)
    (hdTextError : PySem.W.hasDictIn K CTextError = true)
    (haTextError : PySem.W.findIn K (.ref CTextError) "__class__" = some (some (.builtin "object.__class__")))
    (hnTextError : PySem.W.specialIn K (.builtin "object.__class__") "__get__" = some (some (.builtin "getset_descriptor.__get__")))
    (htTextError : PySem.W.takesIn K (.builtin "object.__class__") = some true)
    (hmTextError : PySem.W.mroIn K CTextError (.type "object") = some true)
    (icTextError : PySem.W.isClsIn K CTextError = true)
    (sCTextError : PySem.W.subIn K (.ref CTextError) (.ref CTextError) = some true)
    (nf_line_TextError : PySem.W.findIn K (.ref CTextError) "line" = some none)
    (nf_column_TextError : PySem.W.findIn K (.ref CTextError) "column" = some none)
    (nf_reason_TextError : PySem.W.findIn K (.ref CTextError) "reason" = some none)
    (aCTooLarge : PySem.W.nsIn K mainGlobals "TooLarge" = some (some (.ref CTooLarge)))
    (iCTooLarge : PySem.W.findIn K (.ref CTooLarge) "__init__" = some (some (.ref fTooLarge)))
    (tITooLarge : PySem.W.typeIn K (.ref fTooLarge) = some (.type "function"))
    (lkTooLarge : K.lookup fTooLarge = some ⟨ocTooLarge, odTooLarge, .func ((NF_TooLarge ccTooLarge cTooLarge).fd docTooLarge pmTooLarge ctvTooLarge), oslTooLarge⟩)
    (hcTooLarge : PySem.W.codeIn K (.ref cTooLarge) "TooLarge.__init__" = true)
    (xLTooLarge : K.lookup CTooLarge = some (excClassObj nmTooLarge qTooLarge CTooLarge NTooLarge bsTooLarge [.ref CSamphireError, .type "ValueError", .type "Exception", .type "BaseException", .type "object"] true snTooLarge subTooLarge abTooLarge colTooLarge ddTooLarge m0TooLarge m1TooLarge m2TooLarge m3TooLarge m5TooLarge "ValueError.__new__"))
    (saTooLarge : PySem.W.findIn K (.ref CTooLarge) "__setattr__" = some (some (.builtin "object.__setattr__")))
    (sBTooLarge : PySem.W.subIn K (.ref CTooLarge) (.type "BaseException") = some true)
    (tCTooLarge : PySem.W.typeIn K (.ref CTooLarge) = some (.type "type"))
    (kCTooLarge : PySem.W.keepIn K (.ref CTooLarge) = true)
    (coTooLarge : K.lookup cTooLarge = some ⟨occTooLarge, cddTooLarge, .fields cvsTooLarge.toArray, cslTooLarge⟩)
    (flTooLarge : Sup.flIs cvsTooLarge l.prog.main.file = true)
    (ceTooLarge : K.lookup ccTooLarge = some ⟨cclTooLarge, ccdTooLarge, .cell (some (.ref CTooLarge)), ccsTooLarge⟩)
    (mrTooLarge : PySem.W.mroIn K CTooLarge (.ref CTooLarge) = some true)
    (sVTooLarge : PySem.W.subIn K (.ref CTooLarge) (.type "ValueError") = some true)
    (anTooLarge : PySem.W.nsIn K PySem.cStatics "thirdparty.any" = some none)
    (suTooLarge : PySem.W.ks_superIn K CTooLarge CTooLarge "__init__" = some (some (.builtin "ValueError.__init__")))
    (tpTooLarge : (l.prog.main.scope.names.lookup ("super" : Str)).isSome = false)
    (hgTooLarge : PySem.W.findIn K (.ref CTooLarge) "__getattribute__" = some (some (.builtin "BaseException.__getattribute__")))
    (hkTooLarge : PySem.W.findIn K (.ref CTooLarge) "__getattr__" = some none)
    (hdTooLarge : PySem.W.hasDictIn K CTooLarge = true)
    (haTooLarge : PySem.W.findIn K (.ref CTooLarge) "__class__" = some (some (.builtin "object.__class__")))
    (hnTooLarge : PySem.W.specialIn K (.builtin "object.__class__") "__get__" = some (some (.builtin "getset_descriptor.__get__")))
    (htTooLarge : PySem.W.takesIn K (.builtin "object.__class__") = some true)
    (hmTooLarge : PySem.W.mroIn K CTooLarge (.type "object") = some true)
    (icTooLarge : PySem.W.isClsIn K CTooLarge = true)
    (sCTooLarge : PySem.W.subIn K (.ref CTooLarge) (.ref CTooLarge) = some true)
    (nf_limit_TooLarge : PySem.W.findIn K (.ref CTooLarge) "limit" = some none)
    (aCConditionReader : PySem.W.nsIn K mainGlobals "ConditionReader" = some (some (.ref CConditionReader)))
    (pgConditionReader : PySem.W.plainGet K CConditionReader Str.empty = true) (hdConditionReader : PySem.W.hasDictIn K CConditionReader = true) (poConditionReader : PySem.W.plainOver K CConditionReader = true) (saConditionReader : PySem.W.findIn K (.ref CConditionReader) "__setattr__" = some (some (.builtin "object.__setattr__"))) (mkConditionReader : PySem.W.makesIn K CConditionReader = true) (kcConditionReader : PySem.W.keepIn K (.ref CConditionReader) = true)
    (nConditionReader__tokens : PySem.W.findIn K (.ref CConditionReader) "_tokens" = some none)
    (nConditionReader__behind : PySem.W.findIn K (.ref CConditionReader) "_behind" = some none)
    (nConditionReader__at : PySem.W.findIn K (.ref CConditionReader) "_at" = some none)
    (nConditionReader__depth : PySem.W.findIn K (.ref CConditionReader) "_depth" = some none)
    (z_abs : PySem.W.nsIn K mainGlobals "abs" = some none)
    (z_bool : PySem.W.nsIn K mainGlobals "bool" = some none)
    (z_enumerate : PySem.W.nsIn K mainGlobals "enumerate" = some none)
    (z_int : PySem.W.nsIn K mainGlobals "int" = some none)
    (z_isinstance : PySem.W.nsIn K mainGlobals "isinstance" = some none)
    (z_len : PySem.W.nsIn K mainGlobals "len" = some none)
    (z_list : PySem.W.nsIn K mainGlobals "list" = some none)
    (z_max : PySem.W.nsIn K mainGlobals "max" = some none)
    (z_range : PySem.W.nsIn K mainGlobals "range" = some none)
    (z_reversed : PySem.W.nsIn K mainGlobals "reversed" = some none)
    (z_str : PySem.W.nsIn K mainGlobals "str" = some none)
    (z_sum : PySem.W.nsIn K mainGlobals "sum" = some none)
    (z_super : PySem.W.nsIn K mainGlobals "super" = some none)
    (v_DIGITS : PySem.W.nsIn K mainGlobals "DIGITS" = some (some (.str "0123456789" t_DIGITS)))
    (v_WORD_SIGNS : PySem.W.nsIn K mainGlobals "WORD_SIGNS" = some (some (.str "abcdefghijklmnopqrstuvwxyz0123456789" t_WORD_SIGNS)))
    (v_MOST_IN_NAME : PySem.W.nsIn K mainGlobals "MOST_IN_NAME" = some (some (.int (12) t_MOST_IN_NAME)))
    (v_MOST_WEIGHT : PySem.W.nsIn K mainGlobals "MOST_WEIGHT" = some (some (.int (1000) t_MOST_WEIGHT)))
    (v_MOST_AMOUNT : PySem.W.nsIn K mainGlobals "MOST_AMOUNT" = some (some (.int (1000) t_MOST_AMOUNT)))
    (v_MOST_OPEN : PySem.W.nsIn K mainGlobals "MOST_OPEN" = some (some (.int (20) t_MOST_OPEN)))
    (v_MOST_NUMBER : PySem.W.nsIn K mainGlobals "MOST_NUMBER" = some (some (.int (1000000) t_MOST_NUMBER)))
    (v_MOST_CHARACTERS_conditions : PySem.W.nsIn K mainGlobals "MOST_CHARACTERS_conditions" = some (some (.int (2000) t_MOST_CHARACTERS_conditions)))
    (v_MOST_CHARACTERS_reader : PySem.W.nsIn K mainGlobals "MOST_CHARACTERS_reader" = some (some (.int (100000) t_MOST_CHARACTERS_reader)))
    (v_MOST_LINES : PySem.W.nsIn K mainGlobals "MOST_LINES" = some (some (.int (1000) t_MOST_LINES)))
    (v_WORDS_OF_ITEM : PySem.W.nsIn K mainGlobals "WORDS_OF_ITEM" = some (some (.int (4) t_WORDS_OF_ITEM)))
    (v_COMPARING : PySem.W.nsIn K mainGlobals "COMPARING" = some (some (.ref k_COMPARING)))
    (l_COMPARING : K.lookup k_COMPARING = some ⟨.type "tuple", od_COMPARING, .seq #[.str "<" t0_COMPARING, .str "<=" t1_COMPARING, .str "=" t2_COMPARING, .str ">=" t3_COMPARING, .str ">" t4_COMPARING] nn_COMPARING, sl_COMPARING⟩)
    (v_ATOM_WORDS : PySem.W.nsIn K mainGlobals "ATOM_WORDS" = some (some (.ref k_ATOM_WORDS)))
    (l_ATOM_WORDS : K.lookup k_ATOM_WORDS = some ⟨.type "tuple", od_ATOM_WORDS, .seq #[.str "all" t0_ATOM_WORDS, .str "weight" t1_ATOM_WORDS, .str "amount" t2_ATOM_WORDS, .str "group" t3_ATOM_WORDS, .str "key" t4_ATOM_WORDS] nn_ATOM_WORDS, sl_ATOM_WORDS⟩) :
    ∃ fd : FuncData, (∀ (s : Shared) (v : Value), BindsTo s fd ⟨[v], []⟩ [("script", v)]) ∧ ∀ base : Heap, K.In base → base.Ns mainGlobals mg → FnOk l.prog w K mg base CX0 132 fa fd ["script"] (spLaw K) := by
  have e : f50 = fa := by
    have e := hfa.symm.trans (PySem.W.mg_of X G a50)
    cases e
    rfl
  subst e
  let t : T l.prog K mg := {
    a_made_of := f1, fd_made_of := _, F_made_of := fun_mk (st := s_made_of) l1 c1 k1, b_made_of := (fun_mk (st := s_made_of) l1 c1 k1).binds (ps := ["text", "signs"]) (fun _ _ _ _ _ _ us hl => match us, hl with | [_, _], _ => rfl),
    g_made_of := PySem.W.mg_of X G a1,
    a_lines_of := f2, fd_lines_of := _, F_lines_of := fun_mk (st := s_lines_of) l2 c2 k2, b_lines_of := (fun_mk (st := s_lines_of) l2 c2 k2).binds (ps := ["text"]) (fun _ _ _ _ _ _ us hl => match us, hl with | [_], _ => rfl),
    g_lines_of := PySem.W.mg_of X G a2,
    a_words_of := f3, fd_words_of := _, F_words_of := fun_mk (st := s_words_of) l3 c3 k3, b_words_of := (fun_mk (st := s_words_of) l3 c3 k3).binds (ps := ["line"]) (fun _ _ _ _ _ _ us hl => match us, hl with | [_], _ => rfl),
    g_words_of := PySem.W.mg_of X G a3,
    a_column_of := f4, fd_column_of := _, F_column_of := fun_mk (st := s_column_of) l4 c4 k4, b_column_of := (fun_mk (st := s_column_of) l4 c4 k4).binds (ps := ["words", "place"]) (fun _ _ _ _ _ _ us hl => match us, hl with | [_, _], _ => rfl),
    g_column_of := PySem.W.mg_of X G a4,
    a_writes_integer := f5, fd_writes_integer := _, F_writes_integer := fun_mk (st := s_writes_integer) l5 c5 k5, b_writes_integer := (fun_mk (st := s_writes_integer) l5 c5 k5).binds (ps := ["word"]) (fun _ _ _ _ _ _ us hl => match us, hl with | [_], _ => rfl),
    g_writes_integer := PySem.W.mg_of X G a5,
    a_integer_within := f6, fd_integer_within := _, F_integer_within := fun_mk (st := s_integer_within) l6 c6 k6, b_integer_within := (fun_mk (st := s_integer_within) l6 c6 k6).binds (ps := ["word", "low", "high"]) (fun _ _ _ _ _ _ us hl => match us, hl with | [_, _, _], _ => rfl),
    g_integer_within := PySem.W.mg_of X G a6,
    a_is_name := f7, fd_is_name := _, F_is_name := fun_mk (st := s_is_name) l7 c7 k7, b_is_name := (fun_mk (st := s_is_name) l7 c7 k7).binds (ps := ["text"]) (fun _ _ _ _ _ _ us hl => match us, hl with | [_], _ => rfl),
    g_is_name := PySem.W.mg_of X G a7,
    a_reason_against := f8, fd_reason_against := _, F_reason_against := fun_mk (st := s_reason_against) l8 c8 k8, b_reason_against := (fun_mk (st := s_reason_against) l8 c8 k8).binds (ps := ["row"]) (fun _ _ _ _ _ _ us hl => match us, hl with | [_], _ => rfl),
    g_reason_against := PySem.W.mg_of X G a8,
    a_check_items := f9, fd_check_items := _, F_check_items := fun_mk (st := s_check_items) l9 c9 k9, b_check_items := (fun_mk (st := s_check_items) l9 c9 k9).binds (ps := ["rows"]) (fun _ _ _ _ _ _ us hl => match us, hl with | [_], _ => rfl),
    g_check_items := PySem.W.mg_of X G a9,
    a_token_end := f10, fd_token_end := _, F_token_end := fun_mk (st := s_token_end) l10 c10 k10, b_token_end := (fun_mk (st := s_token_end) l10 c10 k10).binds (ps := ["text", "start"]) (fun _ _ _ _ _ _ us hl => match us, hl with | [_, _], _ => rfl),
    g_token_end := PySem.W.mg_of X G a10,
    a_tokens_of := f11, fd_tokens_of := _, F_tokens_of := fun_mk (st := s_tokens_of) l11 c11 k11, b_tokens_of := (fun_mk (st := s_tokens_of) l11 c11 k11).binds (ps := ["text"]) (fun _ _ _ _ _ _ us hl => match us, hl with | [_], _ => rfl),
    g_tokens_of := PySem.W.mg_of X G a11,
    a_ConditionReader_init := f12, fd_ConditionReader_init := _, F_ConditionReader_init := fun_mk (st := s_ConditionReader_init) l12 c12 k12, b_ConditionReader_init := (fun_mk (st := s_ConditionReader_init) l12 c12 k12).binds (ps := ["self", "text"]) (fun _ _ _ _ _ _ us hl => match us, hl with | [_, _], _ => rfl),
    a_ConditionReader_whole := f13, fd_ConditionReader_whole := _, F_ConditionReader_whole := fun_mk (st := s_ConditionReader_whole) l13 c13 k13, b_ConditionReader_whole := (fun_mk (st := s_ConditionReader_whole) l13 c13 k13).binds (ps := ["self"]) (fun _ _ _ _ _ _ us hl => match us, hl with | [_], _ => rfl),
    a_ConditionReader__here := f14, fd_ConditionReader__here := _, F_ConditionReader__here := fun_mk (st := s_ConditionReader__here) l14 c14 k14, b_ConditionReader__here := (fun_mk (st := s_ConditionReader__here) l14 c14 k14).binds (ps := ["self"]) (fun _ _ _ _ _ _ us hl => match us, hl with | [_], _ => rfl),
    a_ConditionReader__refuse := f15, fd_ConditionReader__refuse := _, F_ConditionReader__refuse := fun_mk (st := s_ConditionReader__refuse) l15 c15 k15, b_ConditionReader__refuse := (fun_mk (st := s_ConditionReader__refuse) l15 c15 k15).binds (ps := ["self", "reason"]) (fun _ _ _ _ _ _ us hl => match us, hl with | [_, _], _ => rfl),
    a_ConditionReader__take := f16, fd_ConditionReader__take := _, F_ConditionReader__take := fun_mk (st := s_ConditionReader__take) l16 c16 k16, b_ConditionReader__take := (fun_mk (st := s_ConditionReader__take) l16 c16 k16).binds (ps := ["self", "can_stand"]) (fun _ _ _ _ _ _ us hl => match us, hl with | [_, _], _ => rfl),
    a_ConditionReader__go_in := f17, fd_ConditionReader__go_in := _, F_ConditionReader__go_in := fun_mk (st := s_ConditionReader__go_in) l17 c17 k17, b_ConditionReader__go_in := (fun_mk (st := s_ConditionReader__go_in) l17 c17 k17).binds (ps := ["self"]) (fun _ _ _ _ _ _ us hl => match us, hl with | [_], _ => rfl),
    a_ConditionReader__either := f18, fd_ConditionReader__either := _, F_ConditionReader__either := fun_mk (st := s_ConditionReader__either) l18 c18 k18, b_ConditionReader__either := (fun_mk (st := s_ConditionReader__either) l18 c18 k18).binds (ps := ["self"]) (fun _ _ _ _ _ _ us hl => match us, hl with | [_], _ => rfl),
    a_ConditionReader__both := f19, fd_ConditionReader__both := _, F_ConditionReader__both := fun_mk (st := s_ConditionReader__both) l19 c19 k19, b_ConditionReader__both := (fun_mk (st := s_ConditionReader__both) l19 c19 k19).binds (ps := ["self"]) (fun _ _ _ _ _ _ us hl => match us, hl with | [_], _ => rfl),
    a_ConditionReader__turned := f20, fd_ConditionReader__turned := _, F_ConditionReader__turned := fun_mk (st := s_ConditionReader__turned) l20 c20 k20, b_ConditionReader__turned := (fun_mk (st := s_ConditionReader__turned) l20 c20 k20).binds (ps := ["self"]) (fun _ _ _ _ _ _ us hl => match us, hl with | [_], _ => rfl),
    a_ConditionReader__atom := f21, fd_ConditionReader__atom := _, F_ConditionReader__atom := fun_mk (st := s_ConditionReader__atom) l21 c21 k21, b_ConditionReader__atom := (fun_mk (st := s_ConditionReader__atom) l21 c21 k21).binds (ps := ["self"]) (fun _ _ _ _ _ _ us hl => match us, hl with | [_], _ => rfl),
    a_ConditionReader__bracket := f22, fd_ConditionReader__bracket := _, F_ConditionReader__bracket := fun_mk (st := s_ConditionReader__bracket) l22 c22 k22, b_ConditionReader__bracket := (fun_mk (st := s_ConditionReader__bracket) l22 c22 k22).binds (ps := ["self"]) (fun _ _ _ _ _ _ us hl => match us, hl with | [_], _ => rfl),
    a_ConditionReader__number := f23, fd_ConditionReader__number := _, F_ConditionReader__number := fun_mk (st := s_ConditionReader__number) l23 c23 k23, b_ConditionReader__number := (fun_mk (st := s_ConditionReader__number) l23 c23 k23).binds (ps := ["self"]) (fun _ _ _ _ _ _ us hl => match us, hl with | [_], _ => rfl),
    a_parse_condition := f24, fd_parse_condition := _, F_parse_condition := fun_mk (st := s_parse_condition) l24 c24 k24, b_parse_condition := (fun_mk (st := s_parse_condition) l24 c24 k24).binds (ps := ["text"]) (fun _ _ _ _ _ _ us hl => match us, hl with | [_], _ => rfl),
    g_parse_condition := PySem.W.mg_of X G a24,
    a_parts_first := f25, fd_parts_first := _, F_parts_first := fun_mk (st := s_parts_first) l25 c25 k25, b_parts_first := (fun_mk (st := s_parts_first) l25 c25 k25).binds (ps := ["condition"]) (fun _ _ _ _ _ _ us hl => match us, hl with | [_], _ => rfl),
    g_parts_first := PySem.W.mg_of X G a25,
    a_compares := f26, fd_compares := _, F_compares := fun_mk (st := s_compares) l26 c26 k26, b_compares := (fun_mk (st := s_compares) l26 c26 k26).binds (ps := ["number", "sign", "other"]) (fun _ _ _ _ _ _ us hl => match us, hl with | [_, _, _], _ => rfl),
    g_compares := PySem.W.mg_of X G a26,
    a_atom_holds := f27, fd_atom_holds := _, F_atom_holds := fun_mk (st := s_atom_holds) l27 c27 k27, b_atom_holds := (fun_mk (st := s_atom_holds) l27 c27 k27).binds (ps := ["atom", "item"]) (fun _ _ _ _ _ _ us hl => match us, hl with | [_, _], _ => rfl),
    g_atom_holds := PySem.W.mg_of X G a27,
    a_last_holds := f28, fd_last_holds := _, F_last_holds := fun_mk (st := s_last_holds) l28 c28 k28, b_last_holds := (fun_mk (st := s_last_holds) l28 c28 k28).binds (ps := ["conditions", "item"]) (fun _ _ _ _ _ _ us hl => match us, hl with | [_, _], _ => rfl),
    g_last_holds := PySem.W.mg_of X G a28,
    a_held := f29, fd_held := _, F_held := fun_mk (st := s_held) l29 c29 k29, b_held := (fun_mk (st := s_held) l29 c29 k29).binds (ps := ["condition", "item"]) (fun _ _ _ _ _ _ us hl => match us, hl with | [_, _], _ => rfl),
    g_held := PySem.W.mg_of X G a29,
    a_within := f30, fd_within := _, F_within := fun_mk (st := s_within) l30 c30 k30, b_within := (fun_mk (st := s_within) l30 c30 k30).binds (ps := ["condition", "words"]) (fun _ _ _ _ _ _ us hl => match us, hl with | [_, _], _ => rfl),
    g_within := PySem.W.mg_of X G a30,
    a_pieces_of := f31, fd_pieces_of := _, F_pieces_of := fun_mk (st := s_pieces_of) l31 c31 k31, b_pieces_of := (fun_mk (st := s_pieces_of) l31 c31 k31).binds (ps := ["condition"]) (fun _ _ _ _ _ _ us hl => match us, hl with | [_], _ => rfl),
    g_pieces_of := PySem.W.mg_of X G a31,
    a_write_condition := f32, fd_write_condition := _, F_write_condition := fun_mk (st := s_write_condition) l32 c32 k32, b_write_condition := (fun_mk (st := s_write_condition) l32 c32 k32).binds (ps := ["condition"]) (fun _ _ _ _ _ _ us hl => match us, hl with | [_], _ => rfl),
    g_write_condition := PySem.W.mg_of X G a32,
    a_word_fault := f33, fd_word_fault := _, F_word_fault := fun_mk (st := s_word_fault) l33 c33 k33, b_word_fault := (fun_mk (st := s_word_fault) l33 c33 k33).binds (ps := ["words"]) (fun _ _ _ _ _ _ us hl => match us, hl with | [_], _ => rfl),
    g_word_fault := PySem.W.mg_of X G a33,
    a_item_of := f34, fd_item_of := _, F_item_of := fun_mk (st := s_item_of) l34 c34 k34, b_item_of := (fun_mk (st := s_item_of) l34 c34 k34).binds (ps := ["words"]) (fun _ _ _ _ _ _ us hl => match us, hl with | [_], _ => rfl),
    g_item_of := PySem.W.mg_of X G a34,
    a_line_fault := f35, fd_line_fault := _, F_line_fault := fun_mk (st := s_line_fault) l35 c35 k35, b_line_fault := (fun_mk (st := s_line_fault) l35 c35 k35).binds (ps := ["words", "number", "taken"]) (fun _ _ _ _ _ _ us hl => match us, hl with | [_, _, _], _ => rfl),
    g_line_fault := PySem.W.mg_of X G a35,
    a_read_items := f36, fd_read_items := _, F_read_items := fun_mk (st := s_read_items) l36 c36 k36, b_read_items := (fun_mk (st := s_read_items) l36 c36 k36).binds (ps := ["text"]) (fun _ _ _ _ _ _ us hl => match us, hl with | [_], _ => rfl),
    g_read_items := PySem.W.mg_of X G a36,
    a_write_items := f37, fd_write_items := _, F_write_items := fun_mk (st := s_write_items) l37 c37 k37, b_write_items := (fun_mk (st := s_write_items) l37 c37 k37).binds (ps := ["rows"]) (fun _ _ _ _ _ _ us hl => match us, hl with | [_], _ => rfl),
    g_write_items := PySem.W.mg_of X G a37,
    a__law_draws := f38, fd__law_draws := _, F__law_draws := fun_mk (st := s__law_draws) l38 c38 k38, b__law_draws := (fun_mk (st := s__law_draws) l38 c38 k38).binds (ps := ["script"]) (fun _ _ _ _ _ _ us hl => match us, hl with | [_], _ => rfl),
    g__law_draws := PySem.W.mg_of X G a38,
    a__law_take := f39, fd__law_take := _, F__law_take := fun_mk (st := s__law_take) l39 c39 k39, b__law_take := (fun_mk (st := s__law_take) l39 c39 k39).binds (ps := ["draws", "bound"]) (fun _ _ _ _ _ _ us hl => match us, hl with | [_, _], _ => rfl),
    g__law_take := PySem.W.mg_of X G a39,
    a__law_name := f40, fd__law_name := _, F__law_name := fun_mk (st := s__law_name) l40 c40 k40, b__law_name := (fun_mk (st := s__law_name) l40 c40 k40).binds (ps := ["draws"]) (fun _ _ _ _ _ _ us hl => match us, hl with | [_], _ => rfl),
    g__law_name := PySem.W.mg_of X G a40,
    a__law_items := f41, fd__law_items := _, F__law_items := fun_mk (st := s__law_items) l41 c41 k41, b__law_items := (fun_mk (st := s__law_items) l41 c41 k41).binds (ps := ["draws", "most"]) (fun _ _ _ _ _ _ us hl => match us, hl with | [_, _], _ => rfl),
    g__law_items := PySem.W.mg_of X G a41,
    a__law_number := f42, fd__law_number := _, F__law_number := fun_mk (st := s__law_number) l42 c42 k42, b__law_number := (fun_mk (st := s__law_number) l42 c42 k42).binds (ps := ["draws"]) (fun _ _ _ _ _ _ us hl => match us, hl with | [_], _ => rfl),
    g__law_number := PySem.W.mg_of X G a42,
    a__law_condition := f43, fd__law_condition := _, F__law_condition := fun_mk (st := s__law_condition) l43 c43 k43, b__law_condition := (fun_mk (st := s__law_condition) l43 c43 k43).binds (ps := ["draws", "depth"]) (fun _ _ _ _ _ _ us hl => match us, hl with | [_, _], _ => rfl),
    g__law_condition := PySem.W.mg_of X G a43,
    a__law_part := f44, fd__law_part := _, F__law_part := fun_mk (st := s__law_part) l44 c44 k44, b__law_part := (fun_mk (st := s__law_part) l44 c44 k44).binds (ps := ["condition", "words"]) (fun _ _ _ _ _ _ us hl => match us, hl with | [_, _], _ => rfl),
    g__law_part := PySem.W.mg_of X G a44,
    a__law_written := f45, fd__law_written := _, F__law_written := fun_mk (st := s__law_written) l45 c45 k45, b__law_written := (fun_mk (st := s__law_written) l45 c45 k45).binds (ps := ["condition"]) (fun _ _ _ _ _ _ us hl => match us, hl with | [_], _ => rfl),
    g__law_written := PySem.W.mg_of X G a45,
    a__law_changed := f46, fd__law_changed := _, F__law_changed := fun_mk (st := s__law_changed) l46 c46 k46, b__law_changed := (fun_mk (st := s__law_changed) l46 c46 k46).binds (ps := ["draws", "text"]) (fun _ _ _ _ _ _ us hl => match us, hl with | [_, _], _ => rfl),
    g__law_changed := PySem.W.mg_of X G a46,
    a__law_parsed := f47, fd__law_parsed := _, F__law_parsed := fun_mk (st := s__law_parsed) l47 c47 k47, b__law_parsed := (fun_mk (st := s__law_parsed) l47 c47 k47).binds (ps := ["text"]) (fun _ _ _ _ _ _ us hl => match us, hl with | [_], _ => rfl),
    g__law_parsed := PySem.W.mg_of X G a47,
    a__law_read := f48, fd__law_read := _, F__law_read := fun_mk (st := s__law_read) l48 c48 k48, b__law_read := (fun_mk (st := s__law_read) l48 c48 k48).binds (ps := ["text"]) (fun _ _ _ _ _ _ us hl => match us, hl with | [_], _ => rfl),
    g__law_read := PySem.W.mg_of X G a48,
    a__law_size := f49, fd__law_size := _, F__law_size := fun_mk (st := s__law_size) l49 c49 k49, b__law_size := (fun_mk (st := s__law_size) l49 c49 k49).binds (ps := ["text"]) (fun _ _ _ _ _ _ us hl => match us, hl with | [_], _ => rfl),
    g__law_size := PySem.W.mg_of X G a49,
    a_law := f50, fd_law := _, F_law := fun_mk (st := s_law) l50 c50 k50, b_law := (fun_mk (st := s_law) l50 c50 k50).binds (ps := ["script"]) (fun _ _ _ _ _ _ us hl => match us, hl with | [_], _ => rfl),
    g_law := PySem.W.mg_of X G a50,
    C_SamphireError := CSamphireError, mg_SamphireError := PySem.W.mg_of X G aCSamphireError,
    C_TextError := CTextError, a_TextError_init := fTextError, c_TextError := cTextError, cc_TextError := ccTextError, doc_TextError := docTextError, pm_TextError := pmTextError, ctv_TextError := ctvTextError, oc_TextError := ocTextError, od_TextError := odTextError, osl_TextError := oslTextError, lk_TextError := lkTextError, hc_TextError := hcTextError,
    x_TextError := Sup.excT_mk xLTextError rfl saTextError sBTextError tCTextError kCTextError coTextError flTextError ceTextError mrTextError sVTextError (PySem.W.mg_none_of X G z_super) anTextError suTextError tpTextError (PySem.W.mg_of X G aCTextError) iCTextError tITextError ⟨hgTextError, hkTextError, sBTextError, hdTextError, haTextError, hnTextError, htTextError, hmTextError⟩ icTextError sCTextError,
    bx_TextError := .all (fun us hl => match us, hl with | [_, _, _, _], _ => rfl),
    nf_TextError_line := nf_line_TextError,
    nf_TextError_column := nf_column_TextError,
    nf_TextError_reason := nf_reason_TextError,
    C_TooLarge := CTooLarge, a_TooLarge_init := fTooLarge, c_TooLarge := cTooLarge, cc_TooLarge := ccTooLarge, doc_TooLarge := docTooLarge, pm_TooLarge := pmTooLarge, ctv_TooLarge := ctvTooLarge, oc_TooLarge := ocTooLarge, od_TooLarge := odTooLarge, osl_TooLarge := oslTooLarge, lk_TooLarge := lkTooLarge, hc_TooLarge := hcTooLarge,
    x_TooLarge := Sup.excT_mk xLTooLarge rfl saTooLarge sBTooLarge tCTooLarge kCTooLarge coTooLarge flTooLarge ceTooLarge mrTooLarge sVTooLarge (PySem.W.mg_none_of X G z_super) anTooLarge suTooLarge tpTooLarge (PySem.W.mg_of X G aCTooLarge) iCTooLarge tITooLarge ⟨hgTooLarge, hkTooLarge, sBTooLarge, hdTooLarge, haTooLarge, hnTooLarge, htTooLarge, hmTooLarge⟩ icTooLarge sCTooLarge,
    bx_TooLarge := .all (fun us hl => match us, hl with | [_, _], _ => rfl),
    nf_TooLarge_limit := nf_limit_TooLarge,
    C_ConditionReader := CConditionReader, cl_ConditionReader := ⟨pgConditionReader, hdConditionReader, poConditionReader, saConditionReader⟩, mg_ConditionReader := PySem.W.mg_of X G aCConditionReader,
    mk_ConditionReader := ⟨mkConditionReader, a12, i12, kcConditionReader⟩,
    na_ConditionReader__tokens := nConditionReader__tokens,
    na_ConditionReader__behind := nConditionReader__behind,
    na_ConditionReader__at := nConditionReader__at,
    na_ConditionReader__depth := nConditionReader__depth,
    me_ConditionReader_whole := ⟨a13, i13, k13⟩,
    me_ConditionReader__here := ⟨a14, i14, k14⟩,
    me_ConditionReader__refuse := ⟨a15, i15, k15⟩,
    me_ConditionReader__take := ⟨a16, i16, k16⟩,
    me_ConditionReader__go_in := ⟨a17, i17, k17⟩,
    me_ConditionReader__either := ⟨a18, i18, k18⟩,
    me_ConditionReader__both := ⟨a19, i19, k19⟩,
    me_ConditionReader__turned := ⟨a20, i20, k20⟩,
    me_ConditionReader__atom := ⟨a21, i21, k21⟩,
    me_ConditionReader__bracket := ⟨a22, i22, k22⟩,
    me_ConditionReader__number := ⟨a23, i23, k23⟩,
    z_abs := PySem.W.mg_none_of X G z_abs,
    z_bool := PySem.W.mg_none_of X G z_bool,
    z_enumerate := PySem.W.mg_none_of X G z_enumerate,
    z_int := PySem.W.mg_none_of X G z_int,
    z_isinstance := PySem.W.mg_none_of X G z_isinstance,
    z_len := PySem.W.mg_none_of X G z_len,
    z_list := PySem.W.mg_none_of X G z_list,
    z_max := PySem.W.mg_none_of X G z_max,
    z_range := PySem.W.mg_none_of X G z_range,
    z_reversed := PySem.W.mg_none_of X G z_reversed,
    z_str := PySem.W.mg_none_of X G z_str,
    z_sum := PySem.W.mg_none_of X G z_sum,
    z_super := PySem.W.mg_none_of X G z_super,
    v_DIGITS := _, g_DIGITS := PySem.W.mg_of X G v_DIGITS, r_DIGITS := ⟨_, rfl⟩,
    v_WORD_SIGNS := _, g_WORD_SIGNS := PySem.W.mg_of X G v_WORD_SIGNS, r_WORD_SIGNS := ⟨_, rfl⟩,
    v_MOST_IN_NAME := _, g_MOST_IN_NAME := PySem.W.mg_of X G v_MOST_IN_NAME, r_MOST_IN_NAME := ⟨_, rfl⟩,
    v_MOST_WEIGHT := _, g_MOST_WEIGHT := PySem.W.mg_of X G v_MOST_WEIGHT, r_MOST_WEIGHT := ⟨_, rfl⟩,
    v_MOST_AMOUNT := _, g_MOST_AMOUNT := PySem.W.mg_of X G v_MOST_AMOUNT, r_MOST_AMOUNT := ⟨_, rfl⟩,
    v_MOST_OPEN := _, g_MOST_OPEN := PySem.W.mg_of X G v_MOST_OPEN, r_MOST_OPEN := ⟨_, rfl⟩,
    v_MOST_NUMBER := _, g_MOST_NUMBER := PySem.W.mg_of X G v_MOST_NUMBER, r_MOST_NUMBER := ⟨_, rfl⟩,
    v_MOST_CHARACTERS_conditions := _, g_MOST_CHARACTERS_conditions := PySem.W.mg_of X G v_MOST_CHARACTERS_conditions, r_MOST_CHARACTERS_conditions := ⟨_, rfl⟩,
    v_MOST_CHARACTERS_reader := _, g_MOST_CHARACTERS_reader := PySem.W.mg_of X G v_MOST_CHARACTERS_reader, r_MOST_CHARACTERS_reader := ⟨_, rfl⟩,
    v_MOST_LINES := _, g_MOST_LINES := PySem.W.mg_of X G v_MOST_LINES, r_MOST_LINES := ⟨_, rfl⟩,
    v_WORDS_OF_ITEM := _, g_WORDS_OF_ITEM := PySem.W.mg_of X G v_WORDS_OF_ITEM, r_WORDS_OF_ITEM := ⟨_, rfl⟩,
    k_COMPARING := k_COMPARING, g_COMPARING := PySem.W.mg_of X G v_COMPARING, q_COMPARING := fun H => .inr ⟨_, _, _, l_COMPARING, rfl, rfl, (show 5 ≤ sizeLine by decide), (.cons ⟨_, rfl⟩ (.cons ⟨_, rfl⟩ (.cons ⟨_, rfl⟩ (.cons ⟨_, rfl⟩ (.cons ⟨_, rfl⟩ .nil)))))⟩,
    k_ATOM_WORDS := k_ATOM_WORDS, g_ATOM_WORDS := PySem.W.mg_of X G v_ATOM_WORDS, q_ATOM_WORDS := fun H => .inr ⟨_, _, _, l_ATOM_WORDS, rfl, rfl, (show 5 ≤ sizeLine by decide), (.cons ⟨_, rfl⟩ (.cons ⟨_, rfl⟩ (.cons ⟨_, rfl⟩ (.cons ⟨_, rfl⟩ (.cons ⟨_, rfl⟩ .nil)))))⟩ }
  exact ⟨t.fd_law, fun s v => .of_eq rfl, fun base _ _ => ok_law t⟩

end K03
open PySem PySem.W PyProof.Rows in
set_option maxRecDepth 100000 in
set_option maxHeartbeats 0 in
theorem PySem.Challenge.cw_samphire_k05_whole_any_text_is_refused_o_holds : PySem.Challenge.rw_samphire_k05_whole_any_text_is_refused_o.Holds := by
  w_on; o_law; k_head; (case hw => w_witness2)
  k_fill
  refine L2.walk_ofB (l := PySem.Challenge.rw_samphire_k05_whole_any_text_is_refused_o) (n := 63) (k := 132) (x := "script") (CX := fun w => L2.CX0) (sp := fun w => K03.spLaw _) rfl (by decide) rfl ⟨rfl, by decide, by decide⟩ (fun w h Y => PySem.W.kIn_of Y) ?F (fun _ H a ns hl hb _ hS => ⟨a, ns, rfl, hS, hl, hb, fun _ => rfl⟩) (fun _ _ _ _ _ h => h)
  case F =>
    intro w mg fa h KX G hmg
    refine' K03.all_mk KX G hmg ?a1 ?l1 ?c1 ?k1 ?a2 ?l2 ?c2 ?k2 ?a3 ?l3 ?c3 ?k3 ?a4 ?l4 ?c4 ?k4 ?a5 ?l5 ?c5 ?k5 ?a6 ?l6 ?c6 ?k6 ?a7 ?l7 ?c7 ?k7 ?a8 ?l8 ?c8 ?k8 ?a9 ?l9 ?c9 ?k9 ?a10 ?l10 ?c10 ?k10 ?a11 ?l11 ?c11 ?k11 ?a12 ?i12 ?l12 ?c12 ?k12 ?a13 ?i13 ?l13 ?c13 ?k13 ?a14 ?i14 ?l14 ?c14 ?k14 ?a15 ?i15 ?l15 ?c15 ?k15 ?a16 ?i16 ?l16 ?c16 ?k16 ?a17 ?i17 ?l17 ?c17 ?k17 ?a18 ?i18 ?l18 ?c18 ?k18 ?a19 ?i19 ?l19 ?c19 ?k19 ?a20 ?i20 ?l20 ?c20 ?k20 ?a21 ?i21 ?l21 ?c21 ?k21 ?a22 ?i22 ?l22 ?c22 ?k22 ?a23 ?i23 ?l23 ?c23 ?k23 ?a24 ?l24 ?c24 ?k24 ?a25 ?l25 ?c25 ?k25 ?a26 ?l26 ?c26 ?k26 ?a27 ?l27 ?c27 ?k27 ?a28 ?l28 ?c28 ?k28 ?a29 ?l29 ?c29 ?k29 ?a30 ?l30 ?c30 ?k30 ?a31 ?l31 ?c31 ?k31 ?a32 ?l32 ?c32 ?k32 ?a33 ?l33 ?c33 ?k33 ?a34 ?l34 ?c34 ?k34 ?a35 ?l35 ?c35 ?k35 ?a36 ?l36 ?c36 ?k36 ?a37 ?l37 ?c37 ?k37 ?a38 ?l38 ?c38 ?k38 ?a39 ?l39 ?c39 ?k39 ?a40 ?l40 ?c40 ?k40 ?a41 ?l41 ?c41 ?k41 ?a42 ?l42 ?c42 ?k42 ?a43 ?l43 ?c43 ?k43 ?a44 ?l44 ?c44 ?k44 ?a45 ?l45 ?c45 ?k45 ?a46 ?l46 ?c46 ?k46 ?a47 ?l47 ?c47 ?k47 ?a48 ?l48 ?c48 ?k48 ?a49 ?l49 ?c49 ?k49 ?a50 ?l50 ?c50 ?k50 ?aCSamphireError ?aCTextError ?iCTextError ?tITextError ?lkTextError ?hcTextError ?xLTextError ?saTextError ?sBTextError ?tCTextError ?kCTextError ?coTextError ?flTextError ?ceTextError ?mrTextError ?sVTextError ?anTextError ?suTextError ?tpTextError ?hgTextError ?hkTextError ?hdTextError ?haTextError ?hnTextError ?htTextError ?hmTextError ?icTextError ?sCTextError ?nf_line_TextError ?nf_column_TextError ?nf_reason_TextError ?aCTooLarge ?iCTooLarge ?tITooLarge ?lkTooLarge ?hcTooLarge ?xLTooLarge ?saTooLarge ?sBTooLarge ?tCTooLarge ?kCTooLarge ?coTooLarge ?flTooLarge ?ceTooLarge ?mrTooLarge ?sVTooLarge ?anTooLarge ?suTooLarge ?tpTooLarge ?hgTooLarge ?hkTooLarge ?hdTooLarge ?haTooLarge ?hnTooLarge ?htTooLarge ?hmTooLarge ?icTooLarge ?sCTooLarge ?nf_limit_TooLarge ?aCConditionReader ?pgConditionReader ?hdConditionReader ?poConditionReader ?saConditionReader ?mkConditionReader ?kcConditionReader ?nConditionReader__tokens ?nConditionReader__behind ?nConditionReader__at ?nConditionReader__depth ?z_abs ?z_bool ?z_enumerate ?z_int ?z_isinstance ?z_len ?z_list ?z_max ?z_range ?z_reversed ?z_str ?z_sum ?z_super ?v_DIGITS ?v_WORD_SIGNS ?v_MOST_IN_NAME ?v_MOST_WEIGHT ?v_MOST_AMOUNT ?v_MOST_OPEN ?v_MOST_NUMBER ?v_MOST_CHARACTERS_conditions ?v_MOST_CHARACTERS_reader ?v_MOST_LINES ?v_WORDS_OF_ITEM ?v_COMPARING ?l_COMPARING ?v_ATOM_WORDS ?l_ATOM_WORDS
    (case aCSamphireError => k_is)
    (case aCTextError => k_is)
    (case aCTooLarge => k_is)
    (case aCConditionReader => k_is)
    (case a1 => k_is)
    (case l1 => k_is)
    (case c1 => k_is)
    (case k1 => k_is)
    (case a2 => k_is)
    (case l2 => k_is)
    (case c2 => k_is)
    (case k2 => k_is)
    (case a3 => k_is)
    (case l3 => k_is)
    (case c3 => k_is)
    (case k3 => k_is)
    (case a4 => k_is)
    (case l4 => k_is)
    (case c4 => k_is)
    (case k4 => k_is)
    (case a5 => k_is)
    (case l5 => k_is)
    (case c5 => k_is)
    (case k5 => k_is)
    (case a6 => k_is)
    (case l6 => k_is)
    (case c6 => k_is)
    (case k6 => k_is)
    (case a7 => k_is)
    (case l7 => k_is)
    (case c7 => k_is)
    (case k7 => k_is)
    (case a8 => k_is)
    (case l8 => k_is)
    (case c8 => k_is)
    (case k8 => k_is)
    (case a9 => k_is)
    (case l9 => k_is)
    (case c9 => k_is)
    (case k9 => k_is)
    (case a10 => k_is)
    (case l10 => k_is)
    (case c10 => k_is)
    (case k10 => k_is)
    (case a11 => k_is)
    (case l11 => k_is)
    (case c11 => k_is)
    (case k11 => k_is)
    (case a12 => k_is)
    (case i12 => k_is)
    (case l12 => k_is)
    (case c12 => k_is)
    (case k12 => k_is)
    (case a13 => k_is)
    (case i13 => k_is)
    (case l13 => k_is)
    (case c13 => k_is)
    (case k13 => k_is)
    (case a14 => k_is)
    (case i14 => k_is)
    (case l14 => k_is)
    (case c14 => k_is)
    (case k14 => k_is)
    (case a15 => k_is)
    (case i15 => k_is)
    (case l15 => k_is)
    (case c15 => k_is)
    (case k15 => k_is)
    (case a16 => k_is)
    (case i16 => k_is)
    (case l16 => k_is)
    (case c16 => k_is)
    (case k16 => k_is)
    (case a17 => k_is)
    (case i17 => k_is)
    (case l17 => k_is)
    (case c17 => k_is)
    (case k17 => k_is)
    (case a18 => k_is)
    (case i18 => k_is)
    (case l18 => k_is)
    (case c18 => k_is)
    (case k18 => k_is)
    (case a19 => k_is)
    (case i19 => k_is)
    (case l19 => k_is)
    (case c19 => k_is)
    (case k19 => k_is)
    (case a20 => k_is)
    (case i20 => k_is)
    (case l20 => k_is)
    (case c20 => k_is)
    (case k20 => k_is)
    (case a21 => k_is)
    (case i21 => k_is)
    (case l21 => k_is)
    (case c21 => k_is)
    (case k21 => k_is)
    (case a22 => k_is)
    (case i22 => k_is)
    (case l22 => k_is)
    (case c22 => k_is)
    (case k22 => k_is)
    (case a23 => k_is)
    (case i23 => k_is)
    (case l23 => k_is)
    (case c23 => k_is)
    (case k23 => k_is)
    (case a24 => k_is)
    (case l24 => k_is)
    (case c24 => k_is)
    (case k24 => k_is)
    (case a25 => k_is)
    (case l25 => k_is)
    (case c25 => k_is)
    (case k25 => k_is)
    (case a26 => k_is)
    (case l26 => k_is)
    (case c26 => k_is)
    (case k26 => k_is)
    (case a27 => k_is)
    (case l27 => k_is)
    (case c27 => k_is)
    (case k27 => k_is)
    (case a28 => k_is)
    (case l28 => k_is)
    (case c28 => k_is)
    (case k28 => k_is)
    (case a29 => k_is)
    (case l29 => k_is)
    (case c29 => k_is)
    (case k29 => k_is)
    (case a30 => k_is)
    (case l30 => k_is)
    (case c30 => k_is)
    (case k30 => k_is)
    (case a31 => k_is)
    (case l31 => k_is)
    (case c31 => k_is)
    (case k31 => k_is)
    (case a32 => k_is)
    (case l32 => k_is)
    (case c32 => k_is)
    (case k32 => k_is)
    (case a33 => k_is)
    (case l33 => k_is)
    (case c33 => k_is)
    (case k33 => k_is)
    (case a34 => k_is)
    (case l34 => k_is)
    (case c34 => k_is)
    (case k34 => k_is)
    (case a35 => k_is)
    (case l35 => k_is)
    (case c35 => k_is)
    (case k35 => k_is)
    (case a36 => k_is)
    (case l36 => k_is)
    (case c36 => k_is)
    (case k36 => k_is)
    (case a37 => k_is)
    (case l37 => k_is)
    (case c37 => k_is)
    (case k37 => k_is)
    (case a38 => k_is)
    (case l38 => k_is)
    (case c38 => k_is)
    (case k38 => k_is)
    (case a39 => k_is)
    (case l39 => k_is)
    (case c39 => k_is)
    (case k39 => k_is)
    (case a40 => k_is)
    (case l40 => k_is)
    (case c40 => k_is)
    (case k40 => k_is)
    (case a41 => k_is)
    (case l41 => k_is)
    (case c41 => k_is)
    (case k41 => k_is)
    (case a42 => k_is)
    (case l42 => k_is)
    (case c42 => k_is)
    (case k42 => k_is)
    (case a43 => k_is)
    (case l43 => k_is)
    (case c43 => k_is)
    (case k43 => k_is)
    (case a44 => k_is)
    (case l44 => k_is)
    (case c44 => k_is)
    (case k44 => k_is)
    (case a45 => k_is)
    (case l45 => k_is)
    (case c45 => k_is)
    (case k45 => k_is)
    (case a46 => k_is)
    (case l46 => k_is)
    (case c46 => k_is)
    (case k46 => k_is)
    (case a47 => k_is)
    (case l47 => k_is)
    (case c47 => k_is)
    (case k47 => k_is)
    (case a48 => k_is)
    (case l48 => k_is)
    (case c48 => k_is)
    (case k48 => k_is)
    (case a49 => k_is)
    (case l49 => k_is)
    (case c49 => k_is)
    (case k49 => k_is)
    (case a50 => k_is)
    (case l50 => k_is)
    (case c50 => k_is)
    (case k50 => k_is)
    (case iCTextError => k_is)
    (case tITextError => k_is)
    (case lkTextError => k_is)
    (case hcTextError => k_is)
    (case xLTextError => k_is)
    (case saTextError => k_is)
    (case sBTextError => k_is)
    (case tCTextError => k_is)
    (case kCTextError => k_is)
    (case coTextError => k_is)
    (case flTextError => first | rfl | decide +kernel)
    (case ceTextError => k_is)
    (case mrTextError => first | rfl | k_is)
    (case sVTextError => k_is)
    (case anTextError => k_is)
    (case suTextError => ks_is)
    (case tpTextError => first | rfl | decide +kernel)
    (case hgTextError => k_is)
    (case hkTextError => k_is)
    (case hdTextError => k_is)
    (case haTextError => k_is)
    (case hnTextError => k_is)
    (case htTextError => k_is)
    (case hmTextError => k_is)
    (case icTextError => k_is)
    (case sCTextError => first | rfl | k_is)
    (case nf_line_TextError => k_is)
    (case nf_column_TextError => k_is)
    (case nf_reason_TextError => k_is)
    (case iCTooLarge => k_is)
    (case tITooLarge => k_is)
    (case lkTooLarge => k_is)
    (case hcTooLarge => k_is)
    (case xLTooLarge => k_is)
    (case saTooLarge => k_is)
    (case sBTooLarge => k_is)
    (case tCTooLarge => k_is)
    (case kCTooLarge => k_is)
    (case coTooLarge => k_is)
    (case flTooLarge => first | rfl | decide +kernel)
    (case ceTooLarge => k_is)
    (case mrTooLarge => first | rfl | k_is)
    (case sVTooLarge => k_is)
    (case anTooLarge => k_is)
    (case suTooLarge => ks_is)
    (case tpTooLarge => first | rfl | decide +kernel)
    (case hgTooLarge => k_is)
    (case hkTooLarge => k_is)
    (case hdTooLarge => k_is)
    (case haTooLarge => k_is)
    (case hnTooLarge => k_is)
    (case htTooLarge => k_is)
    (case hmTooLarge => k_is)
    (case icTooLarge => k_is)
    (case sCTooLarge => first | rfl | k_is)
    (case nf_limit_TooLarge => k_is)
    (case pgConditionReader => k_is)
    (case hdConditionReader => k_is)
    (case poConditionReader => k_is)
    (case saConditionReader => k_is)
    (case mkConditionReader => k_is)
    (case kcConditionReader => k_is)
    (case nConditionReader__tokens => k_is)
    (case nConditionReader__behind => k_is)
    (case nConditionReader__at => k_is)
    (case nConditionReader__depth => k_is)
    (case z_abs => k_is)
    (case z_bool => k_is)
    (case z_enumerate => k_is)
    (case z_int => k_is)
    (case z_isinstance => k_is)
    (case z_len => k_is)
    (case z_list => k_is)
    (case z_max => k_is)
    (case z_range => k_is)
    (case z_reversed => k_is)
    (case z_str => k_is)
    (case z_sum => k_is)
    (case z_super => k_is)
    (case v_DIGITS => k_is)
    (case v_WORD_SIGNS => k_is)
    (case v_MOST_IN_NAME => k_is)
    (case v_MOST_WEIGHT => k_is)
    (case v_MOST_AMOUNT => k_is)
    (case v_MOST_OPEN => k_is)
    (case v_MOST_NUMBER => k_is)
    (case v_MOST_CHARACTERS_conditions => k_is)
    (case v_MOST_CHARACTERS_reader => k_is)
    (case v_MOST_LINES => k_is)
    (case v_WORDS_OF_ITEM => k_is)
    (case v_COMPARING => k_is)
    (case l_COMPARING => k_is)
    (case v_ATOM_WORDS => k_is)
    (case l_ATOM_WORDS => k_is)
