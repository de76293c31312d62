import PyProof.Rows.All
import Wide.All
import OpenK.AllK
import Wide.FinOn
import HandS.ForMost
import HandS.Style
import HandS.IsInst
import HandS.ExcInit
import HandS.ExcIs
import HandS.ExcField
import HandS.ForExc
import PySem.Challenge.RW_textorlist_k91_errors_made
set_option Elab.async false
set_option linter.all false
set_option maxRecDepth 100000
set_option maxHeartbeats 4000000
namespace TX
open PySem PySem.Spec PyProof.Rows L2

/-! ### either of two rules -/
section
variable {X : Cx}
theorem pe_alt {e : Expr} {t u : TE} (h1 : PE X e t) (h2 : PE X e u) : PE X e (fun σ H Q => t σ H Q ∨ u σ H Q) :=
  ⟨fun pins s σ H Q I h => h.elim (h1.run pins s σ H Q I) (h2.run pins s σ H Q I)⟩
theorem ps_alt {e : Stmt} {t u : TS} (h1 : PS X e t) (h2 : PS X e u) : PS X e (fun D σ H => t D σ H ∨ u D σ H) :=
  ⟨fun pins s σ H D I h => h.elim (h1.run pins s σ H D I) (h2.run pins s σ H D I)⟩
theorem pi_alt {tg e : Expr} {t u : TI} (h1 : PI X tg e t) (h2 : PI X tg e u) : PI X tg e (fun σ H R => t σ H R ∨ u σ H R) :=
  ⟨fun pins s σ H R I h => h.elim (h1.run pins s σ H R I) (h2.run pins s σ H R I)⟩
end

/-! ### data stays where the heap grows -/
theorem same_sqt {K : PySem.W.Frag} {H H' : Hp} {a : Addr} {xs : List V} (e : Same H H') (h : SqT K H a xs) : SqT K H' a xs := by
  rcases h with (h | ⟨o, h⟩) | h
  · exact .inl (.inl (e _ _ h))
  · exact .inl (.inr ⟨o, e _ _ h⟩)
  · exact .inr h
mutual
theorem dp_same {K : PySem.W.Frag} {H H' : Hp} (e : Same H H') : ∀ (d : PyData) (v : V), Dp K H v d → Dp K H' v d
  | .none, _, h => by cases h; exact .non
  | .bool b, _, h => by cases h; exact .bl b
  | .int i, _, h => by cases h; exact .int i
  | .str x, _, h => by cases h; exact .str x
  | .list xs, _, h => by
    cases h with
    | lst h1 h2 => exact .lst (e.seq h1) (dpAll_same e xs _ h2)
  | .tuple xs, _, h => by
    cases h with
    | tup h1 h2 => exact .tup (same_sqt e h1) (dpAll_same e xs _ h2)
  | .dict _, _, h => nomatch h
theorem dpAll_same {K : PySem.W.Frag} {H H' : Hp} (e : Same H H') : ∀ (ds : List PyData) (vs : List V), DpAll K H vs ds → DpAll K H' vs ds
  | [], _, h => by cases h; exact .nil
  | d :: ds, _, h => by
    cases h with
    | cons h1 h2 => exact .cons (dp_same e d _ h1) (dpAll_same e ds _ h2)
end
theorem DpAll.length {K : PySem.W.Frag} {H : Hp} : ∀ {ds : List PyData} {vs : List V}, DpAll K H vs ds → vs.length = ds.length
  | [], _, h => by cases h; rfl
  | _ :: _, _, h => by
    cases h with
    | cons _ h2 => exact congrArg (· + 1) (DpAll.length h2)
theorem DpAll.append {K : PySem.W.Frag} {H : Hp} : ∀ {ds es : List PyData} {vs ws : List V}, DpAll K H vs ds → DpAll K H ws es → DpAll K H (vs ++ ws) (ds ++ es)
  | [], _, _, _, h, g => by cases h; exact g
  | _ :: _, _, _, _, h, g => by
    cases h with
    | cons h1 h2 => exact .cons h1 (DpAll.append h2 g)
theorem DpAll.split {K : PySem.W.Frag} {H : Hp} : ∀ {ds es : List PyData} {vs : List V}, DpAll K H vs (ds ++ es) → ∃ a b, vs = a ++ b ∧ DpAll K H a ds ∧ DpAll K H b es
  | [], _, vs, h => ⟨[], vs, rfl, .nil, h⟩
  | d :: ds, es, _, h => by
    cases h with
    | cons h1 h2 =>
      obtain ⟨a, b, rfl, ha, hb⟩ := DpAll.split (ds := ds) (es := es) h2
      exact ⟨_ :: a, b, rfl, .cons h1 ha, hb⟩
theorem same_upd {H : Hp} {p : Addr} {o : HO} (h : H p = none) : Same H (upd H p o) := fun b x e => by
  rw [upd_ne (ne_of_none e h)]
  exact e
/-- a fresh place may be written again and again -/
theorem same_fresh {H0 H : Hp} {p : Addr} {o : HO} (h : H0 p = none) (e : Same H0 H) : Same H0 (upd H p o) := fun b x q => by
  rw [upd_ne (ne_of_none q h)]
  exact e b x q

/-! ### the number of parts -/
mutual
def nd : PyData → Nat
  | .list xs => ndAll xs + 1
  | .tuple xs => ndAll xs + 1
  | _ => 1
def ndAll : List PyData → Nat
  | [] => 0
  | d :: ds => nd d + ndAll ds
end
theorem ndAll_append : ∀ (a b : List PyData), ndAll (a ++ b) = ndAll a + ndAll b
  | [], b => by simp [ndAll]
  | d :: a, b => by
    rw [List.cons_append, ndAll, ndAll, ndAll_append a b]
    omega
theorem nd_pos : ∀ d : PyData, 1 ≤ nd d
  | .none => by simp [nd]
  | .bool _ => by simp [nd]
  | .int _ => by simp [nd]
  | .str _ => by simp [nd]
  | .list _ => by simp [nd]
  | .tuple _ => by simp [nd]
  | .dict _ => by simp [nd]
theorem ndAll_len : ∀ ds : List PyData, ds.length ≤ ndAll ds
  | [] => by simp
  | d :: ds => by
    have := ndAll_len ds
    have := nd_pos d
    rw [ndAll, List.length_cons]
    omega

/-! ### what a value's type is, for isinstance -/
/-- the type of a value that represents data -/
def tyD : PyData → String
  | .none => "NoneType"
  | .bool _ => "bool"
  | .int _ => "int"
  | .str _ => "str"
  | .list _ => "list"
  | .tuple _ => "tuple"
  | .dict _ => "dict"
theorem dp_ty {K : PySem.W.Frag} {H : Hp} {v : V} {d : PyData} (h : Dp K H v d) : TyX K H v (.type (tyD d)) := by
  cases h with
  | non => exact .base .non
  | bl b => exact .base (.bl b)
  | int i => exact .base (.int i)
  | str x => exact .base (.str x)
  | lst h1 _ =>
    rcases h1 with (h | ⟨o, h⟩) | ⟨o, its, n, hk, hc, _⟩
    · exact .base (.lst h)
    · exact .base (.frz h)
    · exact .kList hk hc
  | tup h1 _ =>
    rcases h1 with (h | ⟨o, h⟩) | ⟨o, its, n, hk, hc, _⟩
    · exact .base (.tup h)
    · exact .fTuple h
    · exact .kTuple hk hc

/-! ### repr of data -/
section
variable {X : Cx}
def rRepr (K : PySem.W.Frag) : List V → Hp → VK → Prop := fun xs H Q => ∃ v d, xs = [v] ∧ Dp K H v d ∧ d.showable = true ∧ d.hasDict = false ∧ d.depth ≤ 60 ∧ d.shown.length ≤ sizeLine ∧ Q (.str d.shown) H
theorem call_repr (hg : X.A.guards = some []) (hu : X.A.units + 64 < cLine) : CallR X (.builtin "repr") (rRepr X.K) := by
  intro pins s σ H xs us Q I r h
  obtain ⟨v, d, rfl, hd, hs, hn, hz, hl, q⟩ := h
  obtain ⟨u, rfl, rv⟩ := r.one
  have fin : ∀ tk t, EP X pins σ Q (.str d.shown t) { s with toks := tk } := fun tk t => ⟨.str _, H, I.tok tk, ⟨t, rfl⟩, q⟩
  obtain ⟨as, rd⟩ := Dp.reads I d v u hd rv
  cases hd with
  | non =>
    cases rv
    simp only [PyData.shown] at fin
    exact PySem.P.repr_of_none (fin _ _)
  | bl b =>
    cases rv
    simp only [PyData.shown] at fin
    exact PySem.P.repr_of_bool (fin _ _)
  | int i =>
    obtain ⟨t, rfl⟩ := rv
    simp only [PyData.shown] at fin
    exact PySem.P.repr_of_int (by simpa [PyData.showable] using hs) (fin _ _)
  | str x =>
    obtain ⟨t, rfl⟩ := rv
    simp only [PyData.shown] at fin hl
    exact PySem.P.repr_of_str (fin _ _) hl
  | lst h1 h2 =>
    cases rv
    exact repr_of_reads' rd hs (PyData.noDict_hsm hn) hg (by omega) (fun _ _ e => e) (fun h' t tk hk => ⟨.str _, H, I.kept hk, ⟨t, rfl⟩, q⟩) hl
  | tup h1 h2 =>
    cases rv
    exact repr_of_reads' rd hs (PyData.noDict_hsm hn) hg (by omega) (fun _ _ e => e) (fun h' t tk hk => ⟨.str _, H, I.kept hk, ⟨t, rfl⟩, q⟩) hl
end
end TX
namespace TX
open PySem PySem.Spec PyProof.Rows L2
/-! ### a def that is called where nothing is being shown (no repr under way) -/
structure FnG (P : Program) (w : World) (K : PySem.W.Frag) (mg : Str → Option Value) (base : Heap) (C : CXT) (k : Nat) (f : Addr) (fd : FuncData) (ps : List Str) (sp : Sp) : Prop where
  len : ∀ vs H Q E, sp vs H Q E → vs.length = ps.length
  go : ∀ (A : Around), A.guards = some [] → ∀ (outer : List Env) (s : Shared) (H : Hp) (args : Args) (us : List Value) (vs : List V) (Q : VK) (E : XK), Room k A → Env0 P w K mg base A outer s H →
    BindsTo s fd args (ps.zip us) → Vals vs us → sp vs H Q E → codeAny (model P w) A (.call (.ref f) args) (CR C outer P w H s Q E) s
section
variable {P : Program} {w : World} {K : PySem.W.Frag} {mg : Str → Option Value} {base : Heap} {C : CXT} {k : Nat} {f : Addr} {fd : FuncData} {N ps : List Str} {sp : Sp}
theorem fng_of {x qual : Str} {st : Stmt} (F : Fun K x qual st f fd) (S : FnScope N ps (defScope st)) (len : ∀ vs H Q E, sp vs H Q E → vs.length = ps.length)
    (hb : ∀ (cdv : Value) (A : Around) (outer : List Env) (s : Shared) (H : Hp) (vs : List V) (Q : VK) (E : XK), A.guards = some [] → Room k (A.deeper (envOfC qual (defScope st) s.heap.objs.size f cdv)) → sp vs H Q E →
      ∃ t, PSs (cxOf CX0 P w K mg base N qual (defScope st) f cdv A outer s H E).nox (defBody st) t ∧ t { nx := fun _ H' => Q .non H', rt := Q } (start N vs) H) : FnG P w K mg base CX0 (k + 1) f fd ps sp := by
  obtain ⟨oc, od, kV, doc, pm, an, cdv, ct, osl, rfl, lk, hcd⟩ := F.ex
  refine ⟨len, fun A hg outer s H args us vs Q E hr e0 hbd r hsp => ?_⟩
  have up : ∀ b o, base.get? b = some o → s.heap.get? b = some o := fun b o e => (e0.bs b o e).1
  have KX : K.In s.heap := e0.mod.kin.keeps up
  have par : ∀ y ∈ ps.zip us, (defScope st).names.lookup y.1 = some .local ∨ ((defScope st).names.lookup y.1 = some .cell ∧ ((cellsFrom (s.heap.objs.size + 1) (defScope st).names []).lookup y.1).isSome = true) := by
    rintro ⟨n, v⟩ hy
    exact (S.par n (List.of_mem_zip hy).1).imp id fun q => ⟨q, PySem.W.cellsFrom_some _ _ _ (.inl q)⟩
  refine codeAny_call_function hr.depth (KX _ _ lk) rfl S.co S.gen rfl (PySem.W.codeRec_of KX hcd) (hbd _ _ _ _ (wpAny_newFunctionEnv_cells S.kind par fun env he s1 x => ?_))
  cases he
  obtain ⟨t, ht, hq⟩ := hb cdv A outer s H vs Q E hg (hr.deeper _) hsp
  refine ⟨(e0.mod.nolimit.keeps up).keeps x.toInCall.keep, codeAny_func (wpAny_mono (ht.nox.run [] s1 (start N vs) H _ (inv_start S hr.hd e0 (len _ _ _ _ hsp) r x) hq) (fun fl s' hs => ?_) fun e s' hs => hs)⟩
  cases fl with
  | next => exact let ⟨σ', H', J, q⟩ := hs; ⟨.non, H', J.os, J.bare, J.base, J.hok, rfl, q⟩
  | ret u => exact let ⟨v, σ', H', J, rv, q⟩ := hs; ⟨v, H', J.os, J.bare, J.base, J.hok, rv, q⟩
  | brk => exact let ⟨_, _, _, q⟩ := hs; False.elim q
  | cont => exact let ⟨_, _, _, q⟩ := hs; False.elim q
theorem deeper_guards {A : Around} {env : Env} : (A.deeper env).guards = A.guards := rfl
end
section
variable {X : Cx} {C : CXT} {k : Nat} {f : Addr} {fd : FuncData} {ps : List Str} {sp : Sp} {dvs : List V} {ds : List Value} {E : XK} {x : Str} {p pos : Pos} {e : Expr} {es : List Expr} {t : TA}
theorem pe_callG (F : FnG X.prog X.w X.K X.mg X.base C k f fd ps sp) (hgd : X.A.guards = some []) (hr : Room k X.A) (hg : Gl X x) (hm : X.mg x = some (.ref f)) (hk : PySem.W.keepIn X.K (.ref f) = true) (hb : Binds X.K fd ps ds) (hd : Vals dvs ds)
    (hx : Passes C X E) (ha : PA X (e :: es) t) (hdb : (x == ("__debug__" : Str)) = false := by decide) (he : starEach (e :: es) X.env = (false, eval e X.env) :: starEach es X.env := by rfl)
    (hpl : (backTo pos (starEach es X.env)).any (·.1) = false := by rfl) : PE X (.Call (.Name x p) (e :: es) [] pos) (tCall sp dvs E t) := by
  refine ⟨fun pins s σ H Q I h => wpAny_Call_Name_kw (ld_glob I hg hm (PySem.W.callWith_K (h₀ := X.base) I.ok.mod.kin hk (thn (ha.run pos pins s σ H _ I h) fun us s1 h1 => ?_) he hpl) hdb)⟩
  obtain ⟨vs, H1, I1, r, q⟩ := h1
  have r2 := r.append hd
  have hl : (us ++ ds).length = ps.length := r2.length.symm.trans (F.len _ _ _ _ q)
  refine ⟨I1.kIn, wpAny_call (codeAny_mono (F.go X.A hgd X.stack s1 H1 ⟨us, []⟩ _ _ _ _ hr I1.env0 (hb s1 us I1.kIn hl) r2 q) fun r s' hq => ?_)⟩
  cases r with
  | error er => exact hx pins σ H1 s1 er s' I1 hq
  | ok fl => cases fl with
    | ret u => exact I1.after hq
    | next => exact hq.elim
    | brk => exact hq.elim
    | cont => exact hq.elim
end
/-- the law's def, called by the claim -/
theorem lawG {P : Program} {w : World} {K : PySem.W.Frag} {mg mb : Str → Option Value} {k : Nat} {fa a : Addr} {fd : FuncData} {x : Str} {sp : Sp} {s₁ : Shared} {vs : List Value} {ns : List Int}
    (KX : K.In s₁.heap) (hns : s₁.heap.Ns mainGlobals mg) (hb : s₁.heap.Ns builtinsNs mb) (hbb : ∀ x : Str, x ≠ "__name__" → mb x = bootBuiltins x) (hlim : s₁.heap.NoLimit) (hg : s₁.gens = #[])
    (ha : s₁.heap.get? a = some { cls := .type "list", data := .seq vs.toArray }) (hi : IntsAre vs ns) (hl : ns.length ≤ sizeLine) (hr : Room k callerA)
    (F : ∀ base : Heap, K.In base → base.Ns mainGlobals mg → FnG P w K mg base CX0 k fa fd [x] sp) (hbind : ∀ (s : Shared) (u : Value), BindsTo s fd ⟨[u], []⟩ [(x, u)])
    (hsp : ∀ H : Hp, Only H → SqL K H a (ns.map V.int) → sp [.ref a] H (fun v _ => v = .bl true) fun _ _ _ => False) :
    codeAny (model P w) callerA (.call (.ref fa) ⟨[.ref a], []⟩) (fun r s' => r = .ok (.ret (.bool true)) ∧ OldK s₁.heap s'.heap ∧ s'.os = s₁.os ∧ AllBare s'.gens) s₁ := by
  have rv := vals_ints hi
  have lenV := hi.length
  have main : ∀ H : Hp, Only H → SqL K H a (ns.map V.int) → HOk P w H s₁.heap → (∀ b, H b ≠ none → b = a) → (H a ≠ none → K.lookup a = none) →
      codeAny (model P w) callerA (.call (.ref fa) ⟨[.ref a], []⟩) (fun r s' => r = .ok (.ret (.bool true)) ∧ OldK s₁.heap s'.heap ∧ s'.os = s₁.os ∧ AllBare s'.gens) s₁ := by
    intro H hO hS hok hA hK
    have atA : ∀ {b : Addr} {u : HO}, H b = some u → b = a := fun q => hA _ (by rw [q]; exact fun z => nomatch z)
    have noD : ∀ {b : Addr} {o : Obj} {es : Array DictEntry} {ep : Nat}, s₁.heap.get? b = some o → o.data = .dict es ep → H b = none := by
      intro b o es ep e d
      cases q : H b with
      | none => rfl
      | some u =>
        cases atA q
        rw [ha] at e
        cases e
        exact absurd d (fun z => nomatch z)
    have nsK : ∀ {b : Addr} {m : Str → Option Value}, s₁.heap.Ns b m → (hidT s₁.heap H).Ns b m := fun ⟨o, es, ep, e, d, r⟩ => ⟨o, es, ep, hidT_get e (noD e d), d, r⟩
    have hKb : K.In (hidT s₁.heap H) := by
      intro b o e
      refine hidT_get (KX b o e) ?_
      cases q : H b with
      | none => rfl
      | some u =>
        cases atA q
        rw [hK (by rw [q]; exact fun z => nomatch z)] at e
        cases e
    have hM : Mod K mg (hidT s₁.heap H) := ⟨hKb, nsK hns, ⟨mb, nsK hb, hbb⟩, let ⟨mc, h1, h2⟩ := hlim; ⟨mc, nsK h1, h2⟩⟩
    have e0 : Env0 P w K mg (hidT s₁.heap H) callerA [] s₁ H := ⟨rfl, hM, fun b o e => of_hidT e, Nat.le_of_eq (hidT_size _ _), trivial, fun b hb => (nomatch hb), hok, .of_eq hg⟩
    refine codeAny_mono ((F _ hKb (nsK hns)).go callerA rfl [] s₁ H ⟨[.ref a], []⟩ [.ref a] [.ref a] _ _ hr e0 (hbind s₁ (.ref a)) (.cons rfl .nil) (hsp H hO hS)) fun r s' h => ?_
    cases r with
    | error e => exact (show False from h).elim
    | ok fl => cases fl with
      | next => exact h.elim
      | brk => exact h.elim
      | cont => exact h.elim
      | ret u =>
        obtain ⟨v, H', os, bare, un, hok', r', q⟩ := h
        cases (show v = .bl true from q)
        cases (show u = Value.bool true from r')
        refine ⟨rfl, OldK.of_keep fun b o e => ?_, os, bare⟩
        cases q : H b with
        | none => exact un.keep b o e q (fun z => nomatch z) (fun z => nomatch z)
        | some u =>
          rcases hO b with z | ⟨ob, xs, z⟩
          · rw [q] at z
            cases z
          · obtain ⟨e1, _⟩ := hok b _ z
            obtain ⟨e2, _⟩ := hok' b _ (un.frzs b ob _ z)
            rw [e] at e1
            cases e1
            exact e2
  cases hk : K.lookup a with
  | some o =>
    have e := KX a o hk
    rw [ha] at e
    cases e
    exact main (fun _ => none) (fun _ => .inl rfl) (.inr ⟨_, vs.toArray, _, hk, rfl, rfl, rfl, by rw [List.size_toArray, lenV]; exact hl, by simpa using rv⟩) (fun b u z => nomatch z) (fun b z => absurd rfl z) fun z => absurd rfl z
  | none =>
    refine main (fun b => if b = a then some (.frz { cls := .type "list", data := .seq vs.toArray } (.lst (ns.map V.int))) else none) (fun b => ?_) (.inl (.inr ⟨{ cls := .type "list", data := .seq vs.toArray }, if_pos rfl⟩)) (fun b u z => ?_) (fun b z => ?_) fun _ => hk
    · by_cases hb : b = a
      · exact .inr ⟨_, _, if_pos hb⟩
      · exact .inl (if_neg hb)
    · by_cases hb : b = a
      · cases hb
        cases (if_pos rfl).symm.trans z
        exact ⟨ha, by rw [List.length_map]; exact hl, vs, _, rv, ha⟩
      · cases (if_neg hb).symm.trans z
    · exact Classical.byContradiction fun hb => z (if_neg hb)
theorem walkG {l : PySem.W.OpenLaw} {n k : Nat} {q : Program} {loose : List Str} {XP : (Str → Option Value) → Heap → Prop} {YP : World → Heap → Prop} {d : DefRec} {K : Params → PySem.W.Frag} {sp : World → Sp} {x : Str}
    (hn : l.most = some n) (hn2 : n ≤ sizeLine) (hdf : d.params.defaults = []) (hr : Room k callerA) (hY : ∀ (w : World) (h : Heap), YP w h → (K w.params).In h)
    (F : ∀ (w : World) (mg : Str → Option Value) (fa : Addr) (h : Heap), (K w.params).In h → h.Ns mainGlobals mg → mg d.name = some (.ref fa) →
      ∃ fd : FuncData, (∀ (s : Shared) (u : Value), BindsTo s fd ⟨[u], []⟩ [(x, u)]) ∧ ∀ base : Heap, (K w.params).In base → base.Ns mainGlobals mg → FnG l.prog w (K w.params) mg base CX0 k fa fd [x] (sp w))
    (hsp : ∀ (w : World) (H : Hp) (a : Addr) (ns : List Int), ns.length ≤ n → Only H → SqL (K w.params) H a (ns.map V.int) → sp w [.ref a] H (fun v _ => v = .bl true) fun _ _ _ => False) :
    PySem.W.WalkO q loose XP YP l.row.toRowW d [] (fun f vs => PySem.call f vs) := by
  refine Att.attach_call hn hdf fun w s₀ s₁ mg mb fa o pm cd doc a vs ns G Y ho hd hcd hmg hobj hints hlen hg => ?_
  obtain ⟨fd, hb, hF⟩ := F w mg fa _ (hY w _ Y) G.T.g hmg
  exact lawG (hY w _ Y) G.T.g G.T.b G.T.builtins G.T.nolimit hg hobj hints (Nat.le_trans hlen hn2) hr hF hb fun H hO hS => hsp w H a ns hlen hO hS
end TX
namespace TX
open PySem PySem.Spec PyProof.Rows L2
section
variable {prog : Program} {w : World} {A : Around} {E : Value → Shared → Prop} {s : Shared}
theorem slAdj_back (n : Nat) : Builtin.Slice.sliceAdjust none none (-1) (n : Int) = ((n : Int) - 1, -1) := rfl
theorem slPl_back (n : Nat) : Builtin.Slice.slicePlaces ((n : Int) - 1) (-1) (-1) = n := by
  unfold Builtin.Slice.slicePlaces
  rw [if_neg (by decide)]
  split
  · have e : -(-1 : Int) = 1 := by decide
    rw [e, Int.ediv_one]
    omega
  · omega
theorem slApp_back {sl : Addr} {n : Nat} {u : Tok} {Q : Int × Int × Nat → Shared → Prop} (hs : s.heap.IsSliceOf sl .none .none (.int (-1) u)) (h : Q ((n : Int) - 1, -1, n) s) :
    wpAny (model prog w) A (Builtin.Slice.sliceApplied (.ref sl) (pure (n : Int))) Q E s := by
  obtain ⟨os, g1, g2, g3⟩ := hs
  unfold Builtin.Slice.sliceApplied Builtin.Slice.sliceFields
  refine wpAny_bind (wpAny_bind (wpAny_field g1 g3 (x := .none) rfl (wpAny_bind (wpAny_field g1 g3 (x := .none) rfl (wpAny_bind (wpAny_field g1 g3 (x := .int (-1) u) rfl (wpAny_pure ?_)))))))
  refine wpAny_bind (slicePart_int ?_)
  show wpAny _ _ (if ((-1 : Int) == 0) = true then _ else _) _ _ s
  rw [if_neg (by decide)]
  refine wpAny_bind (slicePart_none (wpAny_bind (slicePart_none (wpAny_bind (wpAny_pure ?_)))))
  show wpAny _ _ (match Builtin.Slice.sliceAdjust none none (-1) (n : Int) with | (lo, hi) => pure (lo, (-1 : Int), Builtin.Slice.slicePlaces lo hi (-1))) _ _ s
  rw [slAdj_back]
  show wpAny _ _ (pure ((n : Int) - 1, (-1 : Int), Builtin.Slice.slicePlaces ((n : Int) - 1) (-1) (-1))) _ _ s
  rw [slPl_back]
  exact wpAny_pure h
theorem fm_congr {f g : Nat → Option Value} : ∀ l : List Nat, (∀ k ∈ l, f k = g k) → l.filterMap f = l.filterMap g
  | [], _ => rfl
  | k :: l, h => by
    rw [List.filterMap_cons, List.filterMap_cons, h k List.mem_cons_self, fm_congr l fun j hj => h j (List.mem_cons_of_mem _ hj)]
theorem pick_back (l : List Value) : ((List.range l.length).filterMap fun (k : Nat) => l.toArray[(((l.length : Nat) : Int) - 1 + (k : Int) * (-1)).toNat]?) = l.reverse := by
  have e : ∀ k ∈ List.range l.length, (fun (k : Nat) => l.toArray[(((l.length : Nat) : Int) - 1 + (k : Int) * (-1)).toNat]?) k = (some ∘ fun k => (l.reverse[k]?).getD .none) k := by
    intro k hk
    have hk' := List.mem_range.mp hk
    have e1 : (((l.length : Nat) : Int) - 1 + (k : Int) * (-1)).toNat = l.length - 1 - k := by omega
    show l.toArray[(((l.length : Nat) : Int) - 1 + (k : Int) * (-1)).toNat]? = some ((l.reverse[k]?).getD .none)
    rw [e1, List.getElem?_toArray, List.getElem?_reverse (by omega), List.getElem?_eq_getElem (by omega)]
    rfl
  rw [fm_congr _ e, List.filterMap_eq_map]
  apply List.ext_getElem?
  intro i
  rw [List.getElem?_map]
  by_cases h : i < l.length
  · rw [List.getElem?_range h, List.getElem?_eq_getElem (by simpa using h)]
    simp [List.getElem?_eq_getElem, h]
  · rw [List.getElem?_eq_none (by simpa using h), List.getElem?_eq_none (by simpa using h)]
    rfl
/-- t[::-1] of a tuple -/
theorem getItem_tuple_back {t sl : Addr} {items : List Value} {u : Tok} {Q : Value → Shared → Prop} (ht : IsTup s.heap t items.toArray) (hs : s.heap.IsSliceOf sl .none .none (.int (-1) u))
    (h : Q (.ref s.heap.objs.size) { s with heap := s.heap.push { cls := .type "tuple", data := .seq items.reverse.toArray } }) (hsz : items.length ≤ sizeLine) : wpAny (model prog w) A (getItem (.ref t) (.ref sl)) Q E s := by
  have hTs : s.TypeIs (.ref sl) "slice" := let ⟨os, g1, g2, _⟩ := hs; ⟨os, g1, g2⟩
  have hfit : sizeOk (.seq items.reverse.toArray) := by
    show items.reverse.toArray.size ≤ sizeLine
    rw [List.size_toArray, List.length_reverse]
    exact hsz
  unfold getItem
  try with_reducible refine wpAny_holding ?_
  first | refine wpAny_bind (wpAny_pure ?_) | skip
  refine wpAny_bind (wpAny_sequenceKey ht.typeIs (by decide) ?_)
  refine wpAny_bind (wpAny_callSpecial?_slot (name := Str.ofString "__getitem__") ht.typeIs PyProof.Rows.slot_tuple_getitem (wpAny_call_entry PyProof.Rows.slot_tuple_getitem ht.typeIs entry_tuple_getitem ?_ (args_tuple_getitem _ _)))
  show wpAny _ _ (Builtin.Tuple.tupleItemsOf (.ref t) >>= _) _ _ s
  refine wpAny_bind (tupleItemsOf_ ht (wpAny_bind (wpAny_typeOf hTs ?_)))
  rw [if_pos (by decide)]
  refine wpAny_bind (slApp_back hs ?_)
  have no : ¬ ((((items.toArray.size : Nat) : Int) - 1 == 0 && (-1 : Int) == 1 && items.toArray.size == items.toArray.size) = true) := by
    intro q
    rw [Bool.and_eq_true, Bool.and_eq_true] at q
    exact absurd (eq_of_beq q.1.2) (by decide)
  show wpAny _ _ (if (((items.toArray.size : Nat) : Int) - 1 == 0 && (-1 : Int) == 1 && items.toArray.size == items.toArray.size) = true then _ else _) _ _ s
  rw [if_neg no]
  have e : ((List.range items.toArray.size).filterMap fun (k : Nat) => items.toArray[(((items.toArray.size : Nat) : Int) - 1 + (k : Int) * (-1)).toNat]?) = items.reverse := by
    rw [List.size_toArray]
    exact pick_back items
  rw [e]
  first
    | exact wpAny_bind (m := Builtin.Tuple.tupleExact _) (wpAny_newObj_type (wpAny_pure ⟨_, rfl, wpAny_pure h⟩) hfit)
    | exact wpAny_bind (m := Builtin.Tuple.tupleExact _) (wpAny_newObj_type (wpAny_bind (wpAny_pure (wpAny_pure ⟨_, rfl, wpAny_pure h⟩))) hfit)
    | exact wpAny_bind (wpAny_bind (m := Builtin.Tuple.tupleExact _) (wpAny_newObj_type (wpAny_pure (wpAny_pure ⟨_, rfl, wpAny_pure h⟩)) hfit))
    | exact wpAny_bind (wpAny_bind (m := Builtin.Tuple.tupleExact _) (wpAny_newObj_type (wpAny_pure ⟨_, rfl, wpAny_pure h⟩) hfit))
end
section
variable {X : Cx}
def tRevT (K : PySem.W.Frag) (te : TE) : TE := fun σ H Q => te σ H fun x H1 => ∃ a xs, x = .ref a ∧ SqT K H1 a xs ∧ ∀ p, H1 p = none → Q (.ref p) (upd H1 p (.tup xs.reverse))
theorem pe_revT {e : Expr} {te : TE} {k : Nat} {p1 p2 p3 pos : Pos} (he : PE X e te) : PE X (.Subscript e (.Slice none none (some (.UnaryOp .USub (.Constant (.int 1) k p1) p2)) p3) pos) (tRevT X.K te) := by
  refine ⟨fun pins s σ H Q I h => Subscript_ (thn (he.run pins s σ H _ I h) fun v s1 ⟨x, H1, I1, r1, a, xs, ex, hx, q⟩ => ?_)⟩
  subst ex
  cases r1
  have hst : PO X (some (.UnaryOp .USub (.Constant (.int 1) k p1) p2)) (tPart (tUn (rU fun i => .int (-i)) (tC (.int 1)))) := po_some (pe_un un_neg pe_int)
  refine wpAny_Slice (thn (po_none.run pins s1 σ H1 (fun o H2 => o = none ∧ H2 = H1) I1 ⟨rfl, rfl⟩) fun vl s2 ⟨l, H2, I2, pl, el, e2⟩ => ?_)
  subst el e2
  refine thn (po_none.run pins s2 σ H2 (fun o H3 => o = none ∧ H3 = H2) I2 ⟨rfl, rfl⟩) fun vu s3 ⟨u, H3, I3, pu, eu, e3⟩ => ?_
  subst eu e3
  refine thn (hst.run pins s3 σ H3 (fun o H4 => o = some (-1) ∧ H4 = H3) I3 ⟨1, rfl, -1, rfl, rfl, rfl⟩) fun vs s4 ⟨o, H4, I4, ps, eo, e4⟩ => ?_
  subst eo e4
  have I5 : Inv X pins σ H4 { s4 with heap := s4.heap.push { cls := .type "slice", data := .fields #[vl, vu, vs] } } := I4.kept (t' := s4.toks) fun b ob q => Heap.get?_push_of_some _ q
  obtain ⟨its, r, ht, hz⟩ := I5.tuple hx
  have hlen := r.length
  cases pl
  cases pu
  obtain ⟨tk, rfl⟩ : ∃ tk, vs = .int (-1) tk := by
    cases ps
    exact ⟨_, rfl⟩
  show wpAny (model X.prog X.w) X.A (subscriptTail e (.Slice none none (some (.UnaryOp .USub (.Constant (.int 1) k p1) p2)) p3) (.ref a) (.ref s4.heap.objs.size)) (EP X pins σ Q) X.xe { s4 with heap := s4.heap.push { cls := .type "slice", data := .fields #[.none, .none, .int (-1) tk] } }
  refine tail_any (ops := [.ref a, .ref s4.heap.objs.size]) ht.typeIs PyProof.Rows.slot_tuple_getitem.lookup ?_ (by with_unfolding_all rfl)
  refine getItem_tuple_back ht (Heap.IsSliceOf.new _ _ _ _) ?_ (by omega)
  refine ⟨.ref _, _, I5.laid (t' := s4.toks) (o := .tup xs.reverse) (fun b ob q => Heap.get?_push_of_some _ q) (Nat.le_refl _) ?_, rfl, q _ (I5.hok.fresh (Nat.le_refl _))⟩
  exact ⟨by rw [List.length_reverse]; exact hz, _, r.reverse, ⟨_, Heap.get?_push_size _ rfl, rfl, _, rfl⟩⟩
end
theorem ext_tup (l : Addr) (items : Array Value) (n : Nat) (b : Addr) (items2 : Array Value) (n2 : Nat) (dd : Option Addr) (sl : Array (Option Value)) (hs0 : ¬(!items.isEmpty && Builtin.List.listTooLong (items.size + items2.size)) = true)
    (hs1 : items.size ≤ sizeLine) (hs2 : items.size + items2.size ≤ sizeLine + 1) :
    Meets (Builtin.«list.extend» ⟨[.ref l, .ref b], []⟩) (fun _ R s => s.heap.get? l = some { cls := .type "list", dict := none, data := .seq items n, slots := #[] } ∧ s.heap.get? b = some { cls := .type "tuple", dict := dd, data := .seq items2 n2, slots := sl } ∧
      R (.ok (.ret Value.none)) { s with heap := s.heap.update l (Obj.mapSeq fun x => x ++ items2), toks := s.toks }) :=
  .of_wp fun prog w A R s h => by
    obtain ⟨hp, g, d, tk, os⟩ := s
    obtain ⟨hl, hb, h⟩ := h
    have f1 := AutoSeq1.idx_int
    have f2 := AutoSeq1.sub_tuple_tuple
    have f3 := AutoSeq1.sub_list_list
    have f4 := AutoSeq1.sub_tuple_list
    have f5 := AutoSeq1.sub_list_tuple
    have hz' : (items ++ items2).size ≤ sizeLine + 1 := by
      rw [Array.size_append]
      exact hs2
    wp_walk using (wpAny_updateSeq hl rfl (hz := hs1) (_hz' := hz')), AutoSeq1.wpAny_loadPart' hl, AutoSeq1.wpAny_loadPart' hb
    exact ⟨_, rfl, h⟩
section
variable {X : Cx}
def rExtT (K : PySem.W.Frag) : V → List V → Hp → VK → Prop := fun x vs H Q => ∃ l b xs zs, x = .ref l ∧ vs = [.ref b] ∧ H l = some (.lst xs) ∧ SqT K H b zs ∧ xs.length + zs.length ≤ sizeLine ∧ Q .non (upd H l (.lst (xs ++ zs)))
theorem mt_extT : MtM X "list.extend" (rExtT X.K) := by
  intro pins s σ H x vs v us Q I rx rv h
  obtain ⟨l, b, xs, zs, rfl, rfl, hH, hB, hz, q⟩ := h
  cases rx
  obtain ⟨u, rfl, ru⟩ := rv.one
  cases ru
  obtain ⟨z, its, n, r, hl, e⟩ := I.lstM hH
  obtain ⟨its2, r2, ⟨⟨cls, dd, data, sl⟩, e2, hc, n2, hd⟩, hz2⟩ := I.tuple hB
  simp only at hc hd
  subst hc hd
  have hl2 := r2.length
  have hsz : its.toArray.size + its2.toArray.size ≤ sizeLine := by
    rw [List.size_toArray, List.size_toArray]
    omega
  have hlong : ¬ (!its.toArray.isEmpty && Builtin.List.listTooLong (its.toArray.size + its2.toArray.size)) = true := by
    rw [notLongL hsz, Bool.and_false]
    exact Bool.false_ne_true
  refine call_meets F.slot_list_extend ⟨_, e, rfl⟩ F.entry_list_extend (F.args_list_extend_2 _ _) (ext_tup l its.toArray n b its2.toArray n2 dd sl hlong (by rw [List.size_toArray]; omega) (by omega)) ⟨e, e2, ?_⟩
  refine ⟨.non, _, I.lset (its' := its ++ its2) hH e (by simp) (r.append r2) ?_, rfl, q⟩
  rw [List.length_append]
  omega
end
end TX
namespace TX
open PySem PySem.Spec PyProof.Rows L2
def top (i : Nat) : Stmt := PySem.Challenge.pw_textorlist_k91_errors_made.main.body.getD i (.Pass ⟨0, 0, 0, 0⟩)
abbrev sParts : Stmt := top 1
abbrev sCopy : Stmt := top 2
/-! ### the walk over data: a step takes the first of the parts that wait -/
inductive Stp (K : PySem.W.Frag) (H : Hp) : List V × List PyData → V → List V × List PyData → Prop
  | leaf {v : V} {d : PyData} {r : List V} {rd : List PyData} : Dp K H v d → (tyD d == "list" || tyD d == "tuple") = false → Stp K H (v :: r, d :: rd) v (r, rd)
  | lst {a : Addr} {xs r : List V} {es rd : List PyData} : SqL K H a xs → DpAll K H xs es → Stp K H (.ref a :: r, .list es :: rd) (.ref a) (xs ++ r, es ++ rd)
  | tup {a : Addr} {xs r : List V} {es rd : List PyData} : SqT K H a xs → DpAll K H xs es → Stp K H (.ref a :: r, .tuple es :: rd) (.ref a) (xs ++ r, es ++ rd)
/-- the parts so far, the last one first -/
inductive Path (K : PySem.W.Frag) (H : Hp) (S0 : List V × List PyData) : List V → List V × List PyData → Prop
  | nil : Path K H S0 [] S0
  | cons {rs : List V} {S S' : List V × List PyData} {p : V} : Path K H S0 rs S → Stp K H S p S' → Path K H S0 (p :: rs) S'
theorem isLT (d : PyData) (K : PySem.W.Frag) : PySem.W.kitAny K (.type (tyD d)) [.type "list", .type "tuple"] = some (tyD d == "list" || tyD d == "tuple") := by
  cases d with
  | none => exact kitAny_cons (b := false) (kit_ty (a := "NoneType") (b := "list") (by decide +kernel)) (fun _ => kitAny_cons (b := false) (kit_ty (a := "NoneType") (b := "tuple") (by decide +kernel)) (fun _ => kitAny_nil) (fun z => nomatch z)) (fun z => nomatch z)
  | bool _ => exact kitAny_cons (b := false) (kit_ty (a := "bool") (b := "list") (by decide +kernel)) (fun _ => kitAny_cons (b := false) (kit_ty (a := "bool") (b := "tuple") (by decide +kernel)) (fun _ => kitAny_nil) (fun z => nomatch z)) (fun z => nomatch z)
  | int _ => exact kitAny_cons (b := false) (kit_ty (a := "int") (b := "list") (by decide +kernel)) (fun _ => kitAny_cons (b := false) (kit_ty (a := "int") (b := "tuple") (by decide +kernel)) (fun _ => kitAny_nil) (fun z => nomatch z)) (fun z => nomatch z)
  | str _ => exact kitAny_cons (b := false) (kit_ty (a := "str") (b := "list") (by decide +kernel)) (fun _ => kitAny_cons (b := false) (kit_ty (a := "str") (b := "tuple") (by decide +kernel)) (fun _ => kitAny_nil) (fun z => nomatch z)) (fun z => nomatch z)
  | dict _ => exact kitAny_cons (b := false) (kit_ty (a := "dict") (b := "list") (by decide +kernel)) (fun _ => kitAny_cons (b := false) (kit_ty (a := "dict") (b := "tuple") (by decide +kernel)) (fun _ => kitAny_nil) (fun z => nomatch z)) (fun z => nomatch z)
  | list _ => exact kitAny_cons (b := true) (kit_ty (a := "list") (b := "list") (by decide +kernel)) (fun z => nomatch z) (fun _ => rfl)
  | tuple _ => exact kitAny_cons (b := false) (kit_ty (a := "tuple") (b := "list") (by decide +kernel)) (fun _ => kitAny_cons (b := true) (kit_ty (a := "tuple") (b := "tuple") (by decide +kernel)) (fun z => nomatch z) (fun _ => rfl)) (fun z => nomatch z)
/-- what the walk asks of the names of the top -/
structure Nm (mg : Str → Option Value) : Prop where
  isi : mg "isinstance" = none
  lst : mg "list" = none
  tpl : mg "tuple" = none
def spParts (K : PySem.W.Frag) : Sp := fun vs H Q _ => ∃ (v : V) (d : PyData) (Hv : Hp), vs = [v] ∧ Same Hv H ∧ Dp K Hv v d ∧ nd d ≤ 1000000 ∧
  ∀ (H' : Hp) (p : Addr) (rs : List V), Same H H' → H p = none → H' p = some (.lst rs.reverse) → Path K Hv ([v], [d]) rs ([], []) → rs.length = nd d → Q (.ref p) H'
section
variable {P : Program} {w : World} {K : PySem.W.Frag} {mg : Str → Option Value} {base : Heap}
theorem scParts : FnScope ["thing", "waiting", "parts", "part"] ["thing"] (defScope sParts) := ⟨rfl, rfl, rfl, by decide +kernel, rfl, by decide +kernel, by decide +kernel⟩
theorem ok_parts {f : Addr} {fd : FuncData} {k : Nat} (F : Fun K "all_parts" "all_parts" sParts f fd) (T : Nm mg) : FnOk P w K mg base CX0 (k + 1) f fd ["thing"] (spParts K) := by
  refine F.ok scParts (fun vs H Q E h => ?_) (fun cdv A outer s H vs Q E hr h => ?_)
  · obtain ⟨v, d, Hv, rfl, _⟩ := h
    rfl
  · obtain ⟨v, d, Hv, rfl, sv, hd, hn, q⟩ := h
    refine ⟨_, pss_cons (ps_set (i := 1) scParts.nd rfl (.inl rfl) (pe_lst (pa_cons (pv 0) pa_nil)))
      (pss_cons (ps_set (i := 2) scParts.nd rfl (.inl rfl) (pe_lst pa_nil))
      (pss_cons (ps_while PassesOwn.never (pt_truth (pv 1) (by intro _; rfl))
        (pss_cons (ps_set (i := 3) scParts.nd rfl (.inl rfl) (pe_bm0 PySem.F.plainAttrs_list PySem.F.slot_list_pop PySem.F.type_list_pop mt_pop (pv 1)))
        (pss_cons (ps_expr (pe_bm PySem.F.plainAttrs_list PySem.F.slot_list_append PySem.F.type_list_append mt_append (pv 2) (pa_cons (pv 3) pa_nil)))
        (pss_one (ps_if (pt_val (pe_callB call_isiT (by rfl) T.isi (by decide +kernel) (pa_cons (pv 3) (pa_cons (pe_tup (pa_cons (pe_bltn (v := .ty "list") (by rfl) T.lst (by decide +kernel) rfl) (pa_cons (pe_bltn (v := .ty "tuple") (by rfl) T.tpl (by decide +kernel) rfl) pa_nil))) pa_nil))))
          (pss_one (ps_alt (ps_expr (pe_bm PySem.F.plainAttrs_list PySem.F.slot_list_extend PySem.F.type_list_extend mt_extend (pv 1) (pa_cons (pe_revL (pv 3)) pa_nil)))
            (ps_expr (pe_bm PySem.F.plainAttrs_list PySem.F.slot_list_extend PySem.F.type_list_extend mt_extT (pv 1) (pa_cons (pe_revT (pv 3)) pa_nil)))))
          pss_nil)))))
      (pss_one (ps_ret (pv 2))))), ?_⟩
    refine ⟨_, rfl, (by show 1 ≤ sizeLine; decide), fun wa nwa => ⟨by decide, fun pa npa => ?_⟩⟩
    have nwa' : pa ≠ wa := fun e => by
      rw [e, upd_same] at npa
      cases npa
    have npa0 : H pa = none := by
      rw [upd_ne nwa'] at npa
      exact npa
    -- the invariant
    refine ⟨fun m σ H1 => ∃ (rs : List V) (S : List V × List PyData) (y : Option V), σ = [some v, some (.ref wa), some (.ref pa), y] ∧ Same H H1 ∧ H1 wa = some (.lst S.1.reverse) ∧ H1 pa = some (.lst rs.reverse) ∧
      DpAll K Hv S.1 S.2 ∧ Path K Hv ([v], [d]) rs S ∧ rs.length + ndAll S.2 = nd d ∧ m = ndAll S.2, ⟨_, [], ([v], [d]), none, rfl, (same_upd nwa).trans (same_upd npa), ?_, upd_same, .cons hd .nil, .nil, ?_, rfl⟩, ?_⟩
    · rw [upd_ne nwa'.symm, upd_same]
      rfl
    · simp [ndAll]
    rintro m σ H1 ⟨rs, ⟨vs, ds⟩, y, rfl, sm, hw, hp, hS, hP, hc, rfl⟩
    refine ⟨_, rfl, _, .inl ⟨_, SqL.of hw, rfl⟩, ?_⟩
    cases hS with
    | nil =>
      -- nothing waits any more
      refine iteF ?_
      refine ⟨_, rfl, q H1 pa rs sm npa0 hp hP ?_⟩
      simpa [ndAll] using hc
    | @cons v1 r1 d1 rd1 h1 h2 =>
      have hne : (!((v1 :: r1, d1 :: rd1) : List V × List PyData).1.reverse.isEmpty) = true := by simp
      rw [hne]
      refine iteT ?_
      have hlen : rs.length + (nd d1 + ndAll rd1) = nd d := by simpa [ndAll] using hc
      have hrl : rs.length ≤ 1000000 := by omega
      have hvl : r1.length ≤ ndAll rd1 := by
        have e := DpAll.length h2
        have e2 := ndAll_len rd1
        omega
      refine ⟨fun σ' H2 => ∃ (S' : List V × List PyData), σ' = [some v, some (.ref wa), some (.ref pa), some v1] ∧ Same H H2 ∧ H2 wa = some (.lst S'.1.reverse) ∧ H2 pa = some (.lst (v1 :: rs).reverse) ∧ DpAll K Hv S'.1 S'.2 ∧ Stp K Hv (v1 :: r1, d1 :: rd1) v1 S' ∧ ndAll S'.2 + 1 = nd d1 + ndAll rd1, ?_, ?_⟩
      · rintro σ' H2 ⟨S', rfl, g1, g2, g3, g4, g5, g6⟩
        exact ⟨_, by simp only [ndAll]; omega, v1 :: rs, S', _, rfl, g1, g2, g3, g4, .cons hP g5, by rw [List.length_cons]; omega, rfl⟩
      -- part = waiting.pop()
      have ep : ((v1 :: r1, d1 :: rd1) : List V × List PyData).1.reverse = r1.reverse ++ [v1] := by simp
      rw [ep] at hw
      refine ⟨_, rfl, .inl ⟨rfl, _, SqL.of hw⟩, wa, _, v1, rfl, rfl, hw, by simp, ?_⟩
      rw [List.dropLast_concat]
      have sm1 : Same H (upd H1 wa (.lst r1.reverse)) := same_fresh nwa sm
      have hp1 : (upd H1 wa (.lst r1.reverse)) pa = some (.lst rs.reverse) := by
        rw [upd_ne nwa']
        exact hp
      -- parts.append(part)
      refine ⟨_, rfl, .inl ⟨rfl, _, SqL.of hp1⟩, _, rfl, pa, _, _, rfl, rfl, hp1, Nat.lt_of_le_of_lt (by simpa using hrl) (by decide), ?_⟩
      have sm2 := same_fresh (o := .lst (rs.reverse ++ [v1])) npa0 sm1
      have hw2 : (upd (upd H1 wa (.lst r1.reverse)) pa (.lst (rs.reverse ++ [v1]))) wa = some (.lst r1.reverse) := by
        rw [upd_ne nwa'.symm, upd_same]
      have hp2 : (upd (upd H1 wa (.lst r1.reverse)) pa (.lst (rs.reverse ++ [v1]))) pa = some (.lst (rs.reverse ++ [v1])) := upd_same
      -- if isinstance(part, (list, tuple))
      refine ⟨_, rfl, by decide, fun tp ntp => ?_⟩
      have t1 : wa ≠ tp := ne_of_none hw2 ntp
      have t2 : pa ≠ tp := ne_of_none hp2 ntp
      have sm3 : Same H (upd (upd (upd H1 wa (.lst r1.reverse)) pa (.lst (rs.reverse ++ [v1]))) tp (.tup [.ty "list", .ty "tuple"])) := sm2.trans (same_upd ntp)
      have hw3 : (upd (upd (upd H1 wa (.lst r1.reverse)) pa (.lst (rs.reverse ++ [v1]))) tp (.tup [.ty "list", .ty "tuple"])) wa = some (.lst r1.reverse) := by
        rw [upd_ne t1]
        exact hw2
      have hp3 : (upd (upd (upd H1 wa (.lst r1.reverse)) pa (.lst (rs.reverse ++ [v1]))) tp (.tup [.ty "list", .ty "tuple"])) pa = some (.lst (rs.reverse ++ [v1])) := by
        rw [upd_ne t2]
        exact hp2
      refine ⟨v1, tp, _, .type (tyD d1), [.type "list", .type "tuple"], _, rfl, upd_same, .cons (.ty _) (.cons (.ty _) .nil), dp_ty (dp_same (sv.trans sm3) _ _ h1), isLT d1 K, _, rfl, ?_⟩
      have er : (v1 :: rs).reverse = rs.reverse ++ [v1] := by simp
      generalize hG : upd (upd (upd H1 wa (.lst r1.reverse)) pa (.lst (rs.reverse ++ [v1]))) tp (.tup [.ty "list", .ty "tuple"]) = G at sm3 hw3 hp3
      -- what the reversed part puts behind
      have go : ∀ (rp : Addr) (o : HO) (xs : List V) (es : List PyData), G rp = none → DpAll K Hv xs es → nd d1 = ndAll es + 1 → Stp K Hv (v1 :: r1, d1 :: rd1) v1 (xs ++ r1, es ++ rd1) →
          ∃ S' : List V × List PyData, Same H (upd (upd G rp o) wa (.lst (r1.reverse ++ xs.reverse))) ∧ (upd (upd G rp o) wa (.lst (r1.reverse ++ xs.reverse))) wa = some (.lst S'.1.reverse) ∧
            (upd (upd G rp o) wa (.lst (r1.reverse ++ xs.reverse))) pa = some (.lst (v1 :: rs).reverse) ∧ DpAll K Hv S'.1 S'.2 ∧ Stp K Hv (v1 :: r1, d1 :: rd1) v1 S' ∧ ndAll S'.2 + 1 = nd d1 + ndAll rd1 := by
        intro rp o xs es nrp hxs hnd hst
        refine ⟨(xs ++ r1, es ++ rd1), same_fresh nwa (sm3.trans (same_upd nrp)), ?_, ?_, DpAll.append hxs h2, hst, ?_⟩
        · rw [upd_same]
          simp
        · rw [upd_ne nwa', upd_ne (ne_of_none hp3 nrp), er]
          exact hp3
        · show ndAll (es ++ rd1) + 1 = _
          rw [ndAll_append]
          omega
      have fit : ∀ (xs : List V) (es : List PyData), DpAll K Hv xs es → nd d1 = ndAll es + 1 → r1.reverse.length + xs.reverse.length ≤ sizeLine := by
        intro xs es hxs hnd
        have e1 := DpAll.length hxs
        have e2 := ndAll_len es
        rw [List.length_reverse, List.length_reverse]
        exact Nat.le_trans (show r1.length + xs.length ≤ 1000000 by omega) (by decide)
      have wne : ∀ {rp : Addr}, G rp = none → wa ≠ rp := fun h => ne_of_none hw3 h
      have leafy : (tyD d1 == "list" || tyD d1 == "tuple") = false → nd d1 = 1 → if (tyD d1 == "list" || tyD d1 == "tuple") = true then False else ∃ S' : List V × List PyData, Same H G ∧ G wa = some (.lst S'.1.reverse) ∧ G pa = some (.lst (v1 :: rs).reverse) ∧ DpAll K Hv S'.1 S'.2 ∧ Stp K Hv (v1 :: r1, d1 :: rd1) v1 S' ∧ ndAll S'.2 + 1 = nd d1 + ndAll rd1 := by
        intro e1 e2
        rw [e1]
        refine iteF ⟨(r1, rd1), sm3, hw3, by rw [er]; exact hp3, h2, .leaf h1 e1, ?_⟩
        show ndAll rd1 + 1 = _
        omega
      cases h1 with
      | non => exact let ⟨S', g⟩ := leafy rfl rfl; ⟨S', rfl, g⟩
      | bl b => exact let ⟨S', g⟩ := leafy rfl rfl; ⟨S', rfl, g⟩
      | int i => exact let ⟨S', g⟩ := leafy rfl rfl; ⟨S', rfl, g⟩
      | str x => exact let ⟨S', g⟩ := leafy rfl rfl; ⟨S', rfl, g⟩
      | @lst a xs es g1 g2 =>
        refine iteT (.inl ?_)
        refine ⟨_, rfl, .inl ⟨rfl, _, SqL.of hw3⟩, _, rfl, a, xs, rfl, (sv.trans sm3).seq g1, fun rp nrp => ?_⟩
        obtain ⟨S', g⟩ := go rp (.lst xs.reverse) xs es nrp g2 rfl (.lst g1 g2)
        exact ⟨wa, rp, _, _, rfl, rfl, by rw [upd_ne (wne nrp)]; exact hw3, upd_same, fit xs es g2 rfl, S', rfl, g⟩
      | @tup a xs es g1 g2 =>
        refine iteT (.inr ?_)
        refine ⟨_, rfl, .inl ⟨rfl, _, SqL.of hw3⟩, _, rfl, a, xs, rfl, same_sqt (sv.trans sm3) g1, fun rp nrp => ?_⟩
        obtain ⟨S', g⟩ := go rp (.tup xs.reverse) xs es nrp g2 rfl (.tup g1 g2)
        exact ⟨wa, rp, _, _, rfl, rfl, by rw [upd_ne (wne nrp)]; exact hw3, .inl (.inl upd_same), fit xs es g2 rfl, S', rfl, g⟩
end
end TX
namespace TX
open PySem PySem.Spec PyProof.Rows L2
/-- what is new behind H, but the place x -/
def newB (H : Hp) (x : Addr) (H' : Hp) : Hp := fun b => if b = x then none else match H b with
  | none => H' b
  | some _ => none
def newp (H H' : Hp) : Hp := fun b => match H b with
  | none => H' b
  | some _ => none
theorem newp_at {H H' : Hp} {b : Addr} (h : H b = none) : newp H H' b = H' b := by
  unfold newp
  rw [h]
theorem newp_old {H H' : Hp} {b : Addr} {o : HO} (h : H b = some o) : newp H H' b = none := by
  unfold newp
  rw [h]
theorem newp_less {H H1 H2 : Hp} (h : Same H H1) : Same (newp H1 H2) (newp H H2) := fun b o e => by
  cases h1 : H1 b with
  | some u =>
    rw [newp_old h1] at e
    cases e
  | none =>
    rw [newp_at h1] at e
    rw [newp_at (h.free h1)]
    exact e
theorem newB_newp {H H' : Hp} {x : Addr} : Same (newB H x H') (newp H H') := fun b o e => by
  unfold newB at e
  by_cases hb : b = x
  · rw [if_pos hb] at e
    cases e
  · rw [if_neg hb] at e
    exact e
theorem newp_same {H H' : Hp} : Same (newp H H') H' := fun b o e => by
  cases h : H b with
  | none =>
    rw [newp_at h] at e
    exact e
  | some u =>
    rw [newp_old h] at e
    cases e
theorem newB_at {H H' : Hp} {x b : Addr} (h : H b = none) (hx : b ≠ x) : newB H x H' b = H' b := by
  unfold newB
  rw [if_neg hx, h]
theorem newB_mono {H H1 H2 : Hp} {x : Addr} (h : ∀ b o, b ≠ x → H1 b = some o → H2 b = some o) : Same (newB H x H1) (newB H x H2) := fun b o e => by
  by_cases hb : b = x
  · unfold newB at e
    rw [if_pos hb] at e
    cases e
  · cases hh : H b with
    | none =>
      rw [newB_at hh hb] at e ⊢
      exact h b o hb e
    | some u =>
      unfold newB at e
      rw [if_neg hb, hh] at e
      cases e
/-- a leaf is data in any heap -/
theorem dp_leaf {K : PySem.W.Frag} {H H' : Hp} {v : V} {d : PyData} (h : Dp K H v d) (e : (tyD d == "list" || tyD d == "tuple") = false) : Dp K H' v d := by
  cases h with
  | non => exact .non
  | bl b => exact .bl b
  | int i => exact .int i
  | str x => exact .str x
  | lst _ _ => simp [tyD] at e
  | tup _ _ => simp [tyD] at e
def spCopy (K : PySem.W.Frag) : Sp := fun vs H Q _ => ∃ (v : V) (d : PyData) (Hv : Hp), vs = [v] ∧ Same Hv H ∧ Dp K Hv v d ∧ nd d ≤ 1000000 ∧
  ∀ (H' : Hp) (v' : V), Same H H' → Dp K (newp H H') v' d → Q v' H'
theorem kit1 (d : PyData) (K : PySem.W.Frag) : PySem.W.kitOne K (.type (tyD d)) (.type "tuple") = some (tyD d == "tuple") := by
  cases d with
  | none => exact (kit_ty (a := "NoneType") (b := "tuple") (r := false) (by decide +kernel)).trans (by simp [tyD])
  | bool _ => exact (kit_ty (a := "bool") (b := "tuple") (r := false) (by decide +kernel)).trans (by simp [tyD])
  | int _ => exact (kit_ty (a := "int") (b := "tuple") (r := false) (by decide +kernel)).trans (by simp [tyD])
  | str _ => exact (kit_ty (a := "str") (b := "tuple") (r := false) (by decide +kernel)).trans (by simp [tyD])
  | list _ => exact (kit_ty (a := "list") (b := "tuple") (r := false) (by decide +kernel)).trans (by simp [tyD])
  | tuple _ => exact (kit_ty (a := "tuple") (b := "tuple") (r := true) (by decide +kernel)).trans (by simp [tyD])
  | dict _ => exact (kit_ty (a := "dict") (b := "tuple") (r := false) (by decide +kernel)).trans (by simp [tyD])
theorem rev_drop {c : List V} {j : Nat} {y : V} (h : c[j]? = some y) : (c.drop j).reverse = (c.drop (j + 1)).reverse ++ [y] := by
  obtain ⟨hj, e⟩ := List.getElem?_eq_some_iff.mp h
  rw [List.drop_eq_getElem_cons hj, e]
  simp
theorem path_count {K : PySem.W.Frag} {Hv : Hp} {S0 : List V × List PyData} : ∀ {rs : List V} {S : List V × List PyData}, Path K Hv S0 rs S → rs.length + ndAll S.2 = ndAll S0.2
  | _, _, .nil => by simp
  | _, _, .cons hP hs => by
    have ih := path_count hP
    cases hs with
    | @leaf v0 d0 r0 rd0 h e =>
      have one : nd d0 = 1 := by
        cases h with
        | non => rfl
        | bl b => rfl
        | int i => rfl
        | str x => rfl
        | lst _ _ => simp [tyD] at e
        | tup _ _ => simp [tyD] at e
      simp only [ndAll, one] at ih
      rw [List.length_cons]
      dsimp only
      omega
    | lst h g =>
      simp only [ndAll, nd] at ih
      rw [List.length_cons, ndAll_append]
      omega
    | tup h g =>
      simp only [ndAll, nd] at ih
      rw [List.length_cons, ndAll_append]
      omega
section
variable {P : Program} {w : World} {K : PySem.W.Frag} {mg : Str → Option Value} {base : Heap}
theorem scCopy : FnScope ["thing", "done", "part", "made", "_"] ["thing"] (defScope sCopy) := ⟨rfl, rfl, rfl, by decide +kernel, rfl, by decide +kernel, by decide +kernel⟩
theorem ok_copy {f fP : Addr} {fd fdP : FuncData} {k : Nat} (F : Fun K "copy_of" "copy_of" sCopy f fd) (T : Nm mg) (FP : Fun K "all_parts" "all_parts" sParts fP fdP) (bP : Binds K fdP ["thing"] []) (gP : mg "all_parts" = some (.ref fP)) :
    FnOk P w K mg base CX0 (k + 2) f fd ["thing"] (spCopy K) := by
  have GP : FnOk P w K mg base CX0 (k + 1) fP fdP ["thing"] (spParts K) := ok_parts FP T
  refine F.ok scCopy (fun vs H Q E h => ?_) (fun cdv A outer s H vs Q E hr h => ?_)
  · obtain ⟨v, d, Hv, rfl, _⟩ := h
    rfl
  · obtain ⟨v, d, Hv, rfl, sv, hd, hn, q⟩ := h
    refine ⟨_, pss_cons (ps_if (pt_not (pt_val (pe_callB call_isiT (by rfl) T.isi (by decide +kernel) (pa_cons (pv 0) (pa_cons (pe_tup (pa_cons (pe_bltn (v := .ty "list") (by rfl) T.lst (by decide +kernel) rfl) (pa_cons (pe_bltn (v := .ty "tuple") (by rfl) T.tpl (by decide +kernel) rfl) pa_nil))) pa_nil))))) (pss_one (ps_ret (pv 0))) pss_nil) <| pss_cons (ps_set (i := 1) scCopy.nd rfl (.inr rfl) (pe_lst pa_nil))
      (pss_cons (ps_for PassesOwn.never rfl (pi_list (pe_revL (pe_call GP hr (by rfl) gP FP.kp bP .nil pass0 (pa_cons (pv 0) pa_nil)))) (pg_name (i := 2) scCopy.nd rfl (.inl rfl))
        (pss_cons (ps_set (i := 3) scCopy.nd rfl (.inl rfl) (pv 2))
        (pss_cons (ps_if (pt_val (pe_callB call_isiT (by rfl) T.isi (by decide +kernel) (pa_cons (pv 2) (pa_cons (pe_tup (pa_cons (pe_bltn (v := .ty "list") (by rfl) T.lst (by decide +kernel) rfl) (pa_cons (pe_bltn (v := .ty "tuple") (by rfl) T.tpl (by decide +kernel) rfl) pa_nil))) pa_nil))))
          (pss_one (ps_alt
            (ps_setLc (i := 3) (own := [("_", 4)]) (g := gName 4) (tt := tYes) (te := tBM0 K "list" rPop (tVar 1)) rfl scCopy.nd rfl rfl (sw_true rfl rfl rfl (by decide +kernel)) (pi_list (pv 2)) (blkOk_by (N := ["thing", "done", "part", "made", "_"]) (sc := defScope sCopy) (by decide +kernel))
              (fun _ _ _ _ _ => pg_name (i := 4) scCopy.nd rfl (Or.inl rfl)) (fun _ _ _ _ _ => pts_nil) (fun _ _ _ _ _ => pe_bm0 PySem.F.plainAttrs_list PySem.F.slot_list_pop PySem.F.type_list_pop mt_pop (pv 1)))
            (ps_setLc (i := 3) (own := [("_", 4)]) (g := gName 4) (tt := tYes) (te := tBM0 K "list" rPop (tVar 1)) rfl scCopy.nd rfl rfl (sw_true rfl rfl rfl (by decide +kernel)) (pi_tup (pv 2)) (blkOk_by (N := ["thing", "done", "part", "made", "_"]) (sc := defScope sCopy) (by decide +kernel))
              (fun _ _ _ _ _ => pg_name (i := 4) scCopy.nd rfl (Or.inl rfl)) (fun _ _ _ _ _ => pts_nil) (fun _ _ _ _ _ => pe_bm0 PySem.F.plainAttrs_list PySem.F.slot_list_pop PySem.F.type_list_pop mt_pop (pv 1)))))
          pss_nil)
        (pss_cons (ps_if (pt_val (pe_callB call_isi (by rfl) T.isi (by decide +kernel) (pa_cons (pv 2) (pa_cons (pe_bltn (v := .ty "tuple") (by rfl) T.tpl (by decide +kernel) rfl) pa_nil))))
          (pss_one (ps_set (i := 3) scCopy.nd rfl (.inl rfl) (pe_callTy call_tuple_of (by rfl) T.tpl (by decide +kernel) (pa_cons (pv 3) pa_nil))))
          pss_nil)
        (pss_one (ps_expr (pe_bm PySem.F.plainAttrs_list PySem.F.slot_list_append PySem.F.type_list_append mt_append (pv 1) (pa_cons (pv 3) pa_nil))))))))
      (pss_one (ps_ret (pe_ix ix_list (pv 1) pe_int (fun _ _ => rfl))))), ?_⟩
    refine ⟨_, rfl, by decide, fun tp0 ntp0 => ?_⟩
    refine ⟨v, tp0, _, .type (tyD d), [.type "list", .type "tuple"], _, rfl, upd_same, .cons (.ty _) (.cons (.ty _) .nil), dp_ty (dp_same (sv.trans (same_upd ntp0)) _ _ hd), isLT d K, _, rfl, ?_⟩
    have q2 : ∀ (H' : Hp) (v' : V), Same (upd H tp0 (.tup [.ty "list", .ty "tuple"])) H' → Dp K (newp (upd H tp0 (.tup [.ty "list", .ty "tuple"])) H') v' d → Q v' H' := fun H' v' e1 e2 => q H' v' ((same_upd ntp0).trans e1) (dp_same (newp_less (same_upd ntp0)) _ _ e2)
    have sv2 : Same Hv (upd H tp0 (.tup [.ty "list", .ty "tuple"])) := sv.trans (same_upd ntp0)
    cases hlt : (tyD d == "list" || tyD d == "tuple") with
    | false =>
      exact iteT ⟨_, rfl, q2 _ _ (fun _ _ e => e) (dp_leaf hd hlt)⟩
    | true =>
    refine iteF ?_
    generalize upd H tp0 (.tup [.ty "list", .ty "tuple"]) = H at sv2 q2
    clear q sv ntp0 tp0
    have sv := sv2
    have q := q2
    refine ⟨by decide, fun da nda => ?_⟩
    -- all_parts(thing)[::-1]
    refine ⟨_, rfl, v, d, Hv, rfl, sv.trans (same_upd nda), hd, hn, fun H1 p rs sm1 np hp hP hlen => ?_⟩
    have hda1 : H1 da = some (.lst []) := sm1 _ _ upd_same
    refine ⟨p, _, rfl, SqL.of hp, fun r nr => ?_⟩
    rw [List.reverse_reverse]
    have rda : da ≠ r := ne_of_none hda1 nr
    have s0 : Same H (upd H1 r (.lst rs)) := ((same_upd nda).trans sm1).trans (same_upd nr)
    have hr0 : H r = none := ((same_upd nda).trans sm1).free nr
    have nda0 : H da = none := nda
    refine ⟨r, rfl, ⟨_, SqL.of upd_same⟩, for_list (K := K) (a := r) (xs := rs) (fun i σ H2 => ∃ (S : List V × List PyData) (cs : List V) (y2 y3 : Option V), σ = [some v, some (.ref da), y2, y3, none] ∧ Same H H2 ∧ H2 r = some (.lst rs) ∧
      Path K Hv ([v], [d]) (rs.drop i) S ∧ H2 da = some (.lst cs.reverse) ∧ DpAll K (newB H da H2) cs S.2) ?_ ?_ ?_ ?_⟩
    · exact ⟨([], []), [], none, none, rfl, s0, upd_same, hP, by rw [upd_ne rda]; exact hda1, .nil⟩
    · rintro i σ H2 hi ⟨S, cs, y2, y3, rfl, _, g, _⟩
      exact SqL.of g
    · rintro i x σ H2 hx ⟨S, cs, y2, y3, rfl, sm, hrs, hPi, hda, hcs⟩
      have edrop : rs.drop i = x :: rs.drop (i + 1) := by
        obtain ⟨hj, e⟩ := List.getElem?_eq_some_iff.mp hx
        rw [List.drop_eq_getElem_cons hj, e]
      rw [edrop] at hPi
      cases hPi with
      | @cons _ S1 _ _ hP1 hst =>
      have cnt := path_count (.cons hP1 hst)
      have cnt0 : ndAll ([d] : List PyData) = nd d := by simp [ndAll]
      have lcs : cs.length ≤ 1000000 := by
        have e1 := DpAll.length hcs
        have e2 := ndAll_len S.2
        have e3 : ndAll (([v], [d]) : List V × List PyData).2 = nd d := cnt0
        omega
      -- the part's data
      obtain ⟨dx, hdx⟩ : ∃ dx, Dp K Hv x dx ∧ ((∃ r1 rd1, S1 = (x :: r1, dx :: rd1) ∧ S = (r1, rd1) ∧ (tyD dx == "list" || tyD dx == "tuple") = false) ∨
          (∃ a xs es r1 rd1, x = .ref a ∧ dx = .list es ∧ SqL K Hv a xs ∧ DpAll K Hv xs es ∧ S1 = (x :: r1, .list es :: rd1) ∧ S = (xs ++ r1, es ++ rd1)) ∨
          (∃ a xs es r1 rd1, x = .ref a ∧ dx = .tuple es ∧ SqT K Hv a xs ∧ DpAll K Hv xs es ∧ S1 = (x :: r1, .tuple es :: rd1) ∧ S = (xs ++ r1, es ++ rd1))) := by
        cases hst with
        | leaf h e => exact ⟨_, h, .inl ⟨_, _, rfl, rfl, e⟩⟩
        | lst h g => exact ⟨_, .lst h g, .inr (.inl ⟨_, _, _, _, _, rfl, rfl, h, g, rfl, rfl⟩)⟩
        | tup h g => exact ⟨_, .tup h g, .inr (.inr ⟨_, _, _, _, _, rfl, rfl, h, g, rfl, rfl⟩)⟩
      obtain ⟨hx1, hcase⟩ := hdx
      -- made = part; isinstance(part, (list, tuple))
      refine ⟨_, rfl, _, rfl, by decide, fun tp ntp => ?_⟩
      have sm3 : Same H (upd H2 tp (.tup [.ty "list", .ty "tuple"])) := sm.trans (same_upd ntp)
      have hda3 : (upd H2 tp (.tup [.ty "list", .ty "tuple"])) da = some (.lst cs.reverse) := same_upd ntp _ _ hda
      have hrs3 : (upd H2 tp (.tup [.ty "list", .ty "tuple"])) r = some (.lst rs) := same_upd ntp _ _ hrs
      have hcs3 : DpAll K (newB H da (upd H2 tp (.tup [.ty "list", .ty "tuple"]))) cs S.2 := dpAll_same (newB_mono fun b o _ e => same_upd ntp b o e) _ _ hcs
      refine ⟨x, tp, _, .type (tyD dx), [.type "list", .type "tuple"], _, rfl, upd_same, .cons (.ty _) (.cons (.ty _) .nil), dp_ty (dp_same (sv.trans sm3) _ _ hx1), isLT dx K, _, rfl, ?_⟩
      generalize upd H2 tp (.tup [.ty "list", .ty "tuple"]) = G at sm3 hda3 hrs3 hcs3
      rcases hcase with ⟨r1, rd1, rfl, rfl, e⟩ | ⟨a, xs, es, r1, rd1, rfl, rfl, g1, g2, rfl, rfl⟩ | ⟨a, xs, es, r1, rd1, rfl, rfl, g1, g2, rfl, rfl⟩
      · rw [e]
        refine iteF ?_
        have e2 : (tyD dx == "tuple") = false := (Bool.or_eq_false_iff.mp e).2
        refine ⟨_, rfl, x, .ty "tuple", .type (tyD dx), .type "tuple", _, rfl, .ty _, dp_ty (dp_leaf hx1 e), kit1 dx K, _, rfl, ?_⟩
        rw [e2]
        refine iteF ?_
        refine ⟨_, rfl, .inl ⟨rfl, _, SqL.of hda3⟩, _, rfl, da, _, _, rfl, rfl, hda3, Nat.lt_of_le_of_lt (by simpa using lcs) (by decide), ?_⟩
        refine ⟨_, x :: cs, _, _, rfl, same_fresh nda0 sm3, by rw [upd_ne rda.symm]; exact hrs3, hP1, ?_, ?_⟩
        · rw [upd_same]
          simp
        · exact .cons (dp_leaf hx1 e) (dpAll_same (newB_mono fun b o hb e => by rw [upd_ne hb]; exact e) _ _ hcs3)
      · obtain ⟨c1, c2, rfl, hc1, hc2⟩ := DpAll.split hcs3
        have hxl : xs.length = c1.length := (DpAll.length g2).trans (DpAll.length hc1).symm
        refine iteT (.inl ?_)
        refine ⟨_, rfl, a, rfl, ⟨_, (sv.trans sm3).seq g1⟩, fun D nD => lc_list (K := K) (a := a) (xs := xs) (fun j H4 => H4 da = some (.lst (c2.reverse ++ (c1.drop j).reverse)) ∧ H4 D = some (.lst (c1.take j)) ∧ ∀ b o, b ≠ da → b ≠ D → G b = some o → H4 b = some o) ?_ ?_ ?_ ?_⟩
        · have ne : da ≠ D := ne_of_none hda3 nD
          refine ⟨?_, upd_same, fun b o _ hb e => by rw [upd_ne hb]; exact e⟩
          rw [upd_ne ne, hda3]
          simp
        · rintro j H4 hj ⟨_, _, kp⟩
          have nDH : H D = none := sm3.free nD
          exact Same.seq (fun b o e => kp b o (ne_of_none e nda0) (ne_of_none e nDH) (sm3 b o e)) (sv.seq g1)
        · rintro j y H4 hy ⟨k1, k2, kp⟩
          have ne : da ≠ D := ne_of_none hda3 nD
          have hjl : j < c1.length := by
            have := (List.getElem?_eq_some_iff.mp hy).1
            omega
          have hcj : c1[j]? = some c1[j] := List.getElem?_eq_getElem hjl
          rw [rev_drop hcj, ← List.append_assoc] at k1
          refine ⟨rfl, .ref da, rfl, .inl ⟨rfl, _, SqL.of k1⟩, da, _, c1[j], rfl, rfl, k1, by simp, ?_⟩
          rw [List.dropLast_concat]
          refine ⟨c1.take j, by rw [upd_ne ne.symm]; exact k2, ?_, ?_, ?_, fun b o h1 h2 e => ?_⟩
          · refine Nat.lt_of_le_of_lt (show (c1.take j).length ≤ 1000000 from ?_) (by decide)
            rw [List.length_append] at lcs
            have := List.length_take_le j c1
            omega
          · rw [upd_ne ne, upd_same]
          · rw [upd_same, List.take_add_one, hcj]
            rfl
          · rw [upd_ne h2, upd_ne h1]
            exact kp b o h1 h2 e
        · rintro H4 ⟨k1, k2, kp⟩
          have ne : da ≠ D := ne_of_none hda3 nD
          have nDH : H D = none := sm3.free nD
          have sm4 : Same H H4 := fun b o e => kp b o (ne_of_none e nda0) (ne_of_none e nDH) (sm3 b o e)
          have rD : r ≠ D := ne_of_none hrs3 nD
          have hr4 : H4 r = some (.lst rs) := kp r _ rda.symm rD hrs3
          rw [hxl] at k1 k2
          rw [List.drop_length, List.reverse_nil, List.append_nil] at k1
          rw [List.take_length] at k2
          have mono4 : Same (newB H da G) (newB H da H4) := fun b o e => by
            by_cases hb : b = da
            · unfold newB at e
              rw [if_pos hb] at e
              cases e
            · cases hh : H b with
              | some u =>
                unfold newB at e
                rw [if_neg hb, hh] at e
                cases e
              | none =>
                rw [newB_at hh hb] at e ⊢
                exact kp b o hb (ne_of_none e nD) e
          have hd4 : DpAll K (newB H da H4) c1 es := dpAll_same mono4 _ _ hc1
          have hd5 : DpAll K (newB H da H4) c2 rd1 := dpAll_same mono4 _ _ hc2
          have hD4 : (newB H da H4) D = some (.lst c1) := by
            rw [newB_at nDH ne.symm]
            exact k2
          have hc1l : c1.length ≤ 1000000 ∧ c2.length ≤ 1000000 := by
            rw [List.length_append] at lcs
            omega
          refine ⟨_, rfl, .ref a, .ty "tuple", .type "list", .type "tuple", _, rfl, .ty _, dp_ty (d := .list es) (.lst (Same.seq sm4 (sv.seq g1)) (dpAll_same (sv.trans sm4) _ _ g2)), kit1 (.list es) K, _, rfl, ?_⟩
          refine iteF ?_
          refine ⟨_, rfl, .inl ⟨rfl, _, SqL.of k1⟩, _, rfl, da, _, _, rfl, rfl, k1, Nat.lt_of_le_of_lt (by simpa using hc1l.2) (by decide), ?_⟩
          refine ⟨_, .ref D :: c2, _, _, rfl, same_fresh nda0 sm4, by rw [upd_ne rda.symm]; exact hr4, hP1, ?_, ?_⟩
          · rw [upd_same]
            simp
          · have up : Same (newB H da H4) (newB H da (upd H4 da (.lst (c2.reverse ++ [.ref D])))) := newB_mono fun b o hb e => by
              rw [upd_ne hb]
              exact e
            exact .cons (.lst (SqL.of (up _ _ hD4)) (dpAll_same up _ _ hd4)) (dpAll_same up _ _ hd5)
      · obtain ⟨c1, c2, rfl, hc1, hc2⟩ := DpAll.split hcs3
        have hxl : xs.length = c1.length := (DpAll.length g2).trans (DpAll.length hc1).symm
        refine iteT (.inr ?_)
        refine ⟨_, rfl, a, rfl, ⟨_, same_sqt (sv.trans sm3) g1⟩, fun D nD => lc_tup (K := K) (a := a) (xs := xs) (fun j H4 => H4 da = some (.lst (c2.reverse ++ (c1.drop j).reverse)) ∧ H4 D = some (.lst (c1.take j)) ∧ ∀ b o, b ≠ da → b ≠ D → G b = some o → H4 b = some o) ?_ ?_ ?_ ?_⟩
        · have ne : da ≠ D := ne_of_none hda3 nD
          refine ⟨?_, upd_same, fun b o _ hb e => by rw [upd_ne hb]; exact e⟩
          rw [upd_ne ne, hda3]
          simp
        · rintro j H4 hj ⟨_, _, kp⟩
          have nDH : H D = none := sm3.free nD
          exact same_sqt (fun b o e => kp b o (ne_of_none e nda0) (ne_of_none e nDH) (sm3 b o e)) (same_sqt sv g1)
        · rintro j y H4 hy ⟨k1, k2, kp⟩
          have ne : da ≠ D := ne_of_none hda3 nD
          have hjl : j < c1.length := by
            have := (List.getElem?_eq_some_iff.mp hy).1
            omega
          have hcj : c1[j]? = some c1[j] := List.getElem?_eq_getElem hjl
          rw [rev_drop hcj, ← List.append_assoc] at k1
          refine ⟨rfl, .ref da, rfl, .inl ⟨rfl, _, SqL.of k1⟩, da, _, c1[j], rfl, rfl, k1, by simp, ?_⟩
          rw [List.dropLast_concat]
          refine ⟨c1.take j, by rw [upd_ne ne.symm]; exact k2, ?_, ?_, ?_, fun b o h1 h2 e => ?_⟩
          · refine Nat.lt_of_le_of_lt (show (c1.take j).length ≤ 1000000 from ?_) (by decide)
            rw [List.length_append] at lcs
            have := List.length_take_le j c1
            omega
          · rw [upd_ne ne, upd_same]
          · rw [upd_same, List.take_add_one, hcj]
            rfl
          · rw [upd_ne h2, upd_ne h1]
            exact kp b o h1 h2 e
        · rintro H4 ⟨k1, k2, kp⟩
          have ne : da ≠ D := ne_of_none hda3 nD
          have nDH : H D = none := sm3.free nD
          have sm4 : Same H H4 := fun b o e => kp b o (ne_of_none e nda0) (ne_of_none e nDH) (sm3 b o e)
          have rD : r ≠ D := ne_of_none hrs3 nD
          have hr4 : H4 r = some (.lst rs) := kp r _ rda.symm rD hrs3
          rw [hxl] at k1 k2
          rw [List.drop_length, List.reverse_nil, List.append_nil] at k1
          rw [List.take_length] at k2
          have mono4 : Same (newB H da G) (newB H da H4) := fun b o e => by
            by_cases hb : b = da
            · unfold newB at e
              rw [if_pos hb] at e
              cases e
            · cases hh : H b with
              | some u =>
                unfold newB at e
                rw [if_neg hb, hh] at e
                cases e
              | none =>
                rw [newB_at hh hb] at e ⊢
                exact kp b o hb (ne_of_none e nD) e
          have hd4 : DpAll K (newB H da H4) c1 es := dpAll_same mono4 _ _ hc1
          have hd5 : DpAll K (newB H da H4) c2 rd1 := dpAll_same mono4 _ _ hc2
          have hD4 : (newB H da H4) D = some (.lst c1) := by
            rw [newB_at nDH ne.symm]
            exact k2
          have hc1l : c1.length ≤ 1000000 ∧ c2.length ≤ 1000000 := by
            rw [List.length_append] at lcs
            omega
          refine ⟨_, rfl, .ref a, .ty "tuple", .type "tuple", .type "tuple", _, rfl, .ty _, dp_ty (d := .tuple es) (.tup (same_sqt sm4 (same_sqt sv g1)) (dpAll_same (sv.trans sm4) _ _ g2)), kit1 (.tuple es) K, _, rfl, ?_⟩
          refine iteT ?_
          -- made = tuple(made)
          refine ⟨_, rfl, D, c1, rfl, .inl ⟨SqL.of k2, fun tq ntq => ?_⟩⟩
          have nq : H tq = none := sm4.free ntq
          have dq : da ≠ tq := ne_of_none k1 ntq
          have rq : r ≠ tq := ne_of_none hr4 ntq
          have k5 : (upd H4 tq (.tup c1)) da = some (.lst c2.reverse) := by
            rw [upd_ne dq]
            exact k1
          refine ⟨_, rfl, .inl ⟨rfl, _, SqL.of k5⟩, _, rfl, da, _, _, rfl, rfl, k5, Nat.lt_of_le_of_lt (by simpa using hc1l.2) (by decide), ?_⟩
          refine ⟨_, .ref tq :: c2, _, _, rfl, same_fresh nda0 (sm4.trans (same_upd ntq)), by rw [upd_ne rda.symm, upd_ne rq]; exact hr4, hP1, ?_, ?_⟩
          · rw [upd_same]
            simp
          · have up : Same (newB H da H4) (newB H da (upd (upd H4 tq (.tup c1)) da (.lst (c2.reverse ++ [.ref tq])))) := newB_mono fun b o hb e => by
              rw [upd_ne hb, upd_ne (ne_of_none e ntq)]
              exact e
            have at_ : (newB H da (upd (upd H4 tq (.tup c1)) da (.lst (c2.reverse ++ [.ref tq])))) tq = some (.tup c1) := by
              rw [newB_at nq dq.symm, upd_ne dq.symm, upd_same]
            exact .cons (.tup (SqT.of at_) (dpAll_same up _ _ hd4)) (dpAll_same up _ _ hd5)
    · rintro σ H2 ⟨S, cs, y2, y3, rfl, sm, hrs, hPi, hda, hcs⟩
      rw [List.drop_length] at hPi
      cases hPi
      cases hcs with
      | @cons c1 _ _ _ h1 h2 =>
        cases h2
        refine ⟨_, rfl, da, [c1], 0, c1, rfl, rfl, SqL.of hda, atI_nat (j := 0) rfl, ?_⟩
        exact q H2 c1 sm (dp_same newB_newp _ _ h1)
end
end TX
namespace TX
open PySem PySem.Spec PySem.Calls PyProof.Rows L2
open PySem.W (Frag InstAt findIn subIn hasDictIn specialIn takesIn mroIn clsIn Looks looks_findIn looks_find looks_subIn KitX)
section
variable {prog : Program} {w : World} {A : Around} {E : Value → Shared → Prop} {s : Shared} {K : Frag} {x D : Addr} {ox : Obj} {od : Option Obj}
theorem clsSome {D : Addr} (h : hasDictIn K D = true) : (clsIn K D).isSome = true := by
  unfold hasDictIn at h
  cases e : clsIn K D with
  | none => rw [e] at h; cases h
  | some c => rfl
theorem findData {C : Addr} {name : Str} {a g : Value} (hc : (clsIn K C).isSome = true) (ha : findIn K (.ref C) name = some (some a)) (hg : specialIn K a "__get__" = some (some g)) (ht : takesIn K a = some true) :
    PySem.W.findObj K C od name = some (.bind g a) := by
  obtain ⟨cd, hc⟩ := Option.isSome_iff_exists.mp hc
  simp [PySem.W.findObj, hc, ha, hg, ht]
/-- e.__class__ of an exception of an own class, with or without a dict of its own -/
theorem classOf {Q : Option Value → Shared → Prop} (T : ExcC K D) (X : K.In s.heap) (I : InstAt s.heap x ox D od) (h : Q (some (.ref D)) { s with toks := s.toks + 1 }) : wpAny (model prog w) A (getAttr? (.ref x) "__class__") Q E s := by
  have hf : PySem.W.findObj K D od "__class__" = some (.bind (.builtin "getset_descriptor.__get__") (.builtin "object.__class__")) := findData (clsSome T.hd) T.ha T.hn T.ht
  obtain ⟨hp, g, d, t, os⟩ := s
  have L0 := I.type (M := model prog w)
  have L1 := looks_findIn (M := model prog w) X T.hg
  have L2 := looks_findIn (M := model prog w) X T.hk
  have L3 := looks_find (M := model prog w) X I hf
  have sub : Looks (model prog w) hp (isInstance (.ref x) (.type "BaseException")) true := L0.andThen (looks_subIn X T.hs)
  have n0 : (false && onTheHeap (Value.builtin "BaseException.__getattribute__")) = false := rfl
  have n2 : (Value.builtin "BaseException.__getattribute__" == Value.builtin "object.__getattribute__") = false := by decide +kernel
  have n1 : (onTheHeap (Value.ref D) && Value.builtin "BaseException.__getattribute__" == Value.builtin "object.__getattribute__") = false := by
    rw [n2]
    rfl
  unfold getAttr? getAttrBy? getAttrBy
  refine wpAny_bind (wpAny_mkText (wpAny_bind (wpAny_attempt (wpAny_holding (wpAny_bind (L0.at (wpAny_bind (L1.at ?_))))))))
  show wpAny _ _ (if (onTheHeap (Value.ref D) && Value.builtin "BaseException.__getattribute__" == Value.builtin "object.__getattribute__") = true then _ else _) _ _ _
  rw [n1, if_neg Bool.false_ne_true]
  unfold getAttrByItsOwn hookBefore
  refine wpAny_bind ?_
  rw [if_pos (show onTheHeap (Value.ref D) = true from rfl)]
  refine L2.at (wpAny_bind (wpAny_attempt (wpAny_holding ?_)))
  unfold callGetattribute
  rw [n0, if_neg Bool.false_ne_true]
  unfold boundAndCalled
  rw [PySem.F.excAttr_ValueError.ga.bind (.ref x)]
  refine wpAny_bind (wpAny_pure ?_)
  show wpAny _ _ (call (.builtin "BaseException.__getattribute__") [.ref x, .str "__class__" t]) _ _ _
  refine wpAny_call (codeAny_call_builtin PySem.F.excAttr_ValueError.ga.plain PySem.F.entry_bexc_ga ?_)
  refine @PySem.W.check_slot (model prog w) _ _ ⟨hp, g, d, t + 1, os⟩ "BaseException.__getattribute__" "BaseException" "__getattribute__" (.ref x) [.str "__class__" t] [] _ (by decide +kernel) (by decide +kernel) sub (PySem.F.args_bexc_ga (.ref x) (.str "__class__" t)) ?_
  unfold Builtin.«object.__getattribute__»
  refine wpAny_bind (wpAny_of_eq (a := ((Value.ref x : Value), [Value.str "__class__" t])) (by first | rfl | (simp only [slotArgs]; rfl)) ?_)
  refine wpAny_bind (wpAny_pure (wpAny_bind (L0.at (wpAny_bind (L3.at ?_)))))
  show wpAny _ _ (holding [Value.builtin "object.__class__"] (call (.builtin "getset_descriptor.__get__") [.builtin "object.__class__", .ref x, .ref D]) >>= ret) _ _ _
  refine wpAny_bind (wpAny_holding (wpAny_call (PySem.W.class_get (s := ⟨hp, g, d, t + 1, os⟩) (ox := ox) (od := od) X I T.hm (wpAny_pure ?_))))
  show wpAny _ _ (handedOut (.ref D)) _ _ _
  rw [PySem.W.handedOut_of (v := .ref D) rfl]
  first
    | exact wpAny_pure (wpAny_pure h)
    | exact wpAny_pure h
    | exact wpAny_pure (wpAny_bind (wpAny_pure (wpAny_pure h)))
theorem kitE (T : ExcC K D) : KitX K (.ref x) (.ref D) (fun h => InstAt h x ox D od) where
  ty := fun _ _ _ I => I.type
  it := fun _ _ X _ => by
    obtain ⟨cd, hc⟩ := Option.isSome_iff_exists.mp (clsSome T.hd)
    unfold clsIn at hc
    split at hc
    · rename_i c' d' cd' sl' ho
      intro A' Q' E' s' k q
      unfold isType loadHead
      exact wpAny_bind (wpAny_loadPart (k _ _ (X _ _ ho)) (wpAny_pure q))
    · cases hc
  ne := fun h tp dd its n sl X htp => by
    obtain ⟨cd, hc⟩ := Option.isSome_iff_exists.mp (clsSome T.hd)
    refine Bool.eq_false_iff.mpr fun q => ?_
    have e : D = tp := Value.ref.inj (beq_iff_eq.mp q)
    subst e
    unfold clsIn at hc
    split at hc
    · rename_i c' d' cd' sl' ho
      have z := (X _ _ ho).symm.trans htp
      cases z
    · cases hc
  ca := fun X I k => classOf T X I k
end
/-- the exception that the suite holds, as the state has it -/
theorem atE {X : Cx} {pins : List (Addr × Obj)} {σ : L2.St} {H : Hp} {s : Shared} {a D : Addr} {oe : Obj} {d : Option Addr} {pn : List (Addr × Obj)} (I : Inv (X.suite a ((a, oe) :: pn)) pins σ H s) (hz : Zc (.ref D) d oe) (hf : ∃ vs, oe.data = .fields vs)
    (hd : ∀ dd, d = some dd → ∃ fs, H dd = some (.xd fs)) : ∃ od, InstAt s.heap a oe D od := by
  obtain ⟨hget, _⟩ := I.pin (a, oe) (List.mem_append.mpr (.inl List.mem_cons_self))
  obtain ⟨vs, hv⟩ := hf
  obtain ⟨oc, odd, oda, osl⟩ := oe
  obtain ⟨h1, h2⟩ := hz
  dsimp only at h1 h2 hv
  subst h1 h2 hv
  cases odd with
  | none => exact ⟨none, hget, rfl, rfl, trivial⟩
  | some dd =>
    obtain ⟨fs, hx⟩ := hd dd rfl
    have ob : ObjOk X.prog X.w H s.heap dd (.xd fs) := I.hok dd _ hx
    obtain ⟨mA, ⟨o, es, ep, ho, _⟩, _⟩ := ob
    exact ⟨some o, hget, rfl, rfl, ho⟩
/-- isinstance(e, c) -/
def rIsE2 (K : Frag) (D a : Addr) (d : Option Addr) : List V → Hp → VK → Prop := fun xs H Q => ∃ (c : V) (cv : Value) (b : Bool), xs = [.ref a, c] ∧ ClsV c cv ∧ PySem.W.kitOne K (.ref D) cv = some b ∧ (∀ dd, d = some dd → ∃ fs, H dd = some (.xd fs)) ∧ Q (.bl b) H
theorem call_isE2 {X : Cx} {a D : Addr} {oe : Obj} {d : Option Addr} {pn : List (Addr × Obj)} (C : ExcC X.K D) (hz : Zc (.ref D) d oe) (hf : ∃ vs, oe.data = .fields vs) : CallR (X.suite a ((a, oe) :: pn)) (.builtin "isinstance") (rIsE2 X.K D a d) := by
  intro pins s σ H xs us Q I r h
  obtain ⟨c, cv, b, rfl, hcv, e, hd, q⟩ := h
  obtain ⟨u1, u2, rfl, r1, r2⟩ := vals2 r
  cases (show u1 = Value.ref a from r1)
  cases hcv.eq r2
  obtain ⟨od, J⟩ := atE I hz hf hd
  exact PySem.W.kia_one (kitE C) I.kIn J e (fun z => nomatch z) fun tk => ⟨.bl b, H, I.tok tk, rfl, q⟩
/-- isinstance(e, (c1, c2, ..)) -/
def rIsET (K : Frag) (D a : Addr) (d : Option Addr) : List V → Hp → VK → Prop := fun xs H Q => ∃ (tp : Addr) (cs : List V) (us : List Value) (b : Bool), xs = [.ref a, .ref tp] ∧ H tp = some (.tup cs) ∧ Paired ClsV cs us ∧ PySem.W.kitAny K (.ref D) us = some b ∧
  (∀ dd, d = some dd → ∃ fs, H dd = some (.xd fs)) ∧ Q (.bl b) H
theorem call_isET {X : Cx} {a D : Addr} {oe : Obj} {d : Option Addr} {pn : List (Addr × Obj)} (C : ExcC X.K D) (hz : Zc (.ref D) d oe) (hf : ∃ vs, oe.data = .fields vs) : CallR (X.suite a ((a, oe) :: pn)) (.builtin "isinstance") (rIsET X.K D a d) := by
  intro pins s σ H xs us Q I r h
  obtain ⟨tp, cs, ws, b, rfl, hT, k, e, hd, q⟩ := h
  obtain ⟨u1, u2, rfl, r1, r2⟩ := vals2 r
  cases (show u1 = Value.ref a from r1)
  cases (show u2 = Value.ref tp from r2)
  obtain ⟨_, its, rv, o, h1, h2, n, h3⟩ := (show ObjOk X.prog X.w H s.heap tp (.tup cs) from I.hok tp _ hT)
  cases ClsV.all k rv
  obtain ⟨oc, odd, dt, sl⟩ := o
  simp only at h2 h3
  subst h2 h3
  obtain ⟨od, J⟩ := atE I hz hf hd
  exact PySem.W.kia_tup (kitE C) I.kIn J h1 e (fun z => nomatch z) fun tk => ⟨.bl b, H, I.tok tk, rfl, q⟩
/-! ### X(), an own exception class whose __init__ stores nothing -/
def tMkN (C : Addr) (sp : Sp) : L2.St → Hp → XK → Prop := fun _ H Q => ∀ a, H a = none → sp [.ref a] (upd H a (exo a C none)) (fun v H2 => v = .non ∧ H2 a = some (exo a C none) ∧ Q (.ref C) none (del H2 a)) (fun _ _ _ => False)
theorem pmk_oexN {X : Cx} {CX : CXT} {x : Str} {C fI : Addr} {k : Nat} {fd : FuncData} {ps : List Str} {sp : Sp} {p pos : Pos} (T : OexC X.K C) (iC : findIn X.K (.ref C) "__init__" = some (some (.ref fI))) (tI : PySem.W.typeIn X.K (.ref fI) = some (.type "function"))
    (F1 : FnOk X.prog X.w X.K X.mg X.base CX k fI fd ps sp) (hr : Room (k + 1) X.A) (hb : Binds X.K fd ps []) (hx : Passes CX X (fun _ _ _ => False)) (hg : Gl X x) (hm : X.mg x = some (.ref C)) (hdb : (x == ("__debug__" : Str)) = false := by decide) :
    PMk X (.Call (.Name x p) [] [] pos) (tMkN C sp) := by
  intro pins s σ H Q I h
  obtain ⟨nm, q, N, bs, bm, sn, sub, ab, col, dd, k0, k1, k2, k3, k5, hC, hbm⟩ := T.cls
  refine wpAny_Call_Name_kw (ld_glob I hg hm (PySem.W.callWith_K0 I.kIn T.kC ?_) hdb)
  obtain ⟨hp, g, dr, tk, os⟩ := s
  have hsz : hp.objs.size ≤ hp.objs.size + 1 := Nat.le_succ _
  have hn : H (hp.objs.size + 1) = none := I.hok.fresh hsz
  have hq := h (hp.objs.size + 1) hn
  have kk : ∀ b o, hp.get? b = some o → ((hp.push (PySem.W.kdv_tup [])).push (PySem.HandSPX.excO C hp.objs.size)).get? b = some o := fun b o e => Heap.get?_push_of_some _ (Heap.get?_push_of_some _ e)
  have hget : ((hp.push (PySem.W.kdv_tup [])).push (PySem.HandSPX.excO C hp.objs.size)).get? (hp.objs.size + 1) = some (PySem.HandSPX.excO C hp.objs.size) := by heap_get
  have I2 : Inv X pins σ (upd H (hp.objs.size + 1) (exo (hp.objs.size + 1) C none)) ⟨(hp.push (PySem.W.kdv_tup [])).push (PySem.HandSPX.excO C hp.objs.size), g, dr, tk, os⟩ :=
    I.laid (t' := tk) (a := hp.objs.size + 1) (o := exo (hp.objs.size + 1) C none) (h' := (hp.push (PySem.W.kdv_tup [])).push (PySem.HandSPX.excO C hp.objs.size)) kk hsz (exo_ok hget)
  have r2 : Vals [V.ref (hp.objs.size + 1)] [Value.ref (hp.objs.size + 1)] := .cons rfl .nil
  have hl : ([Value.ref (hp.objs.size + 1)] ++ ([] : List Value)).length = ps.length := (F1.len _ _ _ _ hq).symm ▸ rfl
  refine wpAny_call (PySem.HandSPX.call_own F.excBase_ValueError (fun Y => PySem.HandSPX.refsVE_contains Y bm hbm) (I.kIn _ _ hC) (looks_findIn I.kIn iC) (fun self => PySem.W.bind_fn I.kIn self tI) (by show 0 ≤ sizeLine; exact Nat.zero_le _)
    (codeAny_mono (F1.run _ X.stack _ _ ⟨[Value.ref (hp.objs.size + 1)], []⟩ [Value.ref (hp.objs.size + 1)] _ _ (fun _ _ _ => False) (hr.make C [] []) (I2.env0.make C [] []) (hb _ [Value.ref (hp.objs.size + 1)] I2.kIn hl) r2 hq) fun r s' hq' => ?_))
  cases r with
  | error er => exact hx pins σ _ _ er s' I2 hq'
  | ok fl => cases fl with
    | next => exact False.elim hq'
    | brk => exact False.elim hq'
    | cont => exact False.elim hq'
    | ret u =>
      obtain ⟨v, H2, os2, bare2, un2, hok2, rv, ev, ea, q2⟩ := hq'
      subst ev
      refine ⟨rv, ?_⟩
      obtain ⟨h2, g2, d2, t2, os'⟩ := s'
      generalize hA : hp.objs.size + 1 = a at *
      obtain ⟨t0, hoe⟩ := exo_at hok2 ea
      obtain ⟨G, g1', g2'⟩ := restrict h2 fun b => decide (b ≠ a)
      have gk : ∀ b, b ≠ a → G.get? b = h2.get? b := fun b hb => g1' b (decide_eq_true hb)
      have ge : G.get? a = none := g2' a (by simp)
      have nha : ∀ {b : Addr} {o : Obj}, hp.get? b = some o → b ≠ a := fun {b o} z => Nat.ne_of_lt (Nat.lt_of_lt_of_le (Heap.lt_size z) hsz)
      have up : ∀ {b : Addr}, b ≠ a → H b = none → upd H a (exo a C none) b = none := fun {b} hb n => by
        rw [upd_ne hb]
        exact n
      have U : Un (frs X.stack) [] H (del H2 a) hp G := {
        keep := fun b o z n hf hx => (gk b (nha z)).trans (un2.keep b o (kk b o z) (up (nha z) n) hf hx)
        slot := fun b o z n hf hx => by
          rw [gk b (nha z)]
          exact un2.slot b o (kk b o z) (up (nha z) n) hf hx
        free := fun b o z n hx => by
          rw [del_ne (nha z)]
          exact un2.free b o (kk b o z) (up (nha z) n) hx
        there := fun b o z hx => by
          rw [gk b (nha z)]
          exact un2.there b o (kk b o z) hx
        tups := fun b xs z => by
          rw [del_ne (ne_of_none z hn)]
          exact un2.tups b xs (by rw [upd_ne (ne_of_none z hn)]; exact z)
        frzs := fun b o v z => by
          rw [del_ne (ne_of_none z hn)]
          exact un2.frzs b o v (by rw [upd_ne (ne_of_none z hn)]; exact z)
        tbls := fun b ps z => by
          rw [del_ne (ne_of_none z hn)]
          exact un2.tbls b ps (by rw [upd_ne (ne_of_none z hn)]; exact z) }
      have hok3 : HOk X.prog X.w (del H2 a) G := fun b o z => by
        have hba : b ≠ a := fun e => by
          rw [e, del_same] at z
          cases z
        rw [del_ne hba] at z
        have noa : ∀ {c : Addr}, H2 c = some (.own b) → c ≠ a := fun {c} hc => at_ne ea hc exo_own
        refine (hok2 b o z).stay (fun c v hc y => ?_) (fun c hc => by rw [del_ne (noa hc)]; exact hc) (fun c xs hc => by rw [del_ne (at_ne ea hc exo_tup)]; exact hc)
        have hca : c ≠ a := hc.elim (fun e => e ▸ hba) noa
        exact (gk c hca).trans y
      have J : Inv X pins σ (del H2 a) ⟨G, g2, d2, t2, os'⟩ := I.call' (ch := []) os2 U hok3 bare2 (fun b z => absurd z (by simp))
      refine ⟨a, _, _, ⟨G, g2, d2, t2, os'⟩, _, .ref C, none, rfl, J, fun b o z => ?_, ge, hoe, ⟨rfl, rfl⟩, rfl, rfl, del_same, rfl, bare2, raises_own T.exC T.tyC, q2⟩
      by_cases hba : b = a
      · rw [hba] at z
        have z' : G.get? a = some o := z
        rw [ge] at z'
        cases z'
      · exact (gk b hba).symm.trans z
end TX
namespace TX
open PySem PySem.Spec PyProof.Rows L2
abbrev sBag : Stmt := top 18
abbrev sTake : Stmt := top 19
structure Nb (mg : Str → Option Value) : Prop where
  len : mg "len" = none
  abs : mg "abs" = none
  enum : mg "enumerate" = none
  int : mg "int" = none
/-- a bag of draws: two ints -/
def BagAt (H : Hp) (p : Addr) : Prop := ∃ x y : Int, H p = some (.lst [.int x, .int y])
def spBag (K : PySem.W.Frag) : Sp := fun vs H Q _ => ∃ (a : Addr) (ns : List Int) (at_ : Nat), vs = [.ref a, .int at_] ∧ SqL K H a (ns.map V.int) ∧ ns.length ≤ 63 ∧
  ∀ (H' : Hp) (p : Addr), Same H H' → H p = none → BagAt H' p → Q (.ref p) H'
def spTake : Sp := fun vs H Q _ => ∃ (p : Addr) (m : Int), vs = [.ref p, .int m] ∧ BagAt H p ∧ 0 < m ∧ m ≤ 1000000 ∧
  ∀ (x y d : Int), 0 ≤ d → d < m → Q (.int d) (upd H p (.lst [.int x, .int y]))
section
variable {P : Program} {w : World} {K : PySem.W.Frag} {mg : Str → Option Value} {base : Heap}
theorem scBag : FnScope ["_law_script", "_law_at", "_law_cell", "_law_mixed", "_law_place", "_law_each"] ["_law_script", "_law_at"] (defScope sBag) := ⟨rfl, rfl, rfl, by decide +kernel, rfl, by decide +kernel, by decide +kernel⟩
theorem ok_bag {f : Addr} {fd : FuncData} {k : Nat} (F : Fun K "_law_bag" "_law_bag" sBag f fd) (T : Nb mg) : FnOk P w K mg base CX0 (k + 1) f fd ["_law_script", "_law_at"] (spBag K) := by
  refine F.ok scBag (fun vs H Q E h => ?_) (fun cdv A outer s H vs Q E hr h => ?_)
  · obtain ⟨a, ns, i, rfl, _⟩ := h
    rfl
  · obtain ⟨a, ns, i, rfl, hS, hn, q⟩ := h
    refine ⟨_, pss_cons (ps_par (i := 2) (j := 3) rfl scBag.nd rfl rfl (by decide) rfl rfl
        (pa_cons (pe_ifExp (pt_cmpR op_lt (pv 1) (pe_callB call_len_seq (by rfl) T.len PySem.boot_len (pa_cons (pv 0) pa_nil)) (nomark _)) (pe_callB call_abs (by rfl) T.abs (by decide +kernel) (pa_cons (pe_ix ix_list (pv 0) (pv 1) (fun _ _ => rfl)) pa_nil)) pe_int)
          (pa_cons (pe_op op_add (pe_op op_mul pe_int (pv 1)) pe_int) pa_nil)) (by rfl))
      (pss_cons (ps_for PassesOwn.never rfl (pi_enum (by rfl) T.enum (pa_cons (pe_slice sl_list (pv 0) po_none (po_some pe_int)) pa_nil))
          (pg_tup rfl (pgs_cons (pg_name (i := 4) scBag.nd rfl (.inl rfl)) (pgs_cons (pg_name (i := 5) scBag.nd rfl (.inl rfl)) pgs_nil)))
        (pss_one (ps_set (i := 3) scBag.nd rfl (.inl rfl) (pe_op op_mod (pe_callTy call_int1 (by rfl) T.int (by decide +kernel)
          (pa_cons (pe_op op_add (pe_op op_add (pe_op op_mul (pv 3) pe_int) (pe_op op_mod (pe_callTy call_int1 (by rfl) T.int (by decide +kernel) (pa_cons (pv 5) pa_nil)) pe_int)) (pe_op op_mul pe_int (pv 4))) pa_nil)) pe_int))))
      (pss_one (ps_ret (pe_lst (pa_cons (pe_ifExp (pt_cmpR op_ge (pv 2) (pe_op op_pow pe_int pe_int) (nomark _)) (pv 2) pe_int) (pa_cons (pv 3) pa_nil)))))), ?_⟩
    refine ⟨_, rfl, _, rfl, a, _, rfl, .inl hS, _, _, rfl, rfl, _, rfl, ?_⟩
    have cut63 : ∀ x ∈ cutV (ns.map V.int) none (some 63), ∃ z, x = V.int z := by
      intro x hx
      unfold cutV at hx
      obtain ⟨z, _, e⟩ := List.mem_map.mp (List.mem_of_mem_drop (List.mem_of_mem_take hx))
      exact ⟨z, e.symm⟩
    generalize hC : cutV (ns.map V.int) none (some 63) = C at *
    refine ite2 (fun hlt => ?_) (fun hge => ?_)
    · have hlt' : i < ns.length := by
        have e := of_decide_eq_true hlt
        rw [List.length_map] at e
        omega
      refine ⟨_, rfl, _, rfl, a, _, _, .int ns[i], rfl, rfl, hS, atI_nat (by rw [List.getElem?_map, List.getElem?_eq_getElem hlt']; rfl), _, rfl, ?_⟩
      refine ⟨_, rfl, _, _, rfl, rfl, .inl ⟨by decide, by decide⟩, _, _, rfl, rfl, _, _, rfl, ?_⟩
      refine ⟨_, rfl, 63, rfl, a, _, rfl, hS, fun c nc => ?_⟩
      have nc0 : H c = none := nc
      refine ⟨c, C, rfl, SqL.of (by rw [upd_same, hC]), fun j m σ H3 => ∃ (y3 : Int) (y4 y5 : Option V), σ = [some (.ref a), some (.int i), some (.int (if ns[i] < 0 then -ns[i] else ns[i])), some (.int y3), y4, y5] ∧ j + m = C.length ∧ Same H H3 ∧ H3 c = some (.lst C),
        ⟨C.length, _, none, none, rfl, by omega, same_upd nc, by rw [upd_same, hC]⟩, fun j m σ H3 hW => ?_⟩
      obtain ⟨y3, y4, y5, rfl, ejm, sm, hc⟩ := hW
      by_cases hj : j < C.length
      · refine .inr ⟨⟨_, _, SqL.of hc, List.getElem?_eq_getElem hj⟩, fun σ' H' => ∃ (y3 : Int) (y4 y5 : Option V), σ' = [some (.ref a), some (.int i), some (.int (if ns[i] < 0 then -ns[i] else ns[i])), some (.int y3), y4, y5] ∧ Same H H' ∧ H' c = some (.lst C), fun σ' H' hN => ?_, fun x H' hy => ?_⟩
        · obtain ⟨z3, z4, z5, e, sm', hc'⟩ := hN
          exact ⟨m - 1, by omega, z3, z4, z5, e, by omega, sm', hc'⟩
        · obtain ⟨tp, x1, rfl, nT, rfl, f1⟩ := hy
          have g1 := f1 _ (SqL.of hc)
          obtain ⟨z, rfl⟩ := cut63 x1 (List.mem_of_getElem? g1)
          have hcT : (upd H3 tp (.tup [.int (j : Nat), .int z])) c = some (.lst C) := same_upd nT _ _ hc
          refine ⟨tp, _, rfl, SqT.of upd_same, rfl, _, _, rfl, _, _, rfl, rfl, ?_⟩
          refine ⟨_, rfl, _, _, rfl, rfl, .inr ⟨by decide, by decide⟩, _, rfl, .inl ⟨_, rfl, _, _, rfl, rfl, (by show (0 : Int) < 2147483629; decide), _, _, rfl, rfl, _, rfl, _, _, rfl, rfl, .inl ⟨by decide, by decide⟩, _, _, rfl, rfl, ?_⟩⟩
          refine .inl ⟨_, rfl, _, _, rfl, rfl, (by show (0 : Int) < 2147483647; decide), ?_⟩
          exact ⟨_, _, _, rfl, sm.trans (same_upd nT), hcT⟩
      · refine .inl ⟨⟨_, SqL.of hc, by omega⟩, ?_⟩
        refine ⟨_, rfl, _, _, rfl, rfl, ⟨by decide, by decide, by decide⟩, _, _, rfl, rfl, _, rfl, ?_⟩
        refine ite2 (fun _ => ?_) (fun _ => ?_)
        all_goals
          first
            | refine ⟨_, rfl, _, rfl, (by show 2 ≤ sizeLine; decide), fun p np => ?_⟩
            | refine ⟨_, rfl, (by show 2 ≤ sizeLine; decide), fun p np => ?_⟩
          exact q _ p (sm.trans (same_upd np)) (sm.free np) ⟨_, _, upd_same⟩
    · refine ⟨_, rfl, _, _, rfl, rfl, .inl ⟨by decide, by decide⟩, _, _, rfl, rfl, _, _, rfl, ?_⟩
      refine ⟨_, rfl, 63, rfl, a, _, rfl, hS, fun c nc => ?_⟩
      have nc0 : H c = none := nc
      refine ⟨c, C, rfl, SqL.of (by rw [upd_same, hC]), fun j m σ H3 => ∃ (y3 : Int) (y4 y5 : Option V), σ = [some (.ref a), some (.int i), some (.int 0), some (.int y3), y4, y5] ∧ j + m = C.length ∧ Same H H3 ∧ H3 c = some (.lst C),
        ⟨C.length, _, none, none, rfl, by omega, same_upd nc, by rw [upd_same, hC]⟩, fun j m σ H3 hW => ?_⟩
      obtain ⟨y3, y4, y5, rfl, ejm, sm, hc⟩ := hW
      by_cases hj : j < C.length
      · refine .inr ⟨⟨_, _, SqL.of hc, List.getElem?_eq_getElem hj⟩, fun σ' H' => ∃ (y3 : Int) (y4 y5 : Option V), σ' = [some (.ref a), some (.int i), some (.int 0), some (.int y3), y4, y5] ∧ Same H H' ∧ H' c = some (.lst C), fun σ' H' hN => ?_, fun x H' hy => ?_⟩
        · obtain ⟨z3, z4, z5, e, sm', hc'⟩ := hN
          exact ⟨m - 1, by omega, z3, z4, z5, e, by omega, sm', hc'⟩
        · obtain ⟨tp, x1, rfl, nT, rfl, f1⟩ := hy
          have g1 := f1 _ (SqL.of hc)
          obtain ⟨z, rfl⟩ := cut63 x1 (List.mem_of_getElem? g1)
          have hcT : (upd H3 tp (.tup [.int (j : Nat), .int z])) c = some (.lst C) := same_upd nT _ _ hc
          refine ⟨tp, _, rfl, SqT.of upd_same, rfl, _, _, rfl, _, _, rfl, rfl, ?_⟩
          refine ⟨_, rfl, _, _, rfl, rfl, .inr ⟨by decide, by decide⟩, _, rfl, .inl ⟨_, rfl, _, _, rfl, rfl, (by show (0 : Int) < 2147483629; decide), _, _, rfl, rfl, _, rfl, _, _, rfl, rfl, .inl ⟨by decide, by decide⟩, _, _, rfl, rfl, ?_⟩⟩
          refine .inl ⟨_, rfl, _, _, rfl, rfl, (by show (0 : Int) < 2147483647; decide), ?_⟩
          exact ⟨_, _, _, rfl, sm.trans (same_upd nT), hcT⟩
      · refine .inl ⟨⟨_, SqL.of hc, by omega⟩, ?_⟩
        refine ⟨_, rfl, _, _, rfl, rfl, ⟨by decide, by decide, by decide⟩, _, _, rfl, rfl, _, rfl, ?_⟩
        refine ite2 (fun _ => ?_) (fun _ => ?_)
        all_goals
          first
            | refine ⟨_, rfl, _, rfl, (by show 2 ≤ sizeLine; decide), fun p np => ?_⟩
            | refine ⟨_, rfl, (by show 2 ≤ sizeLine; decide), fun p np => ?_⟩
          exact q _ p (sm.trans (same_upd np)) (sm.free np) ⟨_, _, upd_same⟩
theorem scTake : FnScope ["_law_bag_here", "_law_many", "_law_digit"] ["_law_bag_here", "_law_many"] (defScope sTake) := ⟨rfl, rfl, rfl, by decide +kernel, rfl, by decide +kernel, by decide +kernel⟩
theorem ok_take {f : Addr} {fd : FuncData} {k : Nat} (F : Fun K "_law_take" "_law_take" sTake f fd) (T : Nb mg) : FnOk P w K mg base CX0 (k + 1) f fd ["_law_bag_here", "_law_many"] spTake := by
  refine F.ok scTake (fun vs H Q E h => ?_) (fun cdv A outer s H vs Q E hr h => ?_)
  · obtain ⟨p, m, rfl, _⟩ := h
    rfl
  · obtain ⟨p, m, rfl, ⟨x, y, hp⟩, hm, hm2, q⟩ := h
    refine ⟨_, pss_cons (ps_if (pt_cmpR op_gt (pe_ix ix_list (pv 0) pe_int (fun _ _ => rfl)) pe_int (nomark _))
        (pss_cons (ps_set (i := 2) scTake.nd rfl (.inl rfl) (pe_op op_mod (pe_callTy call_int1 (by rfl) T.int (by decide +kernel) (pa_cons (pe_ix ix_list (pv 0) pe_int (fun _ _ => rfl)) pa_nil)) (pv 1)))
        (pss_cons (ps_asg (pe_op op_fdiv (pe_ix ix_list (pv 0) pe_int (fun _ _ => rfl)) (pv 1)) (pg_sub (pv 0) pe_int set_list))
        (pss_one (ps_ret (pv 2))))) pss_nil)
      (pss_cons (ps_asg (pe_op op_mod (pe_callTy call_int1 (by rfl) T.int (by decide +kernel) (pa_cons (pe_op op_add (pe_op op_mul (pe_ix ix_list (pv 0) pe_int (fun _ _ => rfl)) pe_int) pe_int) pa_nil)) pe_int) (pg_sub (pv 0) pe_int set_list))
      (pss_one (ps_ret (pe_op op_mod (pe_op op_fdiv (pe_op op_mod (pe_callTy call_int1 (by rfl) T.int (by decide +kernel) (pa_cons (pe_op op_mul (pe_op op_fdiv (pe_ix ix_list (pv 0) pe_int (fun _ _ => rfl)) pe_int) pe_int) pa_nil)) pe_int) pe_int) (pv 1))))), ?_⟩
    have i0 : atI [V.int x, V.int y] 0 = some (.int x) := atI_nat (j := 0) rfl
    have i1 : atI [V.int x, V.int y] 1 = some (.int y) := atI_nat (j := 1) rfl
    refine ⟨_, rfl, p, _, 0, _, rfl, rfl, SqL.of hp, i0, _, _, rfl, rfl, _, rfl, ?_⟩
    refine ite2 (fun hx => ?_) (fun hx => ?_)
    · refine ⟨_, rfl, p, _, 0, _, rfl, rfl, SqL.of hp, i0, .inl ⟨_, rfl, _, rfl, _, _, rfl, rfl, hm, ?_⟩⟩
      refine ⟨_, rfl, p, _, 0, _, rfl, rfl, SqL.of hp, i0, _, rfl, _, _, rfl, rfl, ⟨hm, by omega⟩, ?_⟩
      refine ⟨_, rfl, p, _, 0, 0, rfl, rfl, hp, rfl, ?_⟩
      refine ⟨_, rfl, ?_⟩
      exact q _ _ _ (Int.emod_nonneg _ (by omega)) (Int.emod_lt_of_pos _ hm)
    · refine ⟨_, rfl, p, _, 1, _, rfl, rfl, SqL.of hp, i1, _, _, rfl, rfl, .inr ⟨by decide, by decide⟩, _, _, rfl, rfl, .inl ⟨_, rfl, _, _, rfl, rfl, (by show (0 : Int) < 2147483629; decide), ?_⟩⟩
      refine ⟨_, rfl, p, _, 1, 1, rfl, rfl, hp, rfl, ?_⟩
      refine ⟨_, rfl, p, _, 1, _, rfl, rfl, SqL.of upd_same, atI_nat (j := 1) rfl, _, _, rfl, rfl, ⟨by decide, by decide⟩, _, _, rfl, rfl, .inr ⟨by decide, by decide⟩, .inl ⟨_, rfl, _, _, rfl, rfl, (by show (0 : Int) < 2147483587; decide), ?_⟩⟩
      refine ⟨_, _, rfl, rfl, ⟨by decide, by decide⟩, _, rfl, _, _, rfl, rfl, hm, ?_⟩
      exact q _ _ _ (Int.emod_nonneg _ (by omega)) (Int.emod_lt_of_pos _ hm)
end
end TX
namespace TX
open PySem PySem.Spec PyProof.Rows L2
abbrev sField : Stmt := top 20
abbrev sEarly : Stmt := top 21
abbrev sRaise : Stmt := top 22
abbrev sTold : Stmt := top 23
abbrev sLaw : Stmt := top 24
/-! ### the fields that are drawn -/
inductive Fld : PyData → Prop
  | int (i : Int) (h : i.natAbs < 10 ^ 30) : Fld (.int i)
  | tru : Fld (.bool true)
  | non : Fld .none
  | str (x : Str) (h : x = "end" ∨ x = "") : Fld (.str x)
  | tup (i : Int) (h : i.natAbs < 10 ^ 30) : Fld (.tuple [.int i, .str "a"])
  | lst (i : Int) (h : i.natAbs < 10 ^ 30) : Fld (.list [.int i, .list [.none]])
theorem small_log {i : Int} (h : i.natAbs < 10 ^ 30) : i.natAbs.log2 < 1920 := by
  by_cases z : i.natAbs = 0
  · rw [z]
    decide
  · exact (Nat.log2_lt z).mpr (Nat.lt_trans h (by decide))
theorem small_len {i : Int} (h : i.natAbs < 10 ^ 30) : (PyData.shown (.int i)).length ≤ 1921 := by
  simp only [PyData.shown]
  exact int_text_len_1921 (small_log h)
theorem Fld.nd {d : PyData} (h : Fld d) : TX.nd d ≤ 10 := by
  cases h <;> simp [TX.nd, TX.ndAll]
theorem Fld.sh {d : PyData} (h : Fld d) : d.showable = true := by
  cases h with
  | int i h => simp [PyData.showable, small_log h]
  | tup i h => simp [PyData.showable, PyData.showableAll, small_log h]
  | lst i h => simp [PyData.showable, PyData.showableAll, small_log h]
  | _ => simp [PyData.showable]
theorem Fld.nod {d : PyData} (h : Fld d) : d.hasDict = false := by
  cases h <;> simp [PyData.hasDict, PyData.hasDictAll]
theorem Fld.dep {d : PyData} (h : Fld d) : d.depth ≤ 2 := by
  cases h <;> simp [PyData.depth, PyData.depthAll]
theorem Fld.short {d : PyData} (h : Fld d) : d.leavesShort 1921 = true := by
  cases h with
  | int i h => simp only [PyData.leavesShort, decide_eq_true_eq]; exact small_len h
  | tup i h =>
    have a : ((("a" : Str)).cps.toList.all fun c => decide (c < 16 ^ 8)) = true := by decide +kernel
    simp only [PyData.leavesShort, PyData.leavesShortAll, a, Bool.and_true, Bool.and_eq_true, decide_eq_true_eq]
    exact small_len h
  | lst i h =>
    simp only [PyData.leavesShort, PyData.leavesShortAll, Bool.and_true, Bool.and_eq_true, decide_eq_true_eq]
    exact small_len h
  | str x h =>
    rcases h with rfl | rfl
    · simp only [PyData.leavesShort]
      decide +kernel
    · simp only [PyData.leavesShort]
      decide +kernel
  | _ => simp [PyData.leavesShort]
theorem Fld.blk {d : PyData} (h : Fld d) : d.bulk ≤ 5 := by
  cases h with
  | str x h =>
    rcases h with rfl | rfl
    · simp only [PyData.bulk]
      decide +kernel
    · simp only [PyData.bulk]
      decide +kernel
  | tup i h =>
    have a : (("a" : Str)).cps.size = 1 := by decide +kernel
    simp [PyData.bulk, PyData.bulkAll, a]
  | _ => simp [PyData.bulk, PyData.bulkAll]
def spField (K : PySem.W.Frag) : Sp := fun vs H Q _ => ∃ (p : Addr), vs = [.ref p] ∧ BagAt H p ∧
  ∀ (H' : Hp) (v : V) (d : PyData), (∀ b o, b ≠ p → H b = some o → H' b = some o) → BagAt H' p → Dp K (del H' p) v d → Fld d → Q v H'
section
variable {P : Program} {w : World} {K : PySem.W.Frag} {mg : Str → Option Value} {base : Heap}
theorem scField : FnScope ["_law_bag_here", "_law_pick", "_law_number"] ["_law_bag_here"] (defScope sField) := ⟨rfl, rfl, rfl, by decide +kernel, rfl, by decide +kernel, by decide +kernel⟩
theorem ok_field {f fT : Addr} {fd fdT : FuncData} (F : Fun K "_law_field" "_law_field" sField f fd) (T : Nb mg) (FT : Fun K "_law_take" "_law_take" sTake fT fdT) (bT : Binds K fdT ["_law_bag_here", "_law_many"] []) (gT : mg "_law_take" = some (.ref fT)) :
    FnOk P w K mg base CX0 2 f fd ["_law_bag_here"] (spField K) := by
  have GT : FnOk P w K mg base CX0 1 fT fdT ["_law_bag_here", "_law_many"] spTake := ok_take FT T
  refine F.ok scField (fun vs H Q E h => ?_) (fun cdv A outer s H vs Q E hr h => ?_)
  · obtain ⟨p, rfl, _⟩ := h
    rfl
  · obtain ⟨p, rfl, hp, q⟩ := h
    refine ⟨_, pss_cons (ps_set (i := 1) scField.nd rfl (.inl rfl) (pe_call GT hr (by rfl) gT FT.kp bT .nil pass0 (pa_cons (pv 0) (pa_cons pe_int pa_nil))))
      (pss_cons (ps_set (i := 2) scField.nd rfl (.inl rfl) (pe_call GT hr (by rfl) gT FT.kp bT .nil pass0 (pa_cons (pv 0) (pa_cons pe_int pa_nil))))
      (pss_cons (ps_if (pt_cmpR op_lt (pv 1) pe_int (nomark _))
        (pss_one (ps_ret (pe_ix ix_list (pe_lst (pa_cons (pv 2) (pa_cons (pe_un un_neg (pv 2)) (pa_cons (pe_op op_add (pe_op op_pow pe_int pe_int) (pv 2)) pa_nil)))) (pv 1) (fun _ _ => rfl)))) pss_nil)
      (pss_one (ps_ret (pe_ix ix_list (pe_lst (pa_cons pe_bl (pa_cons pe_non (pa_cons pe_str (pa_cons pe_str (pa_cons (pe_tup (pa_cons (pv 2) (pa_cons pe_str pa_nil))) (pa_cons (pe_lst (pa_cons (pv 2) (pa_cons (pe_lst (pa_cons pe_non pa_nil)) pa_nil))) pa_nil)))))))
        (pe_op op_sub (pv 1) pe_int) (fun _ _ => rfl)))))), ?_⟩
    refine ⟨_, rfl, p, 9, rfl, hp, by decide, by decide, fun x1 y1 k hk0 hk9 => ?_⟩
    refine ⟨_, rfl, p, 1000, rfl, ⟨_, _, upd_same⟩, by decide, by decide, fun x2 y2 n hn0 hn1 => ?_⟩
    rw [upd_upd]
    have keep : ∀ b o, b ≠ p → H b = some o → upd H p (.lst [.int x2, .int y2]) b = some o := fun b o hb e => by
      rw [upd_ne hb]
      exact e
    have bag : BagAt (upd H p (.lst [.int x2, .int y2])) p := ⟨_, _, upd_same⟩
    have pin : upd H p (.lst [.int x2, .int y2]) p ≠ none := by
      rw [upd_same]
      exact fun z => nomatch z
    generalize upd H p (.lst [.int x2, .int y2]) = G at keep bag pin
    refine ⟨_, rfl, _, _, rfl, rfl, _, rfl, ?_⟩
    have fit : ∀ z : Int, z.natAbs < 10 ^ 26 + 2000 → z.natAbs < 10 ^ 30 := fun z h => Nat.lt_trans h (by decide)
    refine ite2 (fun hlt => ?_) (fun hge => ?_)
    · have hk3 : k < 3 := of_decide_eq_true hlt
      refine ⟨_, rfl, _, rfl, _, rfl, ?_⟩
      refine ⟨_, _, rfl, rfl, ⟨by decide, by decide, by decide⟩, _, rfl, _, _, rfl, rfl, (by show 3 ≤ sizeLine; decide), fun l nl => ?_⟩
      have k' : ∀ b o, b ≠ p → H b = some o → upd G l (.lst [.int n, .int (-n), .int (10 ^ (25 : Int).toNat + n)]) b = some o := fun b o hb e => same_upd nl b o (keep b o hb e)
      have b' : BagAt (upd G l (.lst [.int n, .int (-n), .int (10 ^ (25 : Int).toNat + n)])) p := let ⟨x, y, e⟩ := bag; ⟨x, y, same_upd nl _ _ e⟩
      have big : (10 : Int) ^ (25 : Int).toNat = 10000000000000000000000000 := by decide
      obtain rfl | rfl | rfl : k = 0 ∨ k = 1 ∨ k = 2 := by omega
      · exact ⟨_, rfl, l, _, 0, _, rfl, rfl, SqL.of upd_same, atI_nat (j := 0) rfl, q _ _ _ k' b' (.int _) (.int _ (by omega))⟩
      · exact ⟨_, rfl, l, _, 1, _, rfl, rfl, SqL.of upd_same, atI_nat (j := 1) rfl, q _ _ _ k' b' (.int _) (.int _ (by omega))⟩
      · exact ⟨_, rfl, l, _, 2, _, rfl, rfl, SqL.of upd_same, atI_nat (j := 2) rfl, q _ _ _ k' b' (.int _) (.int _ (fit _ (by rw [big]; omega)))⟩
    · have hk3 : 3 ≤ k := by
        have e := of_decide_eq_false (by simpa using hge : decide (k < 3) = false)
        omega
      refine ⟨_, rfl, (by show 2 ≤ sizeLine; decide), fun t nt => ?_⟩
      refine ⟨_, rfl, (by show 1 ≤ sizeLine; decide), fun l0 nl0 => ⟨(by show 2 ≤ sizeLine; decide), fun l1 nl1 => ⟨(by show 6 ≤ sizeLine; decide), fun l nl => ?_⟩⟩⟩
      have sm : Same G (upd (upd (upd (upd G t (.tup [.int n, .str "a"])) l0 (.lst [.non])) l1 (.lst [.int n, .ref l0])) l (.lst [.bl true, .non, .str "end", .str "", .ref t, .ref l1])) := (((same_upd nt).trans (same_upd nl0)).trans (same_upd nl1)).trans (same_upd nl)
      have k' : ∀ b o, b ≠ p → H b = some o → (upd (upd (upd (upd G t (.tup [.int n, .str "a"])) l0 (.lst [.non])) l1 (.lst [.int n, .ref l0])) l (.lst [.bl true, .non, .str "end", .str "", .ref t, .ref l1])) b = some o := fun b o hb e => sm b o (keep b o hb e)
      have b' : BagAt (upd (upd (upd (upd G t (.tup [.int n, .str "a"])) l0 (.lst [.non])) l1 (.lst [.int n, .ref l0])) l (.lst [.bl true, .non, .str "end", .str "", .ref t, .ref l1])) p := let ⟨x, y, e⟩ := bag; ⟨x, y, sm _ _ e⟩
      have pt : p ≠ t := fun e => pin (e ▸ nt)
      have ht : (upd (upd (upd (upd G t (.tup [.int n, .str "a"])) l0 (.lst [.non])) l1 (.lst [.int n, .ref l0])) l (.lst [.bl true, .non, .str "end", .str "", .ref t, .ref l1])) t = some (.tup [.int n, .str "a"]) :=
        same_upd nl _ _ (same_upd nl1 _ _ (same_upd nl0 _ _ upd_same))
      have h0 : (upd (upd (upd (upd G t (.tup [.int n, .str "a"])) l0 (.lst [.non])) l1 (.lst [.int n, .ref l0])) l (.lst [.bl true, .non, .str "end", .str "", .ref t, .ref l1])) l0 = some (.lst [.non]) := same_upd nl _ _ (same_upd nl1 _ _ upd_same)
      have h1 : (upd (upd (upd (upd G t (.tup [.int n, .str "a"])) l0 (.lst [.non])) l1 (.lst [.int n, .ref l0])) l (.lst [.bl true, .non, .str "end", .str "", .ref t, .ref l1])) l1 = some (.lst [.int n, .ref l0]) := same_upd nl _ _ upd_same
      have hl : (upd (upd (upd (upd G t (.tup [.int n, .str "a"])) l0 (.lst [.non])) l1 (.lst [.int n, .ref l0])) l (.lst [.bl true, .non, .str "end", .str "", .ref t, .ref l1])) l = some (.lst [.bl true, .non, .str "end", .str "", .ref t, .ref l1]) := upd_same
      have pl0 : l0 ≠ p := fun e => by
        subst e
        obtain ⟨x, y, e⟩ := b'
        rw [h0] at e
        cases e
      have pl1 : l1 ≠ p := fun e => by
        subst e
        obtain ⟨x, y, e⟩ := b'
        rw [h1] at e
        cases e
      generalize upd (upd (upd (upd G t (.tup [.int n, .str "a"])) l0 (.lst [.non])) l1 (.lst [.int n, .ref l0])) l (.lst [.bl true, .non, .str "end", .str "", .ref t, .ref l1]) = G2 at k' b' ht h0 h1 hl
      have dt : Dp K (del G2 p) (.ref t) (.tuple [.int n, .str "a"]) := .tup (SqT.of (by rw [del_ne pt.symm]; exact ht)) (.cons (.int _) (.cons (.str _) .nil))
      have d0 : Dp K (del G2 p) (.ref l0) (.list [.none]) := .lst (SqL.of (by rw [del_ne pl0]; exact h0)) (.cons .non .nil)
      have d1 : Dp K (del G2 p) (.ref l1) (.list [.int n, .list [.none]]) := .lst (SqL.of (by rw [del_ne pl1]; exact h1)) (.cons (.int _) (.cons d0 .nil))
      obtain rfl | rfl | rfl | rfl | rfl | rfl : k = 3 ∨ k = 4 ∨ k = 5 ∨ k = 6 ∨ k = 7 ∨ k = 8 := by omega
      · exact ⟨_, rfl, _, _, rfl, rfl, l, _, 0, _, rfl, rfl, SqL.of hl, atI_nat (j := 0) rfl, q _ _ _ k' b' (.bl true) .tru⟩
      · exact ⟨_, rfl, _, _, rfl, rfl, l, _, 1, _, rfl, rfl, SqL.of hl, atI_nat (j := 1) rfl, q _ _ _ k' b' .non .non⟩
      · exact ⟨_, rfl, _, _, rfl, rfl, l, _, 2, _, rfl, rfl, SqL.of hl, atI_nat (j := 2) rfl, q _ _ _ k' b' (.str _) (.str _ (.inl rfl))⟩
      · exact ⟨_, rfl, _, _, rfl, rfl, l, _, 3, _, rfl, rfl, SqL.of hl, atI_nat (j := 3) rfl, q _ _ _ k' b' (.str _) (.str _ (.inr rfl))⟩
      · exact ⟨_, rfl, _, _, rfl, rfl, l, _, 4, _, rfl, rfl, SqL.of hl, atI_nat (j := 4) rfl, q _ _ _ k' b' dt (.tup _ (by omega))⟩
      · exact ⟨_, rfl, _, _, rfl, rfl, l, _, 5, _, rfl, rfl, SqL.of hl, atI_nat (j := 5) rfl, q _ _ _ k' b' d1 (.lst _ (by omega))⟩
end
end TX
namespace TX
open PySem PySem.Spec PyProof.Rows L2
/-! ### the classes of the errors -/
structure Cl (K : PySem.W.Frag) (mg : Str → Option Value) (TE : Addr) (nm : Str) (C : Addr) : Prop where
  mgC : mg nm = some (.ref C)
  ox : OexC K C
  ec : ExcC K C
  xf : XfC K C
  ty : PySem.W.typeIn K (.ref C) = some (.type "type")
  mro : ∃ cd, PySem.W.clsIn K C = some cd ∧ cd.mro = [.ref C, .ref TE, .type "ValueError", .type "Exception", .type "BaseException", .type "object"]
theorem mro_is {K : PySem.W.Frag} {C : Addr} {cd : ClassData} {l : List Value} {b : Value} (h : PySem.W.clsIn K C = some cd) (e : cd.mro = l) (hl : l.isEmpty = false) : PySem.W.mroIn K C b = some (l.contains b) := by
  unfold PySem.W.mroIn
  rw [h]
  show (if cd.mro.isEmpty = true then none else some (cd.mro.contains b)) = _
  rw [e, hl, if_neg Bool.false_ne_true]
theorem ref_beq (a b : Addr) : (Value.ref a == Value.ref b) = decide (a = b) := by
  by_cases h : a = b
  · rw [h, decide_eq_true rfl]
    exact beq_self_eq_true _
  · rw [decide_eq_false h]
    exact beq_eq_false_iff_ne.mpr fun e => h (Value.ref.inj e)
section
variable {K : PySem.W.Frag} {mg : Str → Option Value} {TE C D : Addr} {nm nm' : Str}
theorem kit_same (c : Cl K mg TE nm C) : PySem.W.kitOne K (.ref C) (.ref C) = some true := by
  unfold PySem.W.kitOne
  rw [beq_self_eq_true, if_pos rfl]
theorem kit_cls (c : Cl K mg TE nm C) {cd : ClassData} (hd : PySem.W.clsIn K D = some cd) (ht : PySem.W.typeIn K (.ref D) = some (.type "type")) (hne : C ≠ D) : PySem.W.kitOne K (.ref C) (.ref D) = some (decide (D = TE)) := by
  obtain ⟨c1, h1, h2⟩ := c.mro
  have e1 : (Value.ref C == Value.ref D) = false := by
    rw [ref_beq]
    exact decide_eq_false hne
  have e2 : ((PySem.W.clsIn K D).isSome && PySem.W.typeIn K (.ref D) == some (.type "type")) = true := by
    rw [hd, ht]
    rfl
  unfold PySem.W.kitOne
  rw [e1, if_neg Bool.false_ne_true]
  show (if ((PySem.W.clsIn K D).isSome && PySem.W.typeIn K (.ref D) == some (.type "type")) = true then PySem.W.mroIn K C (.ref D) else none) = _
  rw [if_pos e2, mro_is h1 h2 rfl]
  have e3 : (Value.ref D == Value.ref C) = false := by
    rw [ref_beq]
    exact decide_eq_false (Ne.symm hne)
  simp only [List.contains_cons, e3, ref_beq, Bool.false_or]
  have f1 : (Value.ref D == Value.type "ValueError") = false := rfl
  have f2 : (Value.ref D == Value.type "Exception") = false := rfl
  have f3 : (Value.ref D == Value.type "BaseException") = false := rfl
  have f4 : (Value.ref D == Value.type "object") = false := rfl
  simp [f1, f2, f3, f4]
theorem kit_ve (c : Cl K mg TE nm C) : PySem.W.kitOne K (.ref C) (.type "ValueError") = some true := by
  obtain ⟨c1, h1, h2⟩ := c.mro
  unfold PySem.W.kitOne
  rw [show (Value.ref C == Value.type "ValueError") = false from rfl, if_neg Bool.false_ne_true]
  show (if PySem.W.kitMeta "ValueError" = true then PySem.W.mroIn K C (.type "ValueError") else none) = _
  rw [if_pos (by decide +kernel), mro_is h1 h2 rfl]
  have f0 : (Value.type "ValueError" == Value.ref C) = false := rfl
  have f1 : (Value.type "ValueError" == Value.ref TE) = false := rfl
  have f2 : (Value.type "ValueError" == Value.type "ValueError") = true := by decide +kernel
  simp only [List.contains_cons, f0, f1, f2, Bool.true_or, Bool.or_true]
/-- what «except TextorlistError» takes -/
theorem exm_te (c : Cl K mg TE nm C) (hs : PySem.W.subIn K (.ref TE) (.type "BaseException") = some true) (hd : PySem.W.hasDictIn K TE = true) (ht : PySem.W.typeIn K (.ref TE) = some (.type "type")) : PySem.W.exmOne K (.ref C) (.ref TE) = some true := by
  obtain ⟨c1, h1, h2⟩ := c.mro
  refine PySem.W.exm_ref hs hd ht ?_
  show PySem.W.mroIn K C (.ref TE) = _
  rw [mro_is h1 h2 rfl]
  have f1 : (Value.ref TE == Value.ref TE) = true := beq_self_eq_true _
  simp only [List.contains_cons, f1, Bool.true_or, Bool.or_true]
end
/-! ### the reading of an error's making -/
/-- behind an __init__ of the fields fs: the error at a, its dict at dx -/
structure Made (K : PySem.W.Frag) (H : Hp) (a C dx : Addr) (fs : List (Str × V)) (H2 : Hp) (ws : List V) (ds : List PyData) : Prop where
  ea : H2 a = some (exo a C (some dx))
  ed : H2 dx = some (exd dx fs)
  new : H dx = none
  ne : dx ≠ a
  keep : ∀ b o, b ≠ a → H b = some o → H2 b = some o
  dat : DpAll K (del (del H2 a) dx) ws ds
def spIn1 (K : PySem.W.Frag) (C : Addr) (fld : Str) : Sp := fun vs H Q _ => ∃ (a : Addr) (v : V) (d : PyData) (Hv : Hp), vs = [.ref a, v] ∧ OexC K C ∧ PySem.W.findIn K (.ref C) fld = some none ∧ H a = some (exo a C none) ∧ Same Hv H ∧ Dp K Hv v d ∧ nd d ≤ 1000000 ∧
  ∀ (H2 : Hp) (dx : Addr) (w : V), Made K H a C dx [(fld, w)] H2 [w] [d] → Q .non H2
def spIn2 (K : PySem.W.Frag) (C : Addr) (f1 f2 : Str) : Sp := fun vs H Q _ => ∃ (a : Addr) (v u : V) (d e : PyData) (Hv : Hp), vs = [.ref a, v, u] ∧ OexC K C ∧ PySem.W.findIn K (.ref C) f1 = some none ∧ PySem.W.findIn K (.ref C) f2 = some none ∧ H a = some (exo a C none) ∧ Same Hv H ∧ Hv a = none ∧
  Dp K Hv v d ∧ Dp K Hv u e ∧ nd d ≤ 1000000 ∧ nd e ≤ 1000000 ∧ ∀ (H2 : Hp) (dx : Addr) (w z : V), Made K H a C dx [(f2, z), (f1, w)] H2 [w, z] [d, e] → Q .non H2
def spIn0 : Sp := fun vs H Q _ => ∃ (a : Addr), vs = [.ref a] ∧ Q .non H
theorem cut_same {H H' : Hp} {a dx : Addr} {o : HO} {u u' : HO} (ha : H a = some o) (hd : H' dx = none) : Same (newp H H') (del (del (upd (upd H' dx u) a u') a) dx) := fun b x e => by
  cases h : H b with
  | some y =>
    rw [newp_old h] at e
    cases e
  | none =>
    rw [newp_at h] at e
    have ba : b ≠ a := fun z => by
      rw [z, ha] at h
      cases h
    have bd : b ≠ dx := fun z => by
      rw [z, hd] at e
      cases e
    rw [del_ne bd, del_ne ba, upd_ne ba, upd_ne bd]
    exact e
section
variable {P : Program} {w : World} {K : PySem.W.Frag} {mg : Str → Option Value} {base : Heap} {fC : Addr} {fdC : FuncData}

theorem sc0 : FnScope ["self", "place"] ["self", "place"] (defScope (inClass (top 5) 0)) := ⟨rfl, rfl, rfl, by decide +kernel, rfl, by decide +kernel, by decide +kernel⟩
theorem ok_in0 {f C : Addr} {fd : FuncData} (F : Fun K "__init__" "BadValue.__init__" (inClass (top 5) 0) f fd) (GC : FnOk P w K mg base CX0 2 fC fdC ["thing"] (spCopy K)) (gC : mg "copy_of" = some (.ref fC)) (kC : PySem.W.keepIn K (.ref fC) = true) (bC : Binds K fdC ["thing"] []) :
    FnOk P w K mg base CX0 3 f fd ["self", "place"] (spIn1 K C "place") := by
  refine F.ok sc0 (fun vs H Q E h => ?_) (fun cdv A outer s H vs Q E hr h => ?_)
  · obtain ⟨a, v, d, Hv, rfl, _⟩ := h
    rfl
  · obtain ⟨a, v, d, Hv, rfl, ox, no, ha, sv, hd, hn, q⟩ := h
    refine ⟨_, pss_one (ps_ost (pv 0) (pe_call GC hr (by rfl) gC kC bC .nil pass0 (pa_cons (pv 1) pa_nil))), ?_⟩
    refine ⟨_, rfl, v, d, Hv, rfl, sv, hd, hn, fun H' v' sm hv' => ⟨_, rfl, a, C, rfl, ox, no, .inl ⟨sm _ _ ha, fun dx ndx hne => ?_⟩⟩⟩
    refine q _ dx v' ⟨upd_same, by rw [upd_ne hne, upd_same], sm.free ndx, hne, fun b o hb e => ?_, .cons (dp_same (cut_same ha ndx) _ _ hv') .nil⟩
    rw [upd_ne hb, upd_ne (ne_of_none (sm _ _ e) ndx)]
    exact sm _ _ e
theorem sc1 : FnScope ["self", "place"] ["self", "place"] (defScope (inClass (top 6) 0)) := ⟨rfl, rfl, rfl, by decide +kernel, rfl, by decide +kernel, by decide +kernel⟩
theorem ok_in1 {f C : Addr} {fd : FuncData} (F : Fun K "__init__" "NoPlace.__init__" (inClass (top 6) 0) f fd) (GC : FnOk P w K mg base CX0 2 fC fdC ["thing"] (spCopy K)) (gC : mg "copy_of" = some (.ref fC)) (kC : PySem.W.keepIn K (.ref fC) = true) (bC : Binds K fdC ["thing"] []) :
    FnOk P w K mg base CX0 3 f fd ["self", "place"] (spIn1 K C "place") := by
  refine F.ok sc1 (fun vs H Q E h => ?_) (fun cdv A outer s H vs Q E hr h => ?_)
  · obtain ⟨a, v, d, Hv, rfl, _⟩ := h
    rfl
  · obtain ⟨a, v, d, Hv, rfl, ox, no, ha, sv, hd, hn, q⟩ := h
    refine ⟨_, pss_one (ps_ost (pv 0) (pe_call GC hr (by rfl) gC kC bC .nil pass0 (pa_cons (pv 1) pa_nil))), ?_⟩
    refine ⟨_, rfl, v, d, Hv, rfl, sv, hd, hn, fun H' v' sm hv' => ⟨_, rfl, a, C, rfl, ox, no, .inl ⟨sm _ _ ha, fun dx ndx hne => ?_⟩⟩⟩
    refine q _ dx v' ⟨upd_same, by rw [upd_ne hne, upd_same], sm.free ndx, hne, fun b o hb e => ?_, .cons (dp_same (cut_same ha ndx) _ _ hv') .nil⟩
    rw [upd_ne hb, upd_ne (ne_of_none (sm _ _ e) ndx)]
    exact sm _ _ e
theorem sc2 : FnScope ["self"] ["self"] (defScope (inClass (top 7) 0)) := ⟨rfl, rfl, rfl, by decide +kernel, rfl, by decide +kernel, by decide +kernel⟩
theorem ok_in2 {f : Addr} {fd : FuncData} (F : Fun K "__init__" "NoItems.__init__" (inClass (top 7) 0) f fd) : FnOk P w K mg base CX0 3 f fd ["self"] spIn0 := by
  refine F.ok sc2 (fun vs H Q E h => ?_) (fun cdv A outer s H vs Q E hr h => ?_)
  · obtain ⟨a, rfl, _⟩ := h
    rfl
  · obtain ⟨a, rfl, q⟩ := h
    exact ⟨_, pss_one ps_pass, q⟩
theorem sc3 : FnScope ["self", "at"] ["self", "at"] (defScope (inClass (top 8) 0)) := ⟨rfl, rfl, rfl, by decide +kernel, rfl, by decide +kernel, by decide +kernel⟩
theorem ok_in3 {f C : Addr} {fd : FuncData} (F : Fun K "__init__" "NoEntry.__init__" (inClass (top 8) 0) f fd) (GC : FnOk P w K mg base CX0 2 fC fdC ["thing"] (spCopy K)) (gC : mg "copy_of" = some (.ref fC)) (kC : PySem.W.keepIn K (.ref fC) = true) (bC : Binds K fdC ["thing"] []) :
    FnOk P w K mg base CX0 3 f fd ["self", "at"] (spIn1 K C "at") := by
  refine F.ok sc3 (fun vs H Q E h => ?_) (fun cdv A outer s H vs Q E hr h => ?_)
  · obtain ⟨a, v, d, Hv, rfl, _⟩ := h
    rfl
  · obtain ⟨a, v, d, Hv, rfl, ox, no, ha, sv, hd, hn, q⟩ := h
    refine ⟨_, pss_one (ps_ost (pv 0) (pe_call GC hr (by rfl) gC kC bC .nil pass0 (pa_cons (pv 1) pa_nil))), ?_⟩
    refine ⟨_, rfl, v, d, Hv, rfl, sv, hd, hn, fun H' v' sm hv' => ⟨_, rfl, a, C, rfl, ox, no, .inl ⟨sm _ _ ha, fun dx ndx hne => ?_⟩⟩⟩
    refine q _ dx v' ⟨upd_same, by rw [upd_ne hne, upd_same], sm.free ndx, hne, fun b o hb e => ?_, .cons (dp_same (cut_same ha ndx) _ _ hv') .nil⟩
    rw [upd_ne hb, upd_ne (ne_of_none (sm _ _ e) ndx)]
    exact sm _ _ e
theorem sc4 : FnScope ["self", "at"] ["self", "at"] (defScope (inClass (top 9) 0)) := ⟨rfl, rfl, rfl, by decide +kernel, rfl, by decide +kernel, by decide +kernel⟩
theorem ok_in4 {f C : Addr} {fd : FuncData} (F : Fun K "__init__" "NotText.__init__" (inClass (top 9) 0) f fd) (GC : FnOk P w K mg base CX0 2 fC fdC ["thing"] (spCopy K)) (gC : mg "copy_of" = some (.ref fC)) (kC : PySem.W.keepIn K (.ref fC) = true) (bC : Binds K fdC ["thing"] []) :
    FnOk P w K mg base CX0 3 f fd ["self", "at"] (spIn1 K C "at") := by
  refine F.ok sc4 (fun vs H Q E h => ?_) (fun cdv A outer s H vs Q E hr h => ?_)
  · obtain ⟨a, v, d, Hv, rfl, _⟩ := h
    rfl
  · obtain ⟨a, v, d, Hv, rfl, ox, no, ha, sv, hd, hn, q⟩ := h
    refine ⟨_, pss_one (ps_ost (pv 0) (pe_call GC hr (by rfl) gC kC bC .nil pass0 (pa_cons (pv 1) pa_nil))), ?_⟩
    refine ⟨_, rfl, v, d, Hv, rfl, sv, hd, hn, fun H' v' sm hv' => ⟨_, rfl, a, C, rfl, ox, no, .inl ⟨sm _ _ ha, fun dx ndx hne => ?_⟩⟩⟩
    refine q _ dx v' ⟨upd_same, by rw [upd_ne hne, upd_same], sm.free ndx, hne, fun b o hb e => ?_, .cons (dp_same (cut_same ha ndx) _ _ hv') .nil⟩
    rw [upd_ne hb, upd_ne (ne_of_none (sm _ _ e) ndx)]
    exact sm _ _ e
theorem sc5 : FnScope ["self", "line"] ["self", "line"] (defScope (inClass (top 10) 0)) := ⟨rfl, rfl, rfl, by decide +kernel, rfl, by decide +kernel, by decide +kernel⟩
theorem ok_in5 {f C : Addr} {fd : FuncData} (F : Fun K "__init__" "BadProgram.__init__" (inClass (top 10) 0) f fd) (GC : FnOk P w K mg base CX0 2 fC fdC ["thing"] (spCopy K)) (gC : mg "copy_of" = some (.ref fC)) (kC : PySem.W.keepIn K (.ref fC) = true) (bC : Binds K fdC ["thing"] []) :
    FnOk P w K mg base CX0 3 f fd ["self", "line"] (spIn1 K C "line") := by
  refine F.ok sc5 (fun vs H Q E h => ?_) (fun cdv A outer s H vs Q E hr h => ?_)
  · obtain ⟨a, v, d, Hv, rfl, _⟩ := h
    rfl
  · obtain ⟨a, v, d, Hv, rfl, ox, no, ha, sv, hd, hn, q⟩ := h
    refine ⟨_, pss_one (ps_ost (pv 0) (pe_call GC hr (by rfl) gC kC bC .nil pass0 (pa_cons (pv 1) pa_nil))), ?_⟩
    refine ⟨_, rfl, v, d, Hv, rfl, sv, hd, hn, fun H' v' sm hv' => ⟨_, rfl, a, C, rfl, ox, no, .inl ⟨sm _ _ ha, fun dx ndx hne => ?_⟩⟩⟩
    refine q _ dx v' ⟨upd_same, by rw [upd_ne hne, upd_same], sm.free ndx, hne, fun b o hb e => ?_, .cons (dp_same (cut_same ha ndx) _ _ hv') .nil⟩
    rw [upd_ne hb, upd_ne (ne_of_none (sm _ _ e) ndx)]
    exact sm _ _ e
theorem sc6 : FnScope ["self", "what"] ["self", "what"] (defScope (inClass (top 11) 0)) := ⟨rfl, rfl, rfl, by decide +kernel, rfl, by decide +kernel, by decide +kernel⟩
theorem ok_in6 {f C : Addr} {fd : FuncData} (F : Fun K "__init__" "TooMany.__init__" (inClass (top 11) 0) f fd) (GC : FnOk P w K mg base CX0 2 fC fdC ["thing"] (spCopy K)) (gC : mg "copy_of" = some (.ref fC)) (kC : PySem.W.keepIn K (.ref fC) = true) (bC : Binds K fdC ["thing"] []) :
    FnOk P w K mg base CX0 3 f fd ["self", "what"] (spIn1 K C "what") := by
  refine F.ok sc6 (fun vs H Q E h => ?_) (fun cdv A outer s H vs Q E hr h => ?_)
  · obtain ⟨a, v, d, Hv, rfl, _⟩ := h
    rfl
  · obtain ⟨a, v, d, Hv, rfl, ox, no, ha, sv, hd, hn, q⟩ := h
    refine ⟨_, pss_one (ps_ost (pv 0) (pe_call GC hr (by rfl) gC kC bC .nil pass0 (pa_cons (pv 1) pa_nil))), ?_⟩
    refine ⟨_, rfl, v, d, Hv, rfl, sv, hd, hn, fun H' v' sm hv' => ⟨_, rfl, a, C, rfl, ox, no, .inl ⟨sm _ _ ha, fun dx ndx hne => ?_⟩⟩⟩
    refine q _ dx v' ⟨upd_same, by rw [upd_ne hne, upd_same], sm.free ndx, hne, fun b o hb e => ?_, .cons (dp_same (cut_same ha ndx) _ _ hv') .nil⟩
    rw [upd_ne hb, upd_ne (ne_of_none (sm _ _ e) ndx)]
    exact sm _ _ e
theorem sc7 : FnScope ["self", "name"] ["self", "name"] (defScope (inClass (top 12) 0)) := ⟨rfl, rfl, rfl, by decide +kernel, rfl, by decide +kernel, by decide +kernel⟩
theorem ok_in7 {f C : Addr} {fd : FuncData} (F : Fun K "__init__" "NoFunction.__init__" (inClass (top 12) 0) f fd) (GC : FnOk P w K mg base CX0 2 fC fdC ["thing"] (spCopy K)) (gC : mg "copy_of" = some (.ref fC)) (kC : PySem.W.keepIn K (.ref fC) = true) (bC : Binds K fdC ["thing"] []) :
    FnOk P w K mg base CX0 3 f fd ["self", "name"] (spIn1 K C "name") := by
  refine F.ok sc7 (fun vs H Q E h => ?_) (fun cdv A outer s H vs Q E hr h => ?_)
  · obtain ⟨a, v, d, Hv, rfl, _⟩ := h
    rfl
  · obtain ⟨a, v, d, Hv, rfl, ox, no, ha, sv, hd, hn, q⟩ := h
    refine ⟨_, pss_one (ps_ost (pv 0) (pe_call GC hr (by rfl) gC kC bC .nil pass0 (pa_cons (pv 1) pa_nil))), ?_⟩
    refine ⟨_, rfl, v, d, Hv, rfl, sv, hd, hn, fun H' v' sm hv' => ⟨_, rfl, a, C, rfl, ox, no, .inl ⟨sm _ _ ha, fun dx ndx hne => ?_⟩⟩⟩
    refine q _ dx v' ⟨upd_same, by rw [upd_ne hne, upd_same], sm.free ndx, hne, fun b o hb e => ?_, .cons (dp_same (cut_same ha ndx) _ _ hv') .nil⟩
    rw [upd_ne hb, upd_ne (ne_of_none (sm _ _ e) ndx)]
    exact sm _ _ e
theorem sc8 : FnScope ["self", "way", "line"] ["self", "way", "line"] (defScope (inClass (top 13) 0)) := ⟨rfl, rfl, rfl, by decide +kernel, rfl, by decide +kernel, by decide +kernel⟩
theorem ok_in8 {f C : Addr} {fd : FuncData} (F : Fun K "__init__" "Stopped.__init__" (inClass (top 13) 0) f fd) (GC : FnOk P w K mg base CX0 2 fC fdC ["thing"] (spCopy K)) (gC : mg "copy_of" = some (.ref fC)) (kC : PySem.W.keepIn K (.ref fC) = true) (bC : Binds K fdC ["thing"] []) :
    FnOk P w K mg base CX0 3 f fd ["self", "way", "line"] (spIn2 K C "way" "line") := by
  refine F.ok sc8 (fun vs H Q E h => ?_) (fun cdv A outer s H vs Q E hr h => ?_)
  · obtain ⟨a, v, u, d, e, Hv, rfl, _⟩ := h
    rfl
  · obtain ⟨a, v, u, d, e, Hv, rfl, ox, no1, no2, ha, sv, hva, hd, he, hn, hm, q⟩ := h
    refine ⟨_, pss_cons (ps_ost (pv 0) (pe_call GC hr (by rfl) gC kC bC .nil pass0 (pa_cons (pv 1) pa_nil))) (pss_one (ps_ost (pv 0) (pe_call GC hr (by rfl) gC kC bC .nil pass0 (pa_cons (pv 2) pa_nil)))), ?_⟩
    refine ⟨_, rfl, v, d, Hv, rfl, sv, hd, hn, fun H' v' sm hv' => ⟨_, rfl, a, C, rfl, ox, no1, .inl ⟨sm _ _ ha, fun dx ndx hne => ?_⟩⟩⟩
    have s2 : Same Hv (upd (upd H' dx (exd dx [("way", v')])) a (exo a C (some dx))) := fun b o e => by
      rw [upd_ne (ne_of_none e hva), upd_ne (ne_of_none (sm _ _ (sv _ _ e)) ndx)]
      exact sm _ _ (sv _ _ e)
    refine ⟨_, rfl, u, e, Hv, rfl, s2, he, hm, fun H'' u' sm2 hu' => ?_⟩
    have e1 : H'' a = some (exo a C (some dx)) := sm2 _ _ upd_same
    have e2 : H'' dx = some (exd dx [("way", v')]) := sm2 _ _ (by rw [upd_ne hne, upd_same])
    refine ⟨_, rfl, a, C, rfl, ox, no2, .inr ⟨dx, _, e1, e2, (by show 1 ≤ 900; decide), ?_⟩⟩
    refine q _ dx v' u' ⟨by rw [upd_ne hne.symm]; exact e1, upd_same, sm.free ndx, hne, fun b o hb e => ?_, ?_⟩
    · have bd := ne_of_none (sm _ _ e) ndx
      rw [upd_ne bd]
      refine sm2 _ _ ?_
      rw [upd_ne hb, upd_ne bd]
      exact sm _ _ e
    · have c1 : Same (newp H H') (del (del (upd H'' dx (exd dx [("line", u'), ("way", v')])) a) dx) := fun b x e => by
        have e3 := cut_same (u := exd dx [("way", v')]) (u' := exo a C (some dx)) ha ndx b x e
        by_cases bd : b = dx
        · rw [bd, del_same] at e3
          cases e3
        · by_cases ba : b = a
          · rw [del_ne bd, ba, del_same] at e3
            cases e3
          · rw [del_ne bd, del_ne ba] at e3
            rw [del_ne bd, del_ne ba, upd_ne bd]
            exact sm2 _ _ e3
      have c2 : Same (newp (upd (upd H' dx (exd dx [("way", v')])) a (exo a C (some dx))) H'') (del (del (upd H'' dx (exd dx [("line", u'), ("way", v')])) a) dx) := fun b x e => by
        by_cases bd : b = dx
        · rw [bd, newp_old (o := exd dx [("way", v')]) (by rw [upd_ne hne, upd_same])] at e
          cases e
        · by_cases ba : b = a
          · rw [ba, newp_old (o := exo a C (some dx)) upd_same] at e
            cases e
          · rw [del_ne bd, del_ne ba, upd_ne bd]
            exact newp_same _ _ e
      exact .cons (dp_same c1 _ _ hv') (.cons (dp_same c2 _ _ hu') .nil)
theorem sc9 : FnScope ["self", "name"] ["self", "name"] (defScope (inClass (top 14) 0)) := ⟨rfl, rfl, rfl, by decide +kernel, rfl, by decide +kernel, by decide +kernel⟩
theorem ok_in9 {f C : Addr} {fd : FuncData} (F : Fun K "__init__" "NoTaker.__init__" (inClass (top 14) 0) f fd) (GC : FnOk P w K mg base CX0 2 fC fdC ["thing"] (spCopy K)) (gC : mg "copy_of" = some (.ref fC)) (kC : PySem.W.keepIn K (.ref fC) = true) (bC : Binds K fdC ["thing"] []) :
    FnOk P w K mg base CX0 3 f fd ["self", "name"] (spIn1 K C "name") := by
  refine F.ok sc9 (fun vs H Q E h => ?_) (fun cdv A outer s H vs Q E hr h => ?_)
  · obtain ⟨a, v, d, Hv, rfl, _⟩ := h
    rfl
  · obtain ⟨a, v, d, Hv, rfl, ox, no, ha, sv, hd, hn, q⟩ := h
    refine ⟨_, pss_one (ps_ost (pv 0) (pe_call GC hr (by rfl) gC kC bC .nil pass0 (pa_cons (pv 1) pa_nil))), ?_⟩
    refine ⟨_, rfl, v, d, Hv, rfl, sv, hd, hn, fun H' v' sm hv' => ⟨_, rfl, a, C, rfl, ox, no, .inl ⟨sm _ _ ha, fun dx ndx hne => ?_⟩⟩⟩
    refine q _ dx v' ⟨upd_same, by rw [upd_ne hne, upd_same], sm.free ndx, hne, fun b o hb e => ?_, .cons (dp_same (cut_same ha ndx) _ _ hv') .nil⟩
    rw [upd_ne hb, upd_ne (ne_of_none (sm _ _ e) ndx)]
    exact sm _ _ e
theorem sc10 : FnScope ["self", "at"] ["self", "at"] (defScope (inClass (top 15) 0)) := ⟨rfl, rfl, rfl, by decide +kernel, rfl, by decide +kernel, by decide +kernel⟩
theorem ok_in10 {f C : Addr} {fd : FuncData} (F : Fun K "__init__" "BadFate.__init__" (inClass (top 15) 0) f fd) (GC : FnOk P w K mg base CX0 2 fC fdC ["thing"] (spCopy K)) (gC : mg "copy_of" = some (.ref fC)) (kC : PySem.W.keepIn K (.ref fC) = true) (bC : Binds K fdC ["thing"] []) :
    FnOk P w K mg base CX0 3 f fd ["self", "at"] (spIn1 K C "at") := by
  refine F.ok sc10 (fun vs H Q E h => ?_) (fun cdv A outer s H vs Q E hr h => ?_)
  · obtain ⟨a, v, d, Hv, rfl, _⟩ := h
    rfl
  · obtain ⟨a, v, d, Hv, rfl, ox, no, ha, sv, hd, hn, q⟩ := h
    refine ⟨_, pss_one (ps_ost (pv 0) (pe_call GC hr (by rfl) gC kC bC .nil pass0 (pa_cons (pv 1) pa_nil))), ?_⟩
    refine ⟨_, rfl, v, d, Hv, rfl, sv, hd, hn, fun H' v' sm hv' => ⟨_, rfl, a, C, rfl, ox, no, .inl ⟨sm _ _ ha, fun dx ndx hne => ?_⟩⟩⟩
    refine q _ dx v' ⟨upd_same, by rw [upd_ne hne, upd_same], sm.free ndx, hne, fun b o hb e => ?_, .cons (dp_same (cut_same ha ndx) _ _ hv') .nil⟩
    rw [upd_ne hb, upd_ne (ne_of_none (sm _ _ e) ndx)]
    exact sm _ _ e
theorem sc11 : FnScope ["self", "spot"] ["self", "spot"] (defScope (inClass (top 16) 0)) := ⟨rfl, rfl, rfl, by decide +kernel, rfl, by decide +kernel, by decide +kernel⟩
theorem ok_in11 {f C : Addr} {fd : FuncData} (F : Fun K "__init__" "BadSpot.__init__" (inClass (top 16) 0) f fd) (GC : FnOk P w K mg base CX0 2 fC fdC ["thing"] (spCopy K)) (gC : mg "copy_of" = some (.ref fC)) (kC : PySem.W.keepIn K (.ref fC) = true) (bC : Binds K fdC ["thing"] []) :
    FnOk P w K mg base CX0 3 f fd ["self", "spot"] (spIn1 K C "spot") := by
  refine F.ok sc11 (fun vs H Q E h => ?_) (fun cdv A outer s H vs Q E hr h => ?_)
  · obtain ⟨a, v, d, Hv, rfl, _⟩ := h
    rfl
  · obtain ⟨a, v, d, Hv, rfl, ox, no, ha, sv, hd, hn, q⟩ := h
    refine ⟨_, pss_one (ps_ost (pv 0) (pe_call GC hr (by rfl) gC kC bC .nil pass0 (pa_cons (pv 1) pa_nil))), ?_⟩
    refine ⟨_, rfl, v, d, Hv, rfl, sv, hd, hn, fun H' v' sm hv' => ⟨_, rfl, a, C, rfl, ox, no, .inl ⟨sm _ _ ha, fun dx ndx hne => ?_⟩⟩⟩
    refine q _ dx v' ⟨upd_same, by rw [upd_ne hne, upd_same], sm.free ndx, hne, fun b o hb e => ?_, .cons (dp_same (cut_same ha ndx) _ _ hv') .nil⟩
    rw [upd_ne hb, upd_ne (ne_of_none (sm _ _ e) ndx)]
    exact sm _ _ e
end
end TX
namespace TX
open PySem PySem.Spec PyProof.Rows L2
theorem eqT {n m : Int} {A B : Prop} (h : n = m) (a : A) : if decide (V.int n = V.int m) = true then A else B := by
  rw [h, decide_eq_true rfl]
  exact iteT a
theorem eqF {n m : Int} {A B : Prop} (h : n ≠ m) (b : B) : if decide (V.int n = V.int m) = true then A else B := by
  rw [decide_eq_false fun e => h (V.int.inj e)]
  exact iteF b
theorem ltT {n m : Int} {A B : Prop} (h : n < m) (a : A) : if decide (n < m) = true then A else B := by
  rw [decide_eq_true h]
  exact iteT a
theorem ltF {n m : Int} {A B : Prop} (h : ¬ n < m) (b : B) : if decide (n < m) = true then A else B := by
  rw [decide_eq_false h]
  exact iteF b
def fld (n : Int) : Str := if n < 2 then "place" else if n = 3 ∨ n = 4 ∨ n = 10 then "at" else if n = 7 ∨ n = 9 then "name" else if n = 5 then "line" else if n = 6 then "what" else "spot"
/-- the ways out of a def that raises the n-th error of the data d, e -/
structure Out (K : PySem.W.Frag) (Cs : Int → Addr) (n : Int) (H : Hp) (d e : PyData) (E : XK) : Prop where
  two : n = 2 → ∀ H3, Same H H3 → E (.ref (Cs 2)) none H3
  one : n ≠ 2 → n ≠ 8 → ∀ H3 dx w, Same H H3 → H3 dx = some (.xd [(fld n, w)]) → Dp K H3 w d → E (.ref (Cs n)) (some dx) H3
  eight : n = 8 → ∀ H3 dx w z, Same H H3 → H3 dx = some (.xd [("line", z), ("way", w)]) → Dp K H3 w d → Dp K H3 z e → E (.ref (Cs 8)) (some dx) H3
def spEarly (K : PySem.W.Frag) (Cs : Int → Addr) : Sp := fun vs H _ E => ∃ (n : Int) (v : V) (d e : PyData) (Hv : Hp), vs = [.int n, v] ∧ 0 ≤ n ∧ n ≤ 5 ∧ Same Hv H ∧ Dp K Hv v d ∧ nd d ≤ 1000000 ∧ Out K Cs n H d e E
def spRaise (K : PySem.W.Frag) (Cs : Int → Addr) : Sp := fun vs H _ E => ∃ (n : Int) (v u : V) (d e : PyData) (Hv : Hp), vs = [.int n, v, u] ∧ 0 ≤ n ∧ n ≤ 11 ∧ Same Hv H ∧ Dp K Hv v d ∧ Dp K Hv u e ∧ nd d ≤ 1000000 ∧ nd e ≤ 1000000 ∧ Out K Cs n H d e E
theorem made_same {K : PySem.W.Frag} {H H2 : Hp} {a C dx : Addr} {fs fs' : List (Str × V)} {ws : List V} {ds : List PyData} (na : H a = none) (M : Made K (upd H a (exo a C none)) a C dx fs H2 ws ds) :
    Same H (upd (del H2 a) dx (.xd fs')) ∧ H dx = none ∧ DpAll K (upd (del H2 a) dx (.xd fs')) ws ds := by
  have hd : H dx = none := by
    have e := M.new
    rw [upd_ne M.ne] at e
    exact e
  refine ⟨fun b o e => ?_, hd, dpAll_same (fun b o e => ?_) _ _ M.dat⟩
  · have ba := ne_of_none e na
    rw [upd_ne (ne_of_none e hd), del_ne ba]
    exact M.keep b o ba (by rw [upd_ne ba]; exact e)
  · by_cases hb : b = dx
    · rw [hb, del_same] at e
      cases e
    · rw [upd_ne hb]
      rw [del_ne hb] at e
      exact e
/-- what the top has of the twelve classes, TE their base, Cs n the n-th -/
structure Cls12 (K : PySem.W.Frag) (mg : Str → Option Value) (TE : Addr) (Cs Fi : Int → Addr) : Prop where
  c0 : Cl K mg TE "BadValue" (Cs 0)
  i0 : PySem.W.findIn K (.ref (Cs 0)) "__init__" = some (some (.ref (Fi 0)))
  t0 : PySem.W.typeIn K (.ref (Fi 0)) = some (.type "function")
  n0place : PySem.W.findIn K (.ref (Cs 0)) "place" = some none
  c1 : Cl K mg TE "NoPlace" (Cs 1)
  i1 : PySem.W.findIn K (.ref (Cs 1)) "__init__" = some (some (.ref (Fi 1)))
  t1 : PySem.W.typeIn K (.ref (Fi 1)) = some (.type "function")
  n1place : PySem.W.findIn K (.ref (Cs 1)) "place" = some none
  c2 : Cl K mg TE "NoItems" (Cs 2)
  i2 : PySem.W.findIn K (.ref (Cs 2)) "__init__" = some (some (.ref (Fi 2)))
  t2 : PySem.W.typeIn K (.ref (Fi 2)) = some (.type "function")
  c3 : Cl K mg TE "NoEntry" (Cs 3)
  i3 : PySem.W.findIn K (.ref (Cs 3)) "__init__" = some (some (.ref (Fi 3)))
  t3 : PySem.W.typeIn K (.ref (Fi 3)) = some (.type "function")
  n3at : PySem.W.findIn K (.ref (Cs 3)) "at" = some none
  c4 : Cl K mg TE "NotText" (Cs 4)
  i4 : PySem.W.findIn K (.ref (Cs 4)) "__init__" = some (some (.ref (Fi 4)))
  t4 : PySem.W.typeIn K (.ref (Fi 4)) = some (.type "function")
  n4at : PySem.W.findIn K (.ref (Cs 4)) "at" = some none
  c5 : Cl K mg TE "BadProgram" (Cs 5)
  i5 : PySem.W.findIn K (.ref (Cs 5)) "__init__" = some (some (.ref (Fi 5)))
  t5 : PySem.W.typeIn K (.ref (Fi 5)) = some (.type "function")
  n5line : PySem.W.findIn K (.ref (Cs 5)) "line" = some none
  c6 : Cl K mg TE "TooMany" (Cs 6)
  i6 : PySem.W.findIn K (.ref (Cs 6)) "__init__" = some (some (.ref (Fi 6)))
  t6 : PySem.W.typeIn K (.ref (Fi 6)) = some (.type "function")
  n6what : PySem.W.findIn K (.ref (Cs 6)) "what" = some none
  c7 : Cl K mg TE "NoFunction" (Cs 7)
  i7 : PySem.W.findIn K (.ref (Cs 7)) "__init__" = some (some (.ref (Fi 7)))
  t7 : PySem.W.typeIn K (.ref (Fi 7)) = some (.type "function")
  n7name : PySem.W.findIn K (.ref (Cs 7)) "name" = some none
  c8 : Cl K mg TE "Stopped" (Cs 8)
  i8 : PySem.W.findIn K (.ref (Cs 8)) "__init__" = some (some (.ref (Fi 8)))
  t8 : PySem.W.typeIn K (.ref (Fi 8)) = some (.type "function")
  n8way : PySem.W.findIn K (.ref (Cs 8)) "way" = some none
  n8line : PySem.W.findIn K (.ref (Cs 8)) "line" = some none
  c9 : Cl K mg TE "NoTaker" (Cs 9)
  i9 : PySem.W.findIn K (.ref (Cs 9)) "__init__" = some (some (.ref (Fi 9)))
  t9 : PySem.W.typeIn K (.ref (Fi 9)) = some (.type "function")
  n9name : PySem.W.findIn K (.ref (Cs 9)) "name" = some none
  c10 : Cl K mg TE "BadFate" (Cs 10)
  i10 : PySem.W.findIn K (.ref (Cs 10)) "__init__" = some (some (.ref (Fi 10)))
  t10 : PySem.W.typeIn K (.ref (Fi 10)) = some (.type "function")
  n10at : PySem.W.findIn K (.ref (Cs 10)) "at" = some none
  c11 : Cl K mg TE "BadSpot" (Cs 11)
  i11 : PySem.W.findIn K (.ref (Cs 11)) "__init__" = some (some (.ref (Fi 11)))
  t11 : PySem.W.typeIn K (.ref (Fi 11)) = some (.type "function")
  n11spot : PySem.W.findIn K (.ref (Cs 11)) "spot" = some none
  inj : ∀ n m : Int, 0 ≤ n → n ≤ 11 → 0 ≤ m → m ≤ 11 → Cs n = Cs m → n = m
  te : ∀ n : Int, 0 ≤ n → n ≤ 11 → Cs n ≠ TE
  gTE : mg "TextorlistError" = some (.ref TE)
  sTE : PySem.W.subIn K (.ref TE) (.type "BaseException") = some true
  hTE : PySem.W.hasDictIn K TE = true
  tTE : PySem.W.typeIn K (.ref TE) = some (.type "type")
/-- the inits keep their promises -/
structure Inits (P : Program) (w : World) (K : PySem.W.Frag) (mg : Str → Option Value) (base : Heap) (Cs Fi : Int → Addr) (Fd : Int → FuncData) : Prop where
  g0 : FnOk P w K mg base CX0 3 (Fi 0) (Fd 0) ["self", "place"] (spIn1 K (Cs 0) "place")
  b0 : Binds K (Fd 0) ["self", "place"] []
  g1 : FnOk P w K mg base CX0 3 (Fi 1) (Fd 1) ["self", "place"] (spIn1 K (Cs 1) "place")
  b1 : Binds K (Fd 1) ["self", "place"] []
  g2 : FnOk P w K mg base CX0 3 (Fi 2) (Fd 2) ["self"] spIn0
  b2 : Binds K (Fd 2) ["self"] []
  g3 : FnOk P w K mg base CX0 3 (Fi 3) (Fd 3) ["self", "at"] (spIn1 K (Cs 3) "at")
  b3 : Binds K (Fd 3) ["self", "at"] []
  g4 : FnOk P w K mg base CX0 3 (Fi 4) (Fd 4) ["self", "at"] (spIn1 K (Cs 4) "at")
  b4 : Binds K (Fd 4) ["self", "at"] []
  g5 : FnOk P w K mg base CX0 3 (Fi 5) (Fd 5) ["self", "line"] (spIn1 K (Cs 5) "line")
  b5 : Binds K (Fd 5) ["self", "line"] []
  g6 : FnOk P w K mg base CX0 3 (Fi 6) (Fd 6) ["self", "what"] (spIn1 K (Cs 6) "what")
  b6 : Binds K (Fd 6) ["self", "what"] []
  g7 : FnOk P w K mg base CX0 3 (Fi 7) (Fd 7) ["self", "name"] (spIn1 K (Cs 7) "name")
  b7 : Binds K (Fd 7) ["self", "name"] []
  g8 : FnOk P w K mg base CX0 3 (Fi 8) (Fd 8) ["self", "way", "line"] (spIn2 K (Cs 8) "way" "line")
  b8 : Binds K (Fd 8) ["self", "way", "line"] []
  g9 : FnOk P w K mg base CX0 3 (Fi 9) (Fd 9) ["self", "name"] (spIn1 K (Cs 9) "name")
  b9 : Binds K (Fd 9) ["self", "name"] []
  g10 : FnOk P w K mg base CX0 3 (Fi 10) (Fd 10) ["self", "at"] (spIn1 K (Cs 10) "at")
  b10 : Binds K (Fd 10) ["self", "at"] []
  g11 : FnOk P w K mg base CX0 3 (Fi 11) (Fd 11) ["self", "spot"] (spIn1 K (Cs 11) "spot")
  b11 : Binds K (Fd 11) ["self", "spot"] []
section
variable {P : Program} {w : World} {K : PySem.W.Frag} {mg : Str → Option Value} {base : Heap} {TE : Addr} {Cs Fi : Int → Addr} {Fd : Int → FuncData}
theorem scEarly : FnScope ["_law_number", "_law_one"] ["_law_number", "_law_one"] (defScope sEarly) := ⟨rfl, rfl, rfl, by decide +kernel, rfl, by decide +kernel, by decide +kernel⟩
theorem ok_early {f : Addr} {fd : FuncData} (F : Fun K "_law_early" "_law_early" sEarly f fd) (T : Cls12 K mg TE Cs Fi) (G : Inits P w K mg base Cs Fi Fd) : FnOk P w K mg base (L2.CX P w) 5 f fd ["_law_number", "_law_one"] (spEarly K Cs) := by
  refine F.okX scEarly (fun vs H Q E h => ?_) (fun cdv A outer s H vs Q E hr h => ?_)
  · obtain ⟨n, v, d, e, Hv, rfl, _⟩ := h
    rfl
  · obtain ⟨n, v, d, e, Hv, rfl, h0, h5, sv, hd, hn, O⟩ := h
    refine ⟨_, pss_cons (ps_if (pt_cmpR op_eq (pv 0) pe_int (nomark _)) (pss_one (ps_raise rfl (takes_of rfl rfl rfl rfl) (by exact (pmk_oex T.c0.ox T.i0 T.t0 G.g0 hr G.b0 .nil pass0 (by rfl) T.c0.mgC (pa_cons (pv 1) pa_nil))))) pss_nil)
      (pss_cons (ps_if (pt_cmpR op_eq (pv 0) pe_int (nomark _)) (pss_one (ps_raise rfl (takes_of rfl rfl rfl rfl) (by exact (pmk_oex T.c1.ox T.i1 T.t1 G.g1 hr G.b1 .nil pass0 (by rfl) T.c1.mgC (pa_cons (pv 1) pa_nil))))) pss_nil)
      (pss_cons (ps_if (pt_cmpR op_eq (pv 0) pe_int (nomark _)) (pss_one (ps_raise rfl (takes_of rfl rfl rfl rfl) (pmk_oexN T.c2.ox T.i2 T.t2 G.g2 hr G.b2 pass0 (by rfl) T.c2.mgC))) pss_nil)
      (pss_cons (ps_if (pt_cmpR op_eq (pv 0) pe_int (nomark _)) (pss_one (ps_raise rfl (takes_of rfl rfl rfl rfl) (by exact (pmk_oex T.c3.ox T.i3 T.t3 G.g3 hr G.b3 .nil pass0 (by rfl) T.c3.mgC (pa_cons (pv 1) pa_nil))))) pss_nil)
      (pss_cons (ps_if (pt_cmpR op_eq (pv 0) pe_int (nomark _)) (pss_one (ps_raise rfl (takes_of rfl rfl rfl rfl) (by exact (pmk_oex T.c4.ox T.i4 T.t4 G.g4 hr G.b4 .nil pass0 (by rfl) T.c4.mgC (pa_cons (pv 1) pa_nil))))) pss_nil)
      (pss_one (ps_raise rfl (takes_of rfl rfl rfl rfl) (by exact (pmk_oex T.c5.ox T.i5 T.t5 G.g5 hr G.b5 .nil pass0 (by rfl) T.c5.mgC (pa_cons (pv 1) pa_nil))))))))), ?_⟩
    obtain rfl | rfl | rfl | rfl | rfl | rfl : n = 0 ∨ n = 1 ∨ n = 2 ∨ n = 3 ∨ n = 4 ∨ n = 5 := by omega
    · refine ⟨_, rfl, rfl, _, rfl, eqT rfl ?_⟩
      refine ⟨_, rfl, (by show 1 ≤ 1000; decide), fun a na => ⟨a, v, d, Hv, rfl, T.c0.ox, T.n0place, upd_same, sv.trans (same_upd na), hd, hn, fun H2 dx w M => ?_⟩⟩
      obtain ⟨sm, nx, hw⟩ := made_same (fs' := [(fld 0, w)]) na M
      cases hw with
      | cons hw _ => exact ⟨rfl, dx, _, M.ea, M.ed, nx, O.one (by decide) (by decide) _ dx w sm upd_same hw⟩
    · refine ⟨_, rfl, rfl, _, rfl, eqF (by decide) ?_⟩
      refine ⟨_, rfl, rfl, _, rfl, eqT rfl ?_⟩
      refine ⟨_, rfl, (by show 1 ≤ 1000; decide), fun a na => ⟨a, v, d, Hv, rfl, T.c1.ox, T.n1place, upd_same, sv.trans (same_upd na), hd, hn, fun H2 dx w M => ?_⟩⟩
      obtain ⟨sm, nx, hw⟩ := made_same (fs' := [(fld 1, w)]) na M
      cases hw with
      | cons hw _ => exact ⟨rfl, dx, _, M.ea, M.ed, nx, O.one (by decide) (by decide) _ dx w sm upd_same hw⟩
    · refine ⟨_, rfl, rfl, _, rfl, eqF (by decide) ?_⟩
      refine ⟨_, rfl, rfl, _, rfl, eqF (by decide) ?_⟩
      refine ⟨_, rfl, rfl, _, rfl, eqT rfl ?_⟩
      intro a na
      refine ⟨a, rfl, rfl, upd_same, O.two rfl _ fun b o e => ?_⟩
      rw [del_ne (ne_of_none e na), upd_ne (ne_of_none e na)]
      exact e
    · refine ⟨_, rfl, rfl, _, rfl, eqF (by decide) ?_⟩
      refine ⟨_, rfl, rfl, _, rfl, eqF (by decide) ?_⟩
      refine ⟨_, rfl, rfl, _, rfl, eqF (by decide) ?_⟩
      refine ⟨_, rfl, rfl, _, rfl, eqT rfl ?_⟩
      refine ⟨_, rfl, (by show 1 ≤ 1000; decide), fun a na => ⟨a, v, d, Hv, rfl, T.c3.ox, T.n3at, upd_same, sv.trans (same_upd na), hd, hn, fun H2 dx w M => ?_⟩⟩
      obtain ⟨sm, nx, hw⟩ := made_same (fs' := [(fld 3, w)]) na M
      cases hw with
      | cons hw _ => exact ⟨rfl, dx, _, M.ea, M.ed, nx, O.one (by decide) (by decide) _ dx w sm upd_same hw⟩
    · refine ⟨_, rfl, rfl, _, rfl, eqF (by decide) ?_⟩
      refine ⟨_, rfl, rfl, _, rfl, eqF (by decide) ?_⟩
      refine ⟨_, rfl, rfl, _, rfl, eqF (by decide) ?_⟩
      refine ⟨_, rfl, rfl, _, rfl, eqF (by decide) ?_⟩
      refine ⟨_, rfl, rfl, _, rfl, eqT rfl ?_⟩
      refine ⟨_, rfl, (by show 1 ≤ 1000; decide), fun a na => ⟨a, v, d, Hv, rfl, T.c4.ox, T.n4at, upd_same, sv.trans (same_upd na), hd, hn, fun H2 dx w M => ?_⟩⟩
      obtain ⟨sm, nx, hw⟩ := made_same (fs' := [(fld 4, w)]) na M
      cases hw with
      | cons hw _ => exact ⟨rfl, dx, _, M.ea, M.ed, nx, O.one (by decide) (by decide) _ dx w sm upd_same hw⟩
    · refine ⟨_, rfl, rfl, _, rfl, eqF (by decide) ?_⟩
      refine ⟨_, rfl, rfl, _, rfl, eqF (by decide) ?_⟩
      refine ⟨_, rfl, rfl, _, rfl, eqF (by decide) ?_⟩
      refine ⟨_, rfl, rfl, _, rfl, eqF (by decide) ?_⟩
      refine ⟨_, rfl, rfl, _, rfl, eqF (by decide) ?_⟩
      refine ⟨_, rfl, (by show 1 ≤ 1000; decide), fun a na => ⟨a, v, d, Hv, rfl, T.c5.ox, T.n5line, upd_same, sv.trans (same_upd na), hd, hn, fun H2 dx w M => ?_⟩⟩
      obtain ⟨sm, nx, hw⟩ := made_same (fs' := [(fld 5, w)]) na M
      cases hw with
      | cons hw _ => exact ⟨rfl, dx, _, M.ea, M.ed, nx, O.one (by decide) (by decide) _ dx w sm upd_same hw⟩
theorem scRaise : FnScope ["_law_number", "_law_one", "_law_two"] ["_law_number", "_law_one", "_law_two"] (defScope sRaise) := ⟨rfl, rfl, rfl, by decide +kernel, rfl, by decide +kernel, by decide +kernel⟩
theorem ok_raise {f fE : Addr} {fd fdE : FuncData} (F : Fun K "_law_raise" "_law_raise" sRaise f fd) (T : Cls12 K mg TE Cs Fi) (G : Inits P w K mg base Cs Fi Fd) (FE : Fun K "_law_early" "_law_early" sEarly fE fdE) (bE : Binds K fdE ["_law_number", "_law_one"] [])
    (gE : mg "_law_early" = some (.ref fE)) : FnOk P w K mg base (L2.CX P w) 6 f fd ["_law_number", "_law_one", "_law_two"] (spRaise K Cs) := by
  have GE : FnOk P w K mg base (L2.CX P w) 5 fE fdE ["_law_number", "_law_one"] (spEarly K Cs) := ok_early FE T G
  refine F.okX scRaise (fun vs H Q E h => ?_) (fun cdv A outer s H vs Q E hr5 h => ?_)
  · obtain ⟨n, v, u, d, e, Hv, rfl, _⟩ := h
    rfl
  · obtain ⟨n, v, u, d, e, Hv, rfl, h0, h11, sv, hd, he, hn, hm, O⟩ := h
    have hr : Room 4 _ := hr5.mono (by decide)
    refine ⟨_, pss_cons (ps_if (pt_cmpR op_lt (pv 0) pe_int (nomark _)) (pss_one (ps_expr (pe_call (E := E) GE hr5 (by rfl) gE FE.kp bE .nil (passes_call (takes_of rfl rfl rfl rfl) fun _ _ _ _ z => z) (pa_cons (pv 0) (pa_cons (pv 1) pa_nil))))) pss_nil)
      (pss_cons (ps_if (pt_cmpR op_eq (pv 0) pe_int (nomark _)) (pss_one (ps_raise rfl (takes_of rfl rfl rfl rfl) (by exact (pmk_oex T.c6.ox T.i6 T.t6 G.g6 hr G.b6 .nil pass0 (by rfl) T.c6.mgC (pa_cons (pv 1) pa_nil))))) pss_nil)
      (pss_cons (ps_if (pt_cmpR op_eq (pv 0) pe_int (nomark _)) (pss_one (ps_raise rfl (takes_of rfl rfl rfl rfl) (by exact (pmk_oex T.c7.ox T.i7 T.t7 G.g7 hr G.b7 .nil pass0 (by rfl) T.c7.mgC (pa_cons (pv 1) pa_nil))))) pss_nil)
      (pss_cons (ps_if (pt_cmpR op_eq (pv 0) pe_int (nomark _)) (pss_one (ps_raise rfl (takes_of rfl rfl rfl rfl) (by exact (pmk_oex T.c8.ox T.i8 T.t8 G.g8 hr G.b8 .nil pass0 (by rfl) T.c8.mgC (pa_cons (pv 1) (pa_cons (pv 2) pa_nil)))))) pss_nil)
      (pss_cons (ps_if (pt_cmpR op_eq (pv 0) pe_int (nomark _)) (pss_one (ps_raise rfl (takes_of rfl rfl rfl rfl) (by exact (pmk_oex T.c9.ox T.i9 T.t9 G.g9 hr G.b9 .nil pass0 (by rfl) T.c9.mgC (pa_cons (pv 1) pa_nil))))) pss_nil)
      (pss_cons (ps_if (pt_cmpR op_eq (pv 0) pe_int (nomark _)) (pss_one (ps_raise rfl (takes_of rfl rfl rfl rfl) (by exact (pmk_oex T.c10.ox T.i10 T.t10 G.g10 hr G.b10 .nil pass0 (by rfl) T.c10.mgC (pa_cons (pv 1) pa_nil))))) pss_nil)
      (pss_one (ps_raise rfl (takes_of rfl rfl rfl rfl) (by exact (pmk_oex T.c11.ox T.i11 T.t11 G.g11 hr G.b11 .nil pass0 (by rfl) T.c11.mgC (pa_cons (pv 1) pa_nil)))))))))), ?_⟩
    by_cases hlt : n < 6
    · refine ⟨_, rfl, _, _, rfl, rfl, _, rfl, ltT hlt ?_⟩
      exact ⟨_, rfl, _, rfl, n, v, d, e, Hv, rfl, h0, by omega, sv, hd, hn, O⟩
    refine ⟨_, rfl, _, _, rfl, rfl, _, rfl, ltF hlt ?_⟩
    obtain rfl | rfl | rfl | rfl | rfl | rfl : n = 6 ∨ n = 7 ∨ n = 8 ∨ n = 9 ∨ n = 10 ∨ n = 11 := by omega
    · refine ⟨_, rfl, rfl, _, rfl, eqT rfl ?_⟩
      refine ⟨_, rfl, (by show 1 ≤ 1000; decide), fun a na => ⟨a, v, d, Hv, rfl, T.c6.ox, T.n6what, upd_same, sv.trans (same_upd na), hd, hn, fun H2 dx w M => ?_⟩⟩
      obtain ⟨sm, nx, hw⟩ := made_same (fs' := [(fld 6, w)]) na M
      cases hw with
      | cons hw _ => exact ⟨rfl, dx, _, M.ea, M.ed, nx, O.one (by decide) (by decide) _ dx w sm upd_same hw⟩
    · refine ⟨_, rfl, rfl, _, rfl, eqF (by decide) ?_⟩
      refine ⟨_, rfl, rfl, _, rfl, eqT rfl ?_⟩
      refine ⟨_, rfl, (by show 1 ≤ 1000; decide), fun a na => ⟨a, v, d, Hv, rfl, T.c7.ox, T.n7name, upd_same, sv.trans (same_upd na), hd, hn, fun H2 dx w M => ?_⟩⟩
      obtain ⟨sm, nx, hw⟩ := made_same (fs' := [(fld 7, w)]) na M
      cases hw with
      | cons hw _ => exact ⟨rfl, dx, _, M.ea, M.ed, nx, O.one (by decide) (by decide) _ dx w sm upd_same hw⟩
    · refine ⟨_, rfl, rfl, _, rfl, eqF (by decide) ?_⟩
      refine ⟨_, rfl, rfl, _, rfl, eqF (by decide) ?_⟩
      refine ⟨_, rfl, rfl, _, rfl, eqT rfl ?_⟩
      refine ⟨_, rfl, _, rfl, (by show 2 ≤ 1000; decide), fun a na => ⟨a, v, u, d, e, Hv, rfl, T.c8.ox, T.n8way, T.n8line, upd_same, sv.trans (same_upd na), sv.free na, hd, he, hn, hm, fun H2 dx w z M => ?_⟩⟩
      obtain ⟨sm, nx, hw⟩ := made_same (fs' := [("line", z), ("way", w)]) na M
      cases hw with
      | cons hw hz =>
        cases hz with
        | cons hz _ => exact ⟨rfl, dx, _, M.ea, M.ed, nx, O.eight rfl _ dx w z sm upd_same hw hz⟩
    · refine ⟨_, rfl, rfl, _, rfl, eqF (by decide) ?_⟩
      refine ⟨_, rfl, rfl, _, rfl, eqF (by decide) ?_⟩
      refine ⟨_, rfl, rfl, _, rfl, eqF (by decide) ?_⟩
      refine ⟨_, rfl, rfl, _, rfl, eqT rfl ?_⟩
      refine ⟨_, rfl, (by show 1 ≤ 1000; decide), fun a na => ⟨a, v, d, Hv, rfl, T.c9.ox, T.n9name, upd_same, sv.trans (same_upd na), hd, hn, fun H2 dx w M => ?_⟩⟩
      obtain ⟨sm, nx, hw⟩ := made_same (fs' := [(fld 9, w)]) na M
      cases hw with
      | cons hw _ => exact ⟨rfl, dx, _, M.ea, M.ed, nx, O.one (by decide) (by decide) _ dx w sm upd_same hw⟩
    · refine ⟨_, rfl, rfl, _, rfl, eqF (by decide) ?_⟩
      refine ⟨_, rfl, rfl, _, rfl, eqF (by decide) ?_⟩
      refine ⟨_, rfl, rfl, _, rfl, eqF (by decide) ?_⟩
      refine ⟨_, rfl, rfl, _, rfl, eqF (by decide) ?_⟩
      refine ⟨_, rfl, rfl, _, rfl, eqT rfl ?_⟩
      refine ⟨_, rfl, (by show 1 ≤ 1000; decide), fun a na => ⟨a, v, d, Hv, rfl, T.c10.ox, T.n10at, upd_same, sv.trans (same_upd na), hd, hn, fun H2 dx w M => ?_⟩⟩
      obtain ⟨sm, nx, hw⟩ := made_same (fs' := [(fld 10, w)]) na M
      cases hw with
      | cons hw _ => exact ⟨rfl, dx, _, M.ea, M.ed, nx, O.one (by decide) (by decide) _ dx w sm upd_same hw⟩
    · refine ⟨_, rfl, rfl, _, rfl, eqF (by decide) ?_⟩
      refine ⟨_, rfl, rfl, _, rfl, eqF (by decide) ?_⟩
      refine ⟨_, rfl, rfl, _, rfl, eqF (by decide) ?_⟩
      refine ⟨_, rfl, rfl, _, rfl, eqF (by decide) ?_⟩
      refine ⟨_, rfl, rfl, _, rfl, eqF (by decide) ?_⟩
      refine ⟨_, rfl, (by show 1 ≤ 1000; decide), fun a na => ⟨a, v, d, Hv, rfl, T.c11.ox, T.n11spot, upd_same, sv.trans (same_upd na), hd, hn, fun H2 dx w M => ?_⟩⟩
      obtain ⟨sm, nx, hw⟩ := made_same (fs' := [(fld 11, w)]) na M
      cases hw with
      | cons hw _ => exact ⟨rfl, dx, _, M.ea, M.ed, nx, O.one (by decide) (by decide) _ dx w sm upd_same hw⟩
end
end TX
namespace TX
open PySem PySem.Spec PyProof.Rows L2
def rIsE3 (K : PySem.W.Frag) (a : Addr) (cls : Value) (d : Option Addr) : List V → Hp → VK → Prop := fun xs H Q => ∃ (D : Addr) (c : V) (cv : Value) (b : Bool), cls = .ref D ∧ ExcC K D ∧ xs = [.ref a, c] ∧ ClsV c cv ∧ PySem.W.kitOne K (.ref D) cv = some b ∧ (∀ dd, d = some dd → ∃ fs, H dd = some (.xd fs)) ∧ Q (.bl b) H
theorem call_isE3 {X : Cx} {a : Addr} {oe : Obj} {cls : Value} {d : Option Addr} {pn : List (Addr × Obj)} (hz : Zc cls d oe) (hf : ∃ vs, oe.data = .fields vs) : CallR (X.suite a ((a, oe) :: pn)) (.builtin "isinstance") (rIsE3 X.K a cls d) := by
  intro pins s σ H xs us Q I r h
  obtain ⟨D, c, cv, b, rfl, C, h1, h2, h3, h4, q⟩ := h
  exact call_isE2 C hz hf pins s σ H xs us Q I r ⟨c, cv, b, h1, h2, h3, h4, q⟩
def tFe (K : PySem.W.Frag) (a : Addr) (cls : Value) (d : Option Addr) (f : Str) (te : TE) : TE := fun σ H Q => ∃ C, cls = .ref C ∧ XfC K C ∧ PySem.W.findIn K (.ref C) f = some none ∧ tXf a cls d C f te σ H Q
theorem pe_fe {X : Cx} {a : Addr} {oe : Obj} {cls : Value} {d : Option Addr} {pn : List (Addr × Obj)} {e : Expr} {te : TE} {pos : Pos} {n : Str} (hz : Zc cls d oe) (hf : ∃ vs, oe.data = .fields vs) (he : PE (X.suite a ((a, oe) :: pn)) e te)
    (hb : attributeBase e n X.env (eval e X.env) = eval e X.env := by rfl) : PE (X.suite a ((a, oe) :: pn)) (.Attribute e n pos) (tFe X.K a cls d n te) := by
  refine ⟨fun pins s σ H Q I h => ?_⟩
  obtain ⟨C, _, T, hno, h⟩ := h
  exact (pe_xf T hno hz hf he hb).run pins s σ H Q I h
def due (n : Int) (d e : PyData) : List PyData := if n = 2 then [] else if n = 8 then [d, e] else [d]
def kinds (n : Int) : List Bool := [decide ((0 : Int) = n), decide ((1 : Int) = n), decide ((2 : Int) = n), decide ((3 : Int) = n), decide ((4 : Int) = n), decide ((5 : Int) = n), decide ((6 : Int) = n), decide ((7 : Int) = n), decide ((8 : Int) = n), decide ((9 : Int) = n), decide ((10 : Int) = n), decide ((11 : Int) = n), true]
def toldD (n : Int) (d e : PyData) : PyData := .tuple [.list ((kinds n).map PyData.bool), .list (due n d e)]
theorem dp_bools {K : PySem.W.Frag} {H : Hp} : ∀ bs : List Bool, DpAll K H (bs.map V.bl) (bs.map PyData.bool)
  | [] => .nil
  | b :: bs => .cons (.bl b) (dp_bools bs)
def spTold (K : PySem.W.Frag) : Sp := fun vs H Q _ => ∃ (n : Int) (v u : V) (d e : PyData) (Hv : Hp), vs = [.int n, v, u] ∧ 0 ≤ n ∧ n ≤ 11 ∧ Same Hv H ∧ Dp K Hv v d ∧ Dp K Hv u e ∧ nd d ≤ 1000000 ∧ nd e ≤ 1000000 ∧
  ∀ (H' : Hp) (t : Addr), Same H H' → Dp K H' (.ref t) (toldD n d e) → Q (.ref t) H'
theorem take0 {X : Cx} : Takes X (fun _ _ _ _ => False) := fun _ _ ⟨_, _, _, _, _, _, _, _, _, _, _, _, _, _, _, _, z⟩ => z.elim
structure Mt (mg : Str → Option Value) : Prop where
  isi : mg "isinstance" = none
  ve : mg "ValueError" = none
section
variable {P : Program} {w : World} {K : PySem.W.Frag} {mg : Str → Option Value} {base : Heap} {TE : Addr} {Cs Fi : Int → Addr} {Fd : Int → FuncData}
theorem Cls12.all (T : Cls12 K mg TE Cs Fi) : ∀ n : Int, 0 ≤ n → n ≤ 11 → ∃ nm, Cl K mg TE nm (Cs n) := by
  intro n h0 h1
  obtain rfl | rfl | rfl | rfl | rfl | rfl | rfl | rfl | rfl | rfl | rfl | rfl : n = 0 ∨ n = 1 ∨ n = 2 ∨ n = 3 ∨ n = 4 ∨ n = 5 ∨ n = 6 ∨ n = 7 ∨ n = 8 ∨ n = 9 ∨ n = 10 ∨ n = 11 := by omega
  all_goals first
    | exact ⟨_, T.c0⟩
    | exact ⟨_, T.c1⟩
    | exact ⟨_, T.c2⟩
    | exact ⟨_, T.c3⟩
    | exact ⟨_, T.c4⟩
    | exact ⟨_, T.c5⟩
    | exact ⟨_, T.c6⟩
    | exact ⟨_, T.c7⟩
    | exact ⟨_, T.c8⟩
    | exact ⟨_, T.c9⟩
    | exact ⟨_, T.c10⟩
    | exact ⟨_, T.c11⟩
theorem Cls12.kit (T : Cls12 K mg TE Cs Fi) {n j : Int} (h0 : 0 ≤ n) (h1 : n ≤ 11) (g0 : 0 ≤ j) (g1 : j ≤ 11) : PySem.W.kitOne K (.ref (Cs n)) (.ref (Cs j)) = some (decide (j = n)) := by
  obtain ⟨nm, c⟩ := T.all n h0 h1
  obtain ⟨nm', c'⟩ := T.all j g0 g1
  by_cases e : j = n
  · subst e
    rw [decide_eq_true rfl]
    exact kit_same c
  · obtain ⟨cd, hc, _⟩ := c'.mro
    rw [kit_cls c hc c'.ty fun z => e (T.inj n j h0 h1 g0 g1 z).symm, decide_eq_false (T.te j g0 g1), decide_eq_false e]
theorem scTold : FnScope ["_law_number", "_law_one", "_law_two", "e", "_law_found"] ["_law_number", "_law_one", "_law_two"] (defScope sTold) := ⟨rfl, rfl, rfl, by decide +kernel, rfl, by decide +kernel, by decide +kernel⟩
def tSuite (K : PySem.W.Frag) (Cs : Int → Addr) : Addr → Value → Option Addr → TS := fun a cls d =>
    (tSeq (tAsg (tLst (tCons (tCB (rIsE3 K a cls d) (tCons (tVar 3) (tCons (tC (.ref (Cs 0))) tNil))) (tCons (tCB (rIsE3 K a cls d) (tCons (tVar 3) (tCons (tC (.ref (Cs 1))) tNil))) (tCons (tCB (rIsE3 K a cls d) (tCons (tVar 3) (tCons (tC (.ref (Cs 2))) tNil))) (tCons (tCB (rIsE3 K a cls d) (tCons (tVar 3) (tCons (tC (.ref (Cs 3))) tNil))) tNil))))) (gName 4))
    (tSeq (tAsg (tOp rCat (tVar 4) (tLst (tCons (tCB (rIsE3 K a cls d) (tCons (tVar 3) (tCons (tC (.ref (Cs 4))) tNil))) (tCons (tCB (rIsE3 K a cls d) (tCons (tVar 3) (tCons (tC (.ref (Cs 5))) tNil))) (tCons (tCB (rIsE3 K a cls d) (tCons (tVar 3) (tCons (tC (.ref (Cs 6))) tNil))) tNil))))) (gName 4))
    (tSeq (tAsg (tOp rCat (tVar 4) (tLst (tCons (tCB (rIsE3 K a cls d) (tCons (tVar 3) (tCons (tC (.ref (Cs 7))) tNil))) (tCons (tCB (rIsE3 K a cls d) (tCons (tVar 3) (tCons (tC (.ref (Cs 8))) tNil))) (tCons (tCB (rIsE3 K a cls d) (tCons (tVar 3) (tCons (tC (.ref (Cs 9))) tNil))) tNil))))) (gName 4))
    (tSeq (tAsg (tOp rCat (tVar 4) (tLst (tCons (tCB (rIsE3 K a cls d) (tCons (tVar 3) (tCons (tC (.ref (Cs 10))) tNil))) (tCons (tCB (rIsE3 K a cls d) (tCons (tVar 3) (tCons (tC (.ref (Cs 11))) tNil))) (tCons (tCB (rIsE3 K a cls d) (tCons (tVar 3) (tCons (tC (.ty "ValueError")) tNil))) tNil))))) (gName 4))
    (tSeq (tIfS (tTest (tOp (rI0 fun i j => .bl (decide (i < j))) (tVar 0) (tC (.int 2)))) (tRet (tTup (tCons (tVar 4) (tCons (tLst (tCons (tFe K a cls d "place" (tVar 3)) tNil)) tNil)))) tNext)
    (tSeq (tIfS (tTest (tOp (rIn K false) (tVar 0) (tLst (tCons (tC (.int 3)) (tCons (tC (.int 4)) (tCons (tC (.int 10)) tNil)))))) (tRet (tTup (tCons (tVar 4) (tCons (tLst (tCons (tFe K a cls d "at" (tVar 3)) tNil)) tNil)))) tNext)
    (tSeq (tIfS (tTest (tOp (rIn K false) (tVar 0) (tLst (tCons (tC (.int 7)) (tCons (tC (.int 9)) tNil))))) (tRet (tTup (tCons (tVar 4) (tCons (tLst (tCons (tFe K a cls d "name" (tVar 3)) tNil)) tNil)))) tNext)
    (tSeq (tIfS (tTest (tOp rEq (tVar 0) (tC (.int 8)))) (tRet (tTup (tCons (tVar 4) (tCons (tLst (tCons (tFe K a cls d "way" (tVar 3)) (tCons (tFe K a cls d "line" (tVar 3)) tNil))) tNil)))) tNext)
    (tSeq (tIfS (tTest (tOp rEq (tVar 0) (tC (.int 5)))) (tRet (tTup (tCons (tVar 4) (tCons (tLst (tCons (tFe K a cls d "line" (tVar 3)) tNil)) tNil)))) tNext)
    (tSeq (tIfS (tTest (tOp rEq (tVar 0) (tC (.int 6)))) (tRet (tTup (tCons (tVar 4) (tCons (tLst (tCons (tFe K a cls d "what" (tVar 3)) tNil)) tNil)))) tNext)
    (tRet (tTup (tCons (tVar 4) (tCons (tIf (tTest (tOp rEq (tVar 0) (tC (.int 11)))) (tLst (tCons (tFe K a cls d "spot" (tVar 3)) tNil)) (tLst tNil)) tNil))))))))))))))
/-- the suite of told, at the n-th error -/
theorem read_suite (T : Cls12 K mg TE Cs Fi) {n : Int} (h0 : 0 ≤ n) (h11 : n ≤ 11) {a : Addr} {d : Option Addr} {H3 : Hp} {v u : V} {d1 e1 : PyData} {D : Ends} (hx : ∀ dd, d = some dd → ∃ fs, H3 dd = some (.xd fs))
    (h1 : n ≠ 2 → n ≠ 8 → ∃ dx w, d = some dx ∧ H3 dx = some (.xd [(fld n, w)]) ∧ Dp K H3 w d1) (h8 : n = 8 → ∃ dx w z, d = some dx ∧ H3 dx = some (.xd [("line", z), ("way", w)]) ∧ Dp K H3 w d1 ∧ Dp K H3 z e1)
    (q : ∀ (H' : Hp) (t : Addr), Same H3 H' → Dp K H' (.ref t) (toldD n d1 e1) → D.rt (.ref t) H') : tSuite K Cs a (.ref (Cs n)) d D [some (.int n), some v, some u, some (.ref a), none] H3 := by
  obtain ⟨nm, c⟩ := T.all n h0 h11
  have ec := c.ec
  have up : ∀ {G : Hp}, Same H3 G → ∀ dd, d = some dd → ∃ fs, G dd = some (.xd fs) := fun sm dd e => let ⟨fs, g⟩ := hx dd e; ⟨fs, sm _ _ g⟩
  refine ⟨_, rfl, Cs n, _, _, _, rfl, ec, rfl, .own _, T.kit h0 h11 (by decide) (by decide), hx, _, rfl, Cs n, _, _, _, rfl, ec, rfl, .own _, T.kit h0 h11 (by decide) (by decide), hx, _, rfl, Cs n, _, _, _, rfl, ec, rfl, .own _, T.kit h0 h11 (by decide) (by decide), hx, _, rfl, Cs n, _, _, _, rfl, ec, rfl, .own _, T.kit h0 h11 (by decide) (by decide), hx, (by show 4 ≤ sizeLine; decide), fun p1 n1 => ?_⟩
  have s1 := same_upd (o := .lst [.bl (decide ((0 : Int) = n)), .bl (decide ((1 : Int) = n)), .bl (decide ((2 : Int) = n)), .bl (decide ((3 : Int) = n))]) n1
  have g1 : (upd H3 p1 (.lst [.bl (decide ((0 : Int) = n)), .bl (decide ((1 : Int) = n)), .bl (decide ((2 : Int) = n)), .bl (decide ((3 : Int) = n))])) p1 = some (.lst [.bl (decide ((0 : Int) = n)), .bl (decide ((1 : Int) = n)), .bl (decide ((2 : Int) = n)), .bl (decide ((3 : Int) = n))]) := upd_same
  generalize upd H3 p1 (.lst [.bl (decide ((0 : Int) = n)), .bl (decide ((1 : Int) = n)), .bl (decide ((2 : Int) = n)), .bl (decide ((3 : Int) = n))]) = G1 at s1 g1
  refine ⟨_, rfl, _, rfl, Cs n, _, _, _, rfl, ec, rfl, .own _, T.kit h0 h11 (by decide) (by decide), up s1, _, rfl, Cs n, _, _, _, rfl, ec, rfl, .own _, T.kit h0 h11 (by decide) (by decide), up s1, _, rfl, Cs n, _, _, _, rfl, ec, rfl, .own _, T.kit h0 h11 (by decide) (by decide), up s1, (by show 3 ≤ sizeLine; decide), fun r1 m1 => ⟨p1, r1, [.bl (decide ((0 : Int) = n)), .bl (decide ((1 : Int) = n)), .bl (decide ((2 : Int) = n)), .bl (decide ((3 : Int) = n))], [.bl (decide ((4 : Int) = n)), .bl (decide ((5 : Int) = n)), .bl (decide ((6 : Int) = n))], rfl, rfl, same_upd m1 _ _ g1, upd_same, (by show 4 + 3 ≤ sizeLine; decide), fun p2 n2 => ?_⟩⟩
  have s2 := (s1.trans (same_upd m1)).trans (same_upd (o := .lst [.bl (decide ((0 : Int) = n)), .bl (decide ((1 : Int) = n)), .bl (decide ((2 : Int) = n)), .bl (decide ((3 : Int) = n)), .bl (decide ((4 : Int) = n)), .bl (decide ((5 : Int) = n)), .bl (decide ((6 : Int) = n))]) n2)
  have g2 : (upd (upd G1 r1 (.lst [.bl (decide ((4 : Int) = n)), .bl (decide ((5 : Int) = n)), .bl (decide ((6 : Int) = n))])) p2 (.lst [.bl (decide ((0 : Int) = n)), .bl (decide ((1 : Int) = n)), .bl (decide ((2 : Int) = n)), .bl (decide ((3 : Int) = n)), .bl (decide ((4 : Int) = n)), .bl (decide ((5 : Int) = n)), .bl (decide ((6 : Int) = n))])) p2 = some (.lst [.bl (decide ((0 : Int) = n)), .bl (decide ((1 : Int) = n)), .bl (decide ((2 : Int) = n)), .bl (decide ((3 : Int) = n)), .bl (decide ((4 : Int) = n)), .bl (decide ((5 : Int) = n)), .bl (decide ((6 : Int) = n))]) := upd_same
  change _ at s2
  show _
  generalize hG2 : upd (upd G1 r1 (.lst [.bl (decide ((4 : Int) = n)), .bl (decide ((5 : Int) = n)), .bl (decide ((6 : Int) = n))])) p2 (.lst [.bl (decide ((0 : Int) = n)), .bl (decide ((1 : Int) = n)), .bl (decide ((2 : Int) = n)), .bl (decide ((3 : Int) = n)), .bl (decide ((4 : Int) = n)), .bl (decide ((5 : Int) = n)), .bl (decide ((6 : Int) = n))]) = G2 at s2 g2
  have eG2 : upd (upd G1 r1 (.lst [.bl (decide ((4 : Int) = n)), .bl (decide ((5 : Int) = n)), .bl (decide ((6 : Int) = n))])) p2 (.lst ([.bl (decide ((0 : Int) = n)), .bl (decide ((1 : Int) = n)), .bl (decide ((2 : Int) = n)), .bl (decide ((3 : Int) = n))] ++ [.bl (decide ((4 : Int) = n)), .bl (decide ((5 : Int) = n)), .bl (decide ((6 : Int) = n))])) = G2 := hG2
  rw [eG2]
  refine ⟨_, rfl, _, rfl, Cs n, _, _, _, rfl, ec, rfl, .own _, T.kit h0 h11 (by decide) (by decide), up s2, _, rfl, Cs n, _, _, _, rfl, ec, rfl, .own _, T.kit h0 h11 (by decide) (by decide), up s2, _, rfl, Cs n, _, _, _, rfl, ec, rfl, .own _, T.kit h0 h11 (by decide) (by decide), up s2, (by show 3 ≤ sizeLine; decide), fun r2 m2 => ⟨p2, r2, [.bl (decide ((0 : Int) = n)), .bl (decide ((1 : Int) = n)), .bl (decide ((2 : Int) = n)), .bl (decide ((3 : Int) = n)), .bl (decide ((4 : Int) = n)), .bl (decide ((5 : Int) = n)), .bl (decide ((6 : Int) = n))], [.bl (decide ((7 : Int) = n)), .bl (decide ((8 : Int) = n)), .bl (decide ((9 : Int) = n))], rfl, rfl, same_upd m2 _ _ g2, upd_same, (by show 7 + 3 ≤ sizeLine; decide), fun p3 n3 => ?_⟩⟩
  have s3 := (s2.trans (same_upd m2)).trans (same_upd (o := .lst [.bl (decide ((0 : Int) = n)), .bl (decide ((1 : Int) = n)), .bl (decide ((2 : Int) = n)), .bl (decide ((3 : Int) = n)), .bl (decide ((4 : Int) = n)), .bl (decide ((5 : Int) = n)), .bl (decide ((6 : Int) = n)), .bl (decide ((7 : Int) = n)), .bl (decide ((8 : Int) = n)), .bl (decide ((9 : Int) = n))]) n3)
  have g3 : (upd (upd G2 r2 (.lst [.bl (decide ((7 : Int) = n)), .bl (decide ((8 : Int) = n)), .bl (decide ((9 : Int) = n))])) p3 (.lst [.bl (decide ((0 : Int) = n)), .bl (decide ((1 : Int) = n)), .bl (decide ((2 : Int) = n)), .bl (decide ((3 : Int) = n)), .bl (decide ((4 : Int) = n)), .bl (decide ((5 : Int) = n)), .bl (decide ((6 : Int) = n)), .bl (decide ((7 : Int) = n)), .bl (decide ((8 : Int) = n)), .bl (decide ((9 : Int) = n))])) p3 = some (.lst [.bl (decide ((0 : Int) = n)), .bl (decide ((1 : Int) = n)), .bl (decide ((2 : Int) = n)), .bl (decide ((3 : Int) = n)), .bl (decide ((4 : Int) = n)), .bl (decide ((5 : Int) = n)), .bl (decide ((6 : Int) = n)), .bl (decide ((7 : Int) = n)), .bl (decide ((8 : Int) = n)), .bl (decide ((9 : Int) = n))]) := upd_same
  change _ at s3
  show _
  generalize hG3 : upd (upd G2 r2 (.lst [.bl (decide ((7 : Int) = n)), .bl (decide ((8 : Int) = n)), .bl (decide ((9 : Int) = n))])) p3 (.lst [.bl (decide ((0 : Int) = n)), .bl (decide ((1 : Int) = n)), .bl (decide ((2 : Int) = n)), .bl (decide ((3 : Int) = n)), .bl (decide ((4 : Int) = n)), .bl (decide ((5 : Int) = n)), .bl (decide ((6 : Int) = n)), .bl (decide ((7 : Int) = n)), .bl (decide ((8 : Int) = n)), .bl (decide ((9 : Int) = n))]) = G3 at s3 g3
  have eG3 : upd (upd G2 r2 (.lst [.bl (decide ((7 : Int) = n)), .bl (decide ((8 : Int) = n)), .bl (decide ((9 : Int) = n))])) p3 (.lst ([.bl (decide ((0 : Int) = n)), .bl (decide ((1 : Int) = n)), .bl (decide ((2 : Int) = n)), .bl (decide ((3 : Int) = n)), .bl (decide ((4 : Int) = n)), .bl (decide ((5 : Int) = n)), .bl (decide ((6 : Int) = n))] ++ [.bl (decide ((7 : Int) = n)), .bl (decide ((8 : Int) = n)), .bl (decide ((9 : Int) = n))])) = G3 := hG3
  rw [eG3]
  refine ⟨_, rfl, _, rfl, Cs n, _, _, _, rfl, ec, rfl, .own _, T.kit h0 h11 (by decide) (by decide), up s3, _, rfl, Cs n, _, _, _, rfl, ec, rfl, .own _, T.kit h0 h11 (by decide) (by decide), up s3, _, rfl, Cs n, _, _, _, rfl, ec, rfl, .ty _, kit_ve c, up s3, (by show 3 ≤ sizeLine; decide), fun r3 m3 => ⟨p3, r3, [.bl (decide ((0 : Int) = n)), .bl (decide ((1 : Int) = n)), .bl (decide ((2 : Int) = n)), .bl (decide ((3 : Int) = n)), .bl (decide ((4 : Int) = n)), .bl (decide ((5 : Int) = n)), .bl (decide ((6 : Int) = n)), .bl (decide ((7 : Int) = n)), .bl (decide ((8 : Int) = n)), .bl (decide ((9 : Int) = n))], [.bl (decide ((10 : Int) = n)), .bl (decide ((11 : Int) = n)), .bl true], rfl, rfl, same_upd m3 _ _ g3, upd_same, (by show 10 + 3 ≤ sizeLine; decide), fun p4 n4 => ?_⟩⟩
  have s4 := (s3.trans (same_upd m3)).trans (same_upd (o := .lst [.bl (decide ((0 : Int) = n)), .bl (decide ((1 : Int) = n)), .bl (decide ((2 : Int) = n)), .bl (decide ((3 : Int) = n)), .bl (decide ((4 : Int) = n)), .bl (decide ((5 : Int) = n)), .bl (decide ((6 : Int) = n)), .bl (decide ((7 : Int) = n)), .bl (decide ((8 : Int) = n)), .bl (decide ((9 : Int) = n)), .bl (decide ((10 : Int) = n)), .bl (decide ((11 : Int) = n)), .bl true]) n4)
  have g4 : (upd (upd G3 r3 (.lst [.bl (decide ((10 : Int) = n)), .bl (decide ((11 : Int) = n)), .bl true])) p4 (.lst [.bl (decide ((0 : Int) = n)), .bl (decide ((1 : Int) = n)), .bl (decide ((2 : Int) = n)), .bl (decide ((3 : Int) = n)), .bl (decide ((4 : Int) = n)), .bl (decide ((5 : Int) = n)), .bl (decide ((6 : Int) = n)), .bl (decide ((7 : Int) = n)), .bl (decide ((8 : Int) = n)), .bl (decide ((9 : Int) = n)), .bl (decide ((10 : Int) = n)), .bl (decide ((11 : Int) = n)), .bl true])) p4 = some (.lst [.bl (decide ((0 : Int) = n)), .bl (decide ((1 : Int) = n)), .bl (decide ((2 : Int) = n)), .bl (decide ((3 : Int) = n)), .bl (decide ((4 : Int) = n)), .bl (decide ((5 : Int) = n)), .bl (decide ((6 : Int) = n)), .bl (decide ((7 : Int) = n)), .bl (decide ((8 : Int) = n)), .bl (decide ((9 : Int) = n)), .bl (decide ((10 : Int) = n)), .bl (decide ((11 : Int) = n)), .bl true]) := upd_same
  change _ at s4
  show _
  generalize hG4 : upd (upd G3 r3 (.lst [.bl (decide ((10 : Int) = n)), .bl (decide ((11 : Int) = n)), .bl true])) p4 (.lst [.bl (decide ((0 : Int) = n)), .bl (decide ((1 : Int) = n)), .bl (decide ((2 : Int) = n)), .bl (decide ((3 : Int) = n)), .bl (decide ((4 : Int) = n)), .bl (decide ((5 : Int) = n)), .bl (decide ((6 : Int) = n)), .bl (decide ((7 : Int) = n)), .bl (decide ((8 : Int) = n)), .bl (decide ((9 : Int) = n)), .bl (decide ((10 : Int) = n)), .bl (decide ((11 : Int) = n)), .bl true]) = G4 at s4 g4
  have eG4 : upd (upd G3 r3 (.lst [.bl (decide ((10 : Int) = n)), .bl (decide ((11 : Int) = n)), .bl true])) p4 (.lst ([.bl (decide ((0 : Int) = n)), .bl (decide ((1 : Int) = n)), .bl (decide ((2 : Int) = n)), .bl (decide ((3 : Int) = n)), .bl (decide ((4 : Int) = n)), .bl (decide ((5 : Int) = n)), .bl (decide ((6 : Int) = n)), .bl (decide ((7 : Int) = n)), .bl (decide ((8 : Int) = n)), .bl (decide ((9 : Int) = n))] ++ [.bl (decide ((10 : Int) = n)), .bl (decide ((11 : Int) = n)), .bl true])) = G4 := hG4
  rw [eG4]
  have fin : ∀ (G : Hp) (l t : Addr) (ws : List V), Same H3 G → G p4 = some (.lst ((kinds n).map V.bl)) → G l = none → (upd G l (.lst ws)) t = none → DpAll K H3 ws (due n d1 e1) → D.rt (.ref t) (upd (upd G l (.lst ws)) t (.tup [.ref p4, .ref l])) := by
    intro G l t ws sm gp nl nt hw
    have sm2 : Same H3 (upd (upd G l (.lst ws)) t (.tup [.ref p4, .ref l])) := (sm.trans (same_upd nl)).trans (same_upd nt)
    have e1 : (upd (upd G l (.lst ws)) t (.tup [.ref p4, .ref l])) p4 = some (.lst ((kinds n).map V.bl)) := same_upd nt _ _ (same_upd nl _ _ gp)
    have e2 : (upd (upd G l (.lst ws)) t (.tup [.ref p4, .ref l])) l = some (.lst ws) := same_upd nt _ _ upd_same
    refine q _ t sm2 (.tup (SqT.of upd_same) (.cons (.lst (SqL.of e1) (dp_bools _)) (.cons (.lst (SqL.of e2) (dpAll_same sm2 _ _ hw)) .nil)))
  clear hG2 hG3 hG4 eG2 eG3 eG4
  have k1 : G4 p4 = some (.lst ((kinds n).map V.bl)) := g4
  clear g4
  obtain rfl | rfl | rfl | rfl | rfl | rfl | rfl | rfl | rfl | rfl | rfl | rfl : n = 0 ∨ n = 1 ∨ n = 2 ∨ n = 3 ∨ n = 4 ∨ n = 5 ∨ n = 6 ∨ n = 7 ∨ n = 8 ∨ n = 9 ∨ n = 10 ∨ n = 11 := by omega
  · obtain ⟨dx, w, rfl, hdx, hw⟩ := h1 (by decide) (by decide)
    refine ⟨_, rfl, _, _, rfl, rfl, _, rfl, ltT (by decide) ?_⟩
    exact ⟨_, rfl, Cs 0, rfl, T.c0.xf, T.n0place, _, rfl, rfl, rfl, dx, _, w, rfl, s4 _ _ hdx, rfl, (by show 1 ≤ sizeLine; decide), fun l nl => ⟨(by show 2 ≤ sizeLine; decide), fun t nt => fin G4 l t [w] s4 k1 nl nt (.cons hw .nil)⟩⟩
  · obtain ⟨dx, w, rfl, hdx, hw⟩ := h1 (by decide) (by decide)
    refine ⟨_, rfl, _, _, rfl, rfl, _, rfl, ltT (by decide) ?_⟩
    exact ⟨_, rfl, Cs 1, rfl, T.c1.xf, T.n1place, _, rfl, rfl, rfl, dx, _, w, rfl, s4 _ _ hdx, rfl, (by show 1 ≤ sizeLine; decide), fun l nl => ⟨(by show 2 ≤ sizeLine; decide), fun t nt => fin G4 l t [w] s4 k1 nl nt (.cons hw .nil)⟩⟩
  · refine ⟨_, rfl, _, _, rfl, rfl, _, rfl, ltF (by decide) ?_⟩
    refine ⟨_, rfl, (by show 3 ≤ sizeLine; decide), fun q0 nq0 => ⟨q0, _, rfl, .inl (SqL.of upd_same), rfl, rfl, _, rfl, ?_⟩⟩
    have t0 := s4.trans (same_upd (o := (.lst [.int 3, .int 4, .int 10])) nq0)
    have k2 := same_upd (o := (.lst [.int 3, .int 4, .int 10])) nq0 _ _ k1
    generalize upd G4 q0 (.lst [.int 3, .int 4, .int 10]) = A0 at t0 k2
    refine iteF ?_
    refine ⟨_, rfl, (by show 2 ≤ sizeLine; decide), fun q1 nq1 => ⟨q1, _, rfl, .inl (SqL.of upd_same), rfl, rfl, _, rfl, ?_⟩⟩
    have t1 := t0.trans (same_upd (o := (.lst [.int 7, .int 9])) nq1)
    have k3 := same_upd (o := (.lst [.int 7, .int 9])) nq1 _ _ k2
    generalize upd A0 q1 (.lst [.int 7, .int 9]) = A1 at t1 k3
    refine iteF ?_
    refine ⟨_, rfl, rfl, _, rfl, eqF (by decide) ?_⟩
    refine ⟨_, rfl, rfl, _, rfl, eqF (by decide) ?_⟩
    refine ⟨_, rfl, rfl, _, rfl, eqF (by decide) ?_⟩
    refine ⟨_, rfl, _, rfl, rfl, _, rfl, eqF (by decide) ?_⟩
    exact ⟨by decide, fun l nl => ⟨(by show 2 ≤ sizeLine; decide), fun t nt => fin A1 l t [] t1 k3 nl nt .nil⟩⟩
  · obtain ⟨dx, w, rfl, hdx, hw⟩ := h1 (by decide) (by decide)
    refine ⟨_, rfl, _, _, rfl, rfl, _, rfl, ltF (by decide) ?_⟩
    refine ⟨_, rfl, (by show 3 ≤ sizeLine; decide), fun q0 nq0 => ⟨q0, _, rfl, .inl (SqL.of upd_same), rfl, rfl, _, rfl, ?_⟩⟩
    have t0 := s4.trans (same_upd (o := (.lst [.int 3, .int 4, .int 10])) nq0)
    have k2 := same_upd (o := (.lst [.int 3, .int 4, .int 10])) nq0 _ _ k1
    generalize upd G4 q0 (.lst [.int 3, .int 4, .int 10]) = A0 at t0 k2
    refine iteT ?_
    exact ⟨_, rfl, Cs 3, rfl, T.c3.xf, T.n3at, _, rfl, rfl, rfl, dx, _, w, rfl, t0 _ _ hdx, rfl, (by show 1 ≤ sizeLine; decide), fun l nl => ⟨(by show 2 ≤ sizeLine; decide), fun t nt => fin A0 l t [w] t0 k2 nl nt (.cons hw .nil)⟩⟩
  · obtain ⟨dx, w, rfl, hdx, hw⟩ := h1 (by decide) (by decide)
    refine ⟨_, rfl, _, _, rfl, rfl, _, rfl, ltF (by decide) ?_⟩
    refine ⟨_, rfl, (by show 3 ≤ sizeLine; decide), fun q0 nq0 => ⟨q0, _, rfl, .inl (SqL.of upd_same), rfl, rfl, _, rfl, ?_⟩⟩
    have t0 := s4.trans (same_upd (o := (.lst [.int 3, .int 4, .int 10])) nq0)
    have k2 := same_upd (o := (.lst [.int 3, .int 4, .int 10])) nq0 _ _ k1
    generalize upd G4 q0 (.lst [.int 3, .int 4, .int 10]) = A0 at t0 k2
    refine iteT ?_
    exact ⟨_, rfl, Cs 4, rfl, T.c4.xf, T.n4at, _, rfl, rfl, rfl, dx, _, w, rfl, t0 _ _ hdx, rfl, (by show 1 ≤ sizeLine; decide), fun l nl => ⟨(by show 2 ≤ sizeLine; decide), fun t nt => fin A0 l t [w] t0 k2 nl nt (.cons hw .nil)⟩⟩
  · obtain ⟨dx, w, rfl, hdx, hw⟩ := h1 (by decide) (by decide)
    refine ⟨_, rfl, _, _, rfl, rfl, _, rfl, ltF (by decide) ?_⟩
    refine ⟨_, rfl, (by show 3 ≤ sizeLine; decide), fun q0 nq0 => ⟨q0, _, rfl, .inl (SqL.of upd_same), rfl, rfl, _, rfl, ?_⟩⟩
    have t0 := s4.trans (same_upd (o := (.lst [.int 3, .int 4, .int 10])) nq0)
    have k2 := same_upd (o := (.lst [.int 3, .int 4, .int 10])) nq0 _ _ k1
    generalize upd G4 q0 (.lst [.int 3, .int 4, .int 10]) = A0 at t0 k2
    refine iteF ?_
    refine ⟨_, rfl, (by show 2 ≤ sizeLine; decide), fun q1 nq1 => ⟨q1, _, rfl, .inl (SqL.of upd_same), rfl, rfl, _, rfl, ?_⟩⟩
    have t1 := t0.trans (same_upd (o := (.lst [.int 7, .int 9])) nq1)
    have k3 := same_upd (o := (.lst [.int 7, .int 9])) nq1 _ _ k2
    generalize upd A0 q1 (.lst [.int 7, .int 9]) = A1 at t1 k3
    refine iteF ?_
    refine ⟨_, rfl, rfl, _, rfl, eqF (by decide) ?_⟩
    refine ⟨_, rfl, rfl, _, rfl, eqT rfl ?_⟩
    exact ⟨_, rfl, Cs 5, rfl, T.c5.xf, T.n5line, _, rfl, rfl, rfl, dx, _, w, rfl, t1 _ _ hdx, rfl, (by show 1 ≤ sizeLine; decide), fun l nl => ⟨(by show 2 ≤ sizeLine; decide), fun t nt => fin A1 l t [w] t1 k3 nl nt (.cons hw .nil)⟩⟩
  · obtain ⟨dx, w, rfl, hdx, hw⟩ := h1 (by decide) (by decide)
    refine ⟨_, rfl, _, _, rfl, rfl, _, rfl, ltF (by decide) ?_⟩
    refine ⟨_, rfl, (by show 3 ≤ sizeLine; decide), fun q0 nq0 => ⟨q0, _, rfl, .inl (SqL.of upd_same), rfl, rfl, _, rfl, ?_⟩⟩
    have t0 := s4.trans (same_upd (o := (.lst [.int 3, .int 4, .int 10])) nq0)
    have k2 := same_upd (o := (.lst [.int 3, .int 4, .int 10])) nq0 _ _ k1
    generalize upd G4 q0 (.lst [.int 3, .int 4, .int 10]) = A0 at t0 k2
    refine iteF ?_
    refine ⟨_, rfl, (by show 2 ≤ sizeLine; decide), fun q1 nq1 => ⟨q1, _, rfl, .inl (SqL.of upd_same), rfl, rfl, _, rfl, ?_⟩⟩
    have t1 := t0.trans (same_upd (o := (.lst [.int 7, .int 9])) nq1)
    have k3 := same_upd (o := (.lst [.int 7, .int 9])) nq1 _ _ k2
    generalize upd A0 q1 (.lst [.int 7, .int 9]) = A1 at t1 k3
    refine iteF ?_
    refine ⟨_, rfl, rfl, _, rfl, eqF (by decide) ?_⟩
    refine ⟨_, rfl, rfl, _, rfl, eqF (by decide) ?_⟩
    refine ⟨_, rfl, rfl, _, rfl, eqT rfl ?_⟩
    exact ⟨_, rfl, Cs 6, rfl, T.c6.xf, T.n6what, _, rfl, rfl, rfl, dx, _, w, rfl, t1 _ _ hdx, rfl, (by show 1 ≤ sizeLine; decide), fun l nl => ⟨(by show 2 ≤ sizeLine; decide), fun t nt => fin A1 l t [w] t1 k3 nl nt (.cons hw .nil)⟩⟩
  · obtain ⟨dx, w, rfl, hdx, hw⟩ := h1 (by decide) (by decide)
    refine ⟨_, rfl, _, _, rfl, rfl, _, rfl, ltF (by decide) ?_⟩
    refine ⟨_, rfl, (by show 3 ≤ sizeLine; decide), fun q0 nq0 => ⟨q0, _, rfl, .inl (SqL.of upd_same), rfl, rfl, _, rfl, ?_⟩⟩
    have t0 := s4.trans (same_upd (o := (.lst [.int 3, .int 4, .int 10])) nq0)
    have k2 := same_upd (o := (.lst [.int 3, .int 4, .int 10])) nq0 _ _ k1
    generalize upd G4 q0 (.lst [.int 3, .int 4, .int 10]) = A0 at t0 k2
    refine iteF ?_
    refine ⟨_, rfl, (by show 2 ≤ sizeLine; decide), fun q1 nq1 => ⟨q1, _, rfl, .inl (SqL.of upd_same), rfl, rfl, _, rfl, ?_⟩⟩
    have t1 := t0.trans (same_upd (o := (.lst [.int 7, .int 9])) nq1)
    have k3 := same_upd (o := (.lst [.int 7, .int 9])) nq1 _ _ k2
    generalize upd A0 q1 (.lst [.int 7, .int 9]) = A1 at t1 k3
    refine iteT ?_
    exact ⟨_, rfl, Cs 7, rfl, T.c7.xf, T.n7name, _, rfl, rfl, rfl, dx, _, w, rfl, t1 _ _ hdx, rfl, (by show 1 ≤ sizeLine; decide), fun l nl => ⟨(by show 2 ≤ sizeLine; decide), fun t nt => fin A1 l t [w] t1 k3 nl nt (.cons hw .nil)⟩⟩
  · obtain ⟨dx, w, z, rfl, hdx, hw, hz⟩ := h8 rfl
    refine ⟨_, rfl, _, _, rfl, rfl, _, rfl, ltF (by decide) ?_⟩
    refine ⟨_, rfl, (by show 3 ≤ sizeLine; decide), fun q0 nq0 => ⟨q0, _, rfl, .inl (SqL.of upd_same), rfl, rfl, _, rfl, ?_⟩⟩
    have t0 := s4.trans (same_upd (o := (.lst [.int 3, .int 4, .int 10])) nq0)
    have k2 := same_upd (o := (.lst [.int 3, .int 4, .int 10])) nq0 _ _ k1
    generalize upd G4 q0 (.lst [.int 3, .int 4, .int 10]) = A0 at t0 k2
    refine iteF ?_
    refine ⟨_, rfl, (by show 2 ≤ sizeLine; decide), fun q1 nq1 => ⟨q1, _, rfl, .inl (SqL.of upd_same), rfl, rfl, _, rfl, ?_⟩⟩
    have t1 := t0.trans (same_upd (o := (.lst [.int 7, .int 9])) nq1)
    have k3 := same_upd (o := (.lst [.int 7, .int 9])) nq1 _ _ k2
    generalize upd A0 q1 (.lst [.int 7, .int 9]) = A1 at t1 k3
    refine iteF ?_
    refine ⟨_, rfl, rfl, _, rfl, eqT rfl ?_⟩
    exact ⟨_, rfl, Cs 8, rfl, T.c8.xf, T.n8way, _, rfl, rfl, rfl, dx, _, w, rfl, t1 _ _ hdx, rfl, Cs 8, rfl, T.c8.xf, T.n8line, _, rfl, rfl, rfl, dx, _, z, rfl, t1 _ _ hdx, rfl, (by show 2 ≤ sizeLine; decide), fun l nl => ⟨(by show 2 ≤ sizeLine; decide), fun t nt => fin A1 l t [w, z] t1 k3 nl nt (.cons hw (.cons hz .nil))⟩⟩
  · obtain ⟨dx, w, rfl, hdx, hw⟩ := h1 (by decide) (by decide)
    refine ⟨_, rfl, _, _, rfl, rfl, _, rfl, ltF (by decide) ?_⟩
    refine ⟨_, rfl, (by show 3 ≤ sizeLine; decide), fun q0 nq0 => ⟨q0, _, rfl, .inl (SqL.of upd_same), rfl, rfl, _, rfl, ?_⟩⟩
    have t0 := s4.trans (same_upd (o := (.lst [.int 3, .int 4, .int 10])) nq0)
    have k2 := same_upd (o := (.lst [.int 3, .int 4, .int 10])) nq0 _ _ k1
    generalize upd G4 q0 (.lst [.int 3, .int 4, .int 10]) = A0 at t0 k2
    refine iteF ?_
    refine ⟨_, rfl, (by show 2 ≤ sizeLine; decide), fun q1 nq1 => ⟨q1, _, rfl, .inl (SqL.of upd_same), rfl, rfl, _, rfl, ?_⟩⟩
    have t1 := t0.trans (same_upd (o := (.lst [.int 7, .int 9])) nq1)
    have k3 := same_upd (o := (.lst [.int 7, .int 9])) nq1 _ _ k2
    generalize upd A0 q1 (.lst [.int 7, .int 9]) = A1 at t1 k3
    refine iteT ?_
    exact ⟨_, rfl, Cs 9, rfl, T.c9.xf, T.n9name, _, rfl, rfl, rfl, dx, _, w, rfl, t1 _ _ hdx, rfl, (by show 1 ≤ sizeLine; decide), fun l nl => ⟨(by show 2 ≤ sizeLine; decide), fun t nt => fin A1 l t [w] t1 k3 nl nt (.cons hw .nil)⟩⟩
  · obtain ⟨dx, w, rfl, hdx, hw⟩ := h1 (by decide) (by decide)
    refine ⟨_, rfl, _, _, rfl, rfl, _, rfl, ltF (by decide) ?_⟩
    refine ⟨_, rfl, (by show 3 ≤ sizeLine; decide), fun q0 nq0 => ⟨q0, _, rfl, .inl (SqL.of upd_same), rfl, rfl, _, rfl, ?_⟩⟩
    have t0 := s4.trans (same_upd (o := (.lst [.int 3, .int 4, .int 10])) nq0)
    have k2 := same_upd (o := (.lst [.int 3, .int 4, .int 10])) nq0 _ _ k1
    generalize upd G4 q0 (.lst [.int 3, .int 4, .int 10]) = A0 at t0 k2
    refine iteT ?_
    exact ⟨_, rfl, Cs 10, rfl, T.c10.xf, T.n10at, _, rfl, rfl, rfl, dx, _, w, rfl, t0 _ _ hdx, rfl, (by show 1 ≤ sizeLine; decide), fun l nl => ⟨(by show 2 ≤ sizeLine; decide), fun t nt => fin A0 l t [w] t0 k2 nl nt (.cons hw .nil)⟩⟩
  · obtain ⟨dx, w, rfl, hdx, hw⟩ := h1 (by decide) (by decide)
    refine ⟨_, rfl, _, _, rfl, rfl, _, rfl, ltF (by decide) ?_⟩
    refine ⟨_, rfl, (by show 3 ≤ sizeLine; decide), fun q0 nq0 => ⟨q0, _, rfl, .inl (SqL.of upd_same), rfl, rfl, _, rfl, ?_⟩⟩
    have t0 := s4.trans (same_upd (o := (.lst [.int 3, .int 4, .int 10])) nq0)
    have k2 := same_upd (o := (.lst [.int 3, .int 4, .int 10])) nq0 _ _ k1
    generalize upd G4 q0 (.lst [.int 3, .int 4, .int 10]) = A0 at t0 k2
    refine iteF ?_
    refine ⟨_, rfl, (by show 2 ≤ sizeLine; decide), fun q1 nq1 => ⟨q1, _, rfl, .inl (SqL.of upd_same), rfl, rfl, _, rfl, ?_⟩⟩
    have t1 := t0.trans (same_upd (o := (.lst [.int 7, .int 9])) nq1)
    have k3 := same_upd (o := (.lst [.int 7, .int 9])) nq1 _ _ k2
    generalize upd A0 q1 (.lst [.int 7, .int 9]) = A1 at t1 k3
    refine iteF ?_
    refine ⟨_, rfl, rfl, _, rfl, eqF (by decide) ?_⟩
    refine ⟨_, rfl, rfl, _, rfl, eqF (by decide) ?_⟩
    refine ⟨_, rfl, rfl, _, rfl, eqF (by decide) ?_⟩
    refine ⟨_, rfl, _, rfl, rfl, _, rfl, eqT rfl ?_⟩
    exact ⟨Cs 11, rfl, T.c11.xf, T.n11spot, _, rfl, rfl, rfl, dx, _, w, rfl, t1 _ _ hdx, rfl, (by show 1 ≤ sizeLine; decide), fun l nl => ⟨(by show 2 ≤ sizeLine; decide), fun t nt => fin A1 l t [w] t1 k3 nl nt (.cons hw .nil)⟩⟩
theorem ok_told {f fR : Addr} {fd fdR : FuncData} (F : Fun K "_law_told" "_law_told" sTold f fd) (M : Mt mg) (T : Cls12 K mg TE Cs Fi) (FR : Fun K "_law_raise" "_law_raise" sRaise fR fdR) (GR : FnOk P w K mg base (L2.CX P w) 6 fR fdR ["_law_number", "_law_one", "_law_two"] (spRaise K Cs))
    (bR : Binds K fdR ["_law_number", "_law_one", "_law_two"] []) (gR : mg "_law_raise" = some (.ref fR)) : FnOk P w K mg base CX0 7 f fd ["_law_number", "_law_one", "_law_two"] (spTold K) := by
  refine F.ok scTold (fun vs H Q E h => ?_) (fun cdv A outer s H vs Q E hr h => ?_)
  · obtain ⟨n, v, u, d, e, Hv, rfl, _⟩ := h
    rfl
  · obtain ⟨n, v, u, d, e, Hv, rfl, h0, h11, sv, hd, he, hn, hm, q⟩ := h
    refine ⟨_, pss_cons (ps_try_as (i := 3) (tb := fun W => tDrop (tCallS (spRaise K Cs) (WE W) (tCons (tVar 0) (tCons (tVar 1) (tCons (tVar 2) tNil))))) (ts := tSuite K Cs) (Wout := fun _ _ _ _ => False) rfl rfl scTold.nd rfl rfl ⟨rfl, by decide, Or.inl T.gTE⟩ take0
        (fun W pn xe tk _ => pss_one (ps_expr (by exact (pe_callS GR hr rfl gR FR.kp bR (fun σ => passAt tk σ) (by exact (pa_cons (pv 0) (pa_cons (pv 1) (pa_cons (pv 2) pa_nil))))))))
        (fun a oe cls d pn hz hf =>
            (pss_cons (ps_set (i := 4) scTold.nd rfl (.inl rfl) (pe_lst (pa_cons (pe_callB (call_isE3 hz hf) (by rfl) M.isi (by decide +kernel) (pa_cons (pv 3) (pa_cons (pe_glob (v := .ref (Cs 0)) (by rfl) T.c0.mgC rfl) pa_nil))) (pa_cons (pe_callB (call_isE3 hz hf) (by rfl) M.isi (by decide +kernel) (pa_cons (pv 3) (pa_cons (pe_glob (v := .ref (Cs 1)) (by rfl) T.c1.mgC rfl) pa_nil))) (pa_cons (pe_callB (call_isE3 hz hf) (by rfl) M.isi (by decide +kernel) (pa_cons (pv 3) (pa_cons (pe_glob (v := .ref (Cs 2)) (by rfl) T.c2.mgC rfl) pa_nil))) (pa_cons (pe_callB (call_isE3 hz hf) (by rfl) M.isi (by decide +kernel) (pa_cons (pv 3) (pa_cons (pe_glob (v := .ref (Cs 3)) (by rfl) T.c3.mgC rfl) pa_nil))) pa_nil))))))
            (pss_cons (ps_set (i := 4) scTold.nd rfl (.inl rfl) (pe_op op_cat (pv 4) (pe_lst (pa_cons (pe_callB (call_isE3 hz hf) (by rfl) M.isi (by decide +kernel) (pa_cons (pv 3) (pa_cons (pe_glob (v := .ref (Cs 4)) (by rfl) T.c4.mgC rfl) pa_nil))) (pa_cons (pe_callB (call_isE3 hz hf) (by rfl) M.isi (by decide +kernel) (pa_cons (pv 3) (pa_cons (pe_glob (v := .ref (Cs 5)) (by rfl) T.c5.mgC rfl) pa_nil))) (pa_cons (pe_callB (call_isE3 hz hf) (by rfl) M.isi (by decide +kernel) (pa_cons (pv 3) (pa_cons (pe_glob (v := .ref (Cs 6)) (by rfl) T.c6.mgC rfl) pa_nil))) pa_nil))))))
            (pss_cons (ps_set (i := 4) scTold.nd rfl (.inl rfl) (pe_op op_cat (pv 4) (pe_lst (pa_cons (pe_callB (call_isE3 hz hf) (by rfl) M.isi (by decide +kernel) (pa_cons (pv 3) (pa_cons (pe_glob (v := .ref (Cs 7)) (by rfl) T.c7.mgC rfl) pa_nil))) (pa_cons (pe_callB (call_isE3 hz hf) (by rfl) M.isi (by decide +kernel) (pa_cons (pv 3) (pa_cons (pe_glob (v := .ref (Cs 8)) (by rfl) T.c8.mgC rfl) pa_nil))) (pa_cons (pe_callB (call_isE3 hz hf) (by rfl) M.isi (by decide +kernel) (pa_cons (pv 3) (pa_cons (pe_glob (v := .ref (Cs 9)) (by rfl) T.c9.mgC rfl) pa_nil))) pa_nil))))))
            (pss_cons (ps_set (i := 4) scTold.nd rfl (.inl rfl) (pe_op op_cat (pv 4) (pe_lst (pa_cons (pe_callB (call_isE3 hz hf) (by rfl) M.isi (by decide +kernel) (pa_cons (pv 3) (pa_cons (pe_glob (v := .ref (Cs 10)) (by rfl) T.c10.mgC rfl) pa_nil))) (pa_cons (pe_callB (call_isE3 hz hf) (by rfl) M.isi (by decide +kernel) (pa_cons (pv 3) (pa_cons (pe_glob (v := .ref (Cs 11)) (by rfl) T.c11.mgC rfl) pa_nil))) (pa_cons (pe_callB (call_isE3 hz hf) (by rfl) M.isi (by decide +kernel) (pa_cons (pv 3) (pa_cons (pe_bltn (v := .ty "ValueError") (by rfl) M.ve (by decide +kernel) rfl) pa_nil))) pa_nil))))))
            (pss_cons (ps_if (pt_cmpR op_lt (pv 0) pe_int (nomark _)) (pss_one (ps_ret (pe_tup (pa_cons (pv 4) (pa_cons (pe_lst (pa_cons (pe_fe hz hf (pv 3)) pa_nil)) pa_nil))))) pss_nil)
            (pss_cons (ps_if (pt_cmpR op_in_seq (pv 0) (pe_lst (pa_cons pe_int (pa_cons pe_int (pa_cons pe_int pa_nil)))) (by rfl)) (pss_one (ps_ret (pe_tup (pa_cons (pv 4) (pa_cons (pe_lst (pa_cons (pe_fe hz hf (pv 3)) pa_nil)) pa_nil))))) pss_nil)
            (pss_cons (ps_if (pt_cmpR op_in_seq (pv 0) (pe_lst (pa_cons pe_int (pa_cons pe_int pa_nil))) (by rfl)) (pss_one (ps_ret (pe_tup (pa_cons (pv 4) (pa_cons (pe_lst (pa_cons (pe_fe hz hf (pv 3)) pa_nil)) pa_nil))))) pss_nil)
            (pss_cons (ps_if (pt_cmpR op_eq (pv 0) pe_int (nomark _)) (pss_one (ps_ret (pe_tup (pa_cons (pv 4) (pa_cons (pe_lst (pa_cons (pe_fe hz hf (pv 3)) (pa_cons (pe_fe hz hf (pv 3)) pa_nil))) pa_nil))))) pss_nil)
            (pss_cons (ps_if (pt_cmpR op_eq (pv 0) pe_int (nomark _)) (pss_one (ps_ret (pe_tup (pa_cons (pv 4) (pa_cons (pe_lst (pa_cons (pe_fe hz hf (pv 3)) pa_nil)) pa_nil))))) pss_nil)
            (pss_cons (ps_if (pt_cmpR op_eq (pv 0) pe_int (nomark _)) (pss_one (ps_ret (pe_tup (pa_cons (pv 4) (pa_cons (pe_lst (pa_cons (pe_fe hz hf (pv 3)) pa_nil)) pa_nil))))) pss_nil)
            (pss_one (ps_ret (pe_tup (pa_cons (pv 4) (pa_cons (pe_ifExp (pt_cmpR op_eq (pv 0) pe_int (nomark _)) (pe_lst (pa_cons (pe_fe hz hf (pv 3)) pa_nil)) (pe_lst pa_nil)) pa_nil))))))))))))))))) pss_never, ?_⟩
    refine ⟨_, rfl, _, rfl, _, rfl, n, v, u, d, e, Hv, rfl, h0, h11, sv, hd, he, hn, hm, ⟨fun e2 H3 sm => ?_, fun e2 e8 H3 dx z sm hdx hz => ?_, fun e8 H3 dx z y sm hdx hz hy => ?_⟩⟩
    · subst e2
      exact ⟨true, exm_te T.c2 T.sTE T.hTE T.tTE, fun _ a na => read_suite T h0 h11 (fun _ z => nomatch z) (fun z => absurd rfl z) (fun z => absurd z (by decide)) (fun H' t s2 hD => q H' t (sm.trans s2) hD), fun z => nomatch z⟩
    · obtain ⟨nm, c⟩ := T.all n h0 h11
      exact ⟨true, exm_te c T.sTE T.hTE T.tTE, fun _ a na => read_suite T h0 h11 (fun _ z => ⟨_, Option.some.inj z ▸ hdx⟩) (fun _ _ => ⟨dx, z, rfl, hdx, hz⟩) (fun z => absurd z e8) (fun H' t s2 hD => q H' t (sm.trans s2) hD), fun z => nomatch z⟩
    · subst e8
      exact ⟨true, exm_te T.c8 T.sTE T.hTE T.tTE, fun _ a na => read_suite T h0 h11 (fun _ z => ⟨_, Option.some.inj z ▸ hdx⟩) (fun _ z => absurd rfl z) (fun _ => ⟨dx, z, y, rfl, hdx, hz, hy⟩) (fun H' t s2 hD => q H' t (sm.trans s2) hD), fun z => nomatch z⟩
end
end TX
namespace TX
open PySem PySem.Spec PyProof.Rows L2
theorem told_ok {n : Int} {d e : PyData} (hd : Fld d) (he : Fld e) : (toldD n d e).showable = true ∧ (toldD n d e).hasDict = false ∧ (toldD n d e).depth ≤ 60 ∧ (toldD n d e).shown.length ≤ sizeLine := by
  have h1 : PyData.showableAll (due n d e) = true ∧ PyData.hasDictAll (due n d e) = false ∧ PyData.depthAll (due n d e) ≤ 2 ∧ PyData.leavesShortAll 1921 (due n d e) = true ∧ PyData.bulkAll (due n d e) ≤ 12 := by
    have a1 := hd.sh
    have a2 := hd.nod
    have a3 := hd.dep
    have a4 := hd.short
    have a5 := hd.blk
    have b1 := he.sh
    have b2 := he.nod
    have b3 := he.dep
    have b4 := he.short
    have b5 := he.blk
    unfold due
    split
    · simp [PyData.showableAll, PyData.hasDictAll, PyData.depthAll, PyData.leavesShortAll, PyData.bulkAll]
    · split
      · simp only [PyData.showableAll, PyData.hasDictAll, PyData.depthAll, PyData.leavesShortAll, PyData.bulkAll, a1, a2, a4, b1, b2, b4, Bool.and_self, Bool.or_self, true_and]
        omega
      · simp only [PyData.showableAll, PyData.hasDictAll, PyData.depthAll, PyData.leavesShortAll, PyData.bulkAll, a1, a2, a4, Bool.and_self, Bool.or_self, true_and]
        omega
  obtain ⟨c1, c2, c3, c4, c5⟩ := h1
  have k : kinds n = [decide ((0 : Int) = n), decide ((1 : Int) = n), decide ((2 : Int) = n), decide ((3 : Int) = n), decide ((4 : Int) = n), decide ((5 : Int) = n), decide ((6 : Int) = n), decide ((7 : Int) = n), decide ((8 : Int) = n), decide ((9 : Int) = n), decide ((10 : Int) = n), decide ((11 : Int) = n), true] := rfl
  have hl : (toldD n d e).leavesShort 1921 = true := by
    simp only [toldD, k, List.map_cons, List.map_nil, PyData.leavesShort, PyData.leavesShortAll, c4, Bool.and_self]
  have hb : (toldD n d e).bulk ≤ 200 := by
    simp only [toldD, k, List.map_cons, List.map_nil, PyData.bulk, PyData.bulkAll]
    omega
  refine ⟨?_, ?_, ?_, ?_⟩
  · simp only [toldD, k, List.map_cons, List.map_nil, PyData.showable, PyData.showableAll, c1, Bool.and_self]
  · simp only [toldD, k, List.map_cons, List.map_nil, PyData.hasDict, PyData.hasDictAll, c2, Bool.or_self]
  · simp only [toldD, k, List.map_cons, List.map_nil, PyData.depth, PyData.depthAll]
    omega
  · have e1 := PyData.shown_le_bulk 1921 (by decide) (toldD n d e) hl
    have e2 : (1921 + 2) * (toldD n d e).bulk ≤ 1923 * 200 := Nat.mul_le_mul_left _ hb
    exact Nat.le_trans e1 (Nat.le_trans (Nat.add_le_add_right e2 _) (by decide))
theorem dec_int (x y : Int) : decide (V.int x = V.int y) = decide (x = y) := by
  by_cases h : x = y
  · rw [decide_eq_true h, decide_eq_true (congrArg V.int h)]
  · rw [decide_eq_false h, decide_eq_false fun e => h (V.int.inj e)]
structure Ml (mg : Str → Option Value) : Prop where
  range : mg "range" = none
  max : mg "max" = none
  min : mg "min" = none
  repr : mg "repr" = none
def spLaw (K : PySem.W.Frag) : Sp := fun vs H Q _ => ∃ (a : Addr) (ns : List Int), vs = [.ref a] ∧ SqL K H a (ns.map V.int) ∧ ns.length ≤ 63 ∧ ∀ H', Q (.bl true) H'
section
variable {P : Program} {w : World} {K : PySem.W.Frag} {mg : Str → Option Value} {base : Heap} {TE : Addr} {Cs Fi : Int → Addr} {Fd : Int → FuncData}
theorem scLaw : FnScope ["_law_script", "_law_at", "_law_bag_here", "_law_number", "_law_one", "_law_two", "_law_due", "_law_kinds", "_law_k"] ["_law_script"] (defScope sLaw) := ⟨rfl, rfl, rfl, by decide +kernel, rfl, by decide +kernel, by decide +kernel⟩
theorem ok_law {f fB fF fT : Addr} {fd fdB fdF fdT : FuncData} (F : Fun K "law" "law" sLaw f fd) (M : Ml mg) (B : Nb mg) (GB : FnOk P w K mg base CX0 1 fB fdB ["_law_script", "_law_at"] (spBag K)) (gB : mg "_law_bag" = some (.ref fB)) (kB : PySem.W.keepIn K (.ref fB) = true) (bB : Binds K fdB ["_law_script", "_law_at"] [])
    (GF : FnOk P w K mg base CX0 2 fF fdF ["_law_bag_here"] (spField K)) (gF : mg "_law_field" = some (.ref fF)) (kF : PySem.W.keepIn K (.ref fF) = true) (bF : Binds K fdF ["_law_bag_here"] [])
    (GT : FnOk P w K mg base CX0 7 fT fdT ["_law_number", "_law_one", "_law_two"] (spTold K)) (gT : mg "_law_told" = some (.ref fT)) (kT : PySem.W.keepIn K (.ref fT) = true) (bT : Binds K fdT ["_law_number", "_law_one", "_law_two"] []) : FnG P w K mg base CX0 8 f fd ["_law_script"] (spLaw K) := by
  refine fng_of F scLaw (fun vs H Q E h => ?_) (fun cdv A outer s H vs Q E hgd hr h => ?_)
  · obtain ⟨a, ns, rfl, _⟩ := h
    rfl
  · obtain ⟨a, ns, rfl, hS, hn, q⟩ := h
    have hu := hr.units
    refine ⟨_, pss_cons (ps_for PassesOwn.never rfl (pi_range1 (by rfl) M.range (pa_cons (pe_callB (call_max2 rfl) (by rfl) M.max (by decide +kernel) (pa_cons pe_int (pa_cons (pe_callB (call_min2 rfl) (by rfl) M.min (by decide +kernel) (pa_cons pe_int (pa_cons (pe_callB call_len_seq (by rfl) B.len PySem.boot_len (pa_cons (pv 0) pa_nil)) pa_nil))) pa_nil))) pa_nil))
        (pg_name (i := 1) scLaw.nd rfl (.inl rfl))
        (pss_cons (ps_set (i := 2) scLaw.nd rfl (.inl rfl) (pe_call GB (hr.mono (by decide)) (by rfl) gB kB bB .nil pass0 (pa_cons (pv 0) (pa_cons (pv 1) pa_nil))))
        (pss_one (ps_for PassesOwn.never rfl (pi_range1 (by rfl) M.range (pa_cons pe_int pa_nil)) (pg_name (i := 3) scLaw.nd rfl (.inr rfl))
          (pss_cons (ps_par (i := 4) (j := 5) rfl scLaw.nd rfl rfl (by decide) rfl rfl (pa_cons (pe_call GF (hr.mono (by decide)) (by rfl) gF kF bF .nil pass0 (pa_cons (pv 2) pa_nil)) (pa_cons (pe_call GF (hr.mono (by decide)) (by rfl) gF kF bF .nil pass0 (pa_cons (pv 2) pa_nil)) pa_nil)) (by rfl))
          (pss_cons (ps_set (i := 6) scLaw.nd rfl (.inl rfl) (pe_op op_cat (pe_lst (pa_cons (pv 4) pa_nil)) (pe_ifExp (pt_cmpR op_eq (pv 3) pe_int (nomark _)) (pe_lst (pa_cons (pv 5) pa_nil)) (pe_lst pa_nil))))
          (pss_cons (ps_if (pt_cmpR op_eq (pv 3) pe_int (nomark _)) (pss_one (ps_set (i := 6) scLaw.nd rfl (.inl rfl) (pe_lst pa_nil))) pss_nil)
          (pss_cons (ps_set (i := 7) scLaw.nd rfl (.inl rfl) (pe_op op_cat (pe_lc (own := [("_law_k", 8)]) (g := gName 8) (tt := tYes) (te := tOp rEq (tVar 8) (tVar 3)) rfl scLaw.nd (pi_range1 (by rfl) M.range (pa_cons pe_int pa_nil))
              (blkOk_by (own := [("_law_k", 8)]) (N := ["_law_script", "_law_at", "_law_bag_here", "_law_number", "_law_one", "_law_two", "_law_due", "_law_kinds", "_law_k"]) (sc := defScope sLaw) (by decide +kernel))
              (fun _ _ _ _ _ => pg_name (i := 8) scLaw.nd rfl (Or.inl rfl)) (fun _ _ _ _ _ => pts_nil) (fun _ _ _ _ _ => pe_cmpR op_eq (pv 8) (pv 3) (nomark _))) (pe_lst (pa_cons pe_bl pa_nil))))
          (pss_one (ps_if (pt_cmpR op_ne (pe_callB (call_repr hgd hu) (by rfl) M.repr (by decide +kernel) (pa_cons (pe_call GT hr (by rfl) gT kT bT .nil pass0 (pa_cons (pv 3) (pa_cons (pv 4) (pa_cons (pv 5) pa_nil)))) pa_nil))
              (pe_callB (call_repr hgd hu) (by rfl) M.repr (by decide +kernel) (pa_cons (pe_tup (pa_cons (pv 7) (pa_cons (pv 6) pa_nil))) pa_nil)) (nomark _)) (pss_one (ps_ret pe_bl)) pss_nil)))))))))) (pss_one (ps_ret pe_bl)), ?_⟩
    refine ⟨_, rfl, a, _, rfl, .inl hS, _, _, rfl, _, _, rfl, _, rfl, ?_, ?_, ?_⟩
    · split <;> (try split) <;> omega
    · split <;> (try split) <;> omega
    refine for_range (lo := 0) (fun i σ H1 => ∃ y1 y2 y3 y4 y5 y6 y7, σ = [some (.ref a), y1, y2, y3, y4, y5, y6, y7, none] ∧ Same H H1) ⟨_, _, _, _, _, _, _, rfl, Same.refl _⟩ ?_ ?_
    · rintro i σ H1 hi ⟨y1, y2, y3, y4, y5, y6, y7, rfl, sm⟩
      have e0 : (0 : Int) + (i : Int) = (i : Int) := by omega
      rw [e0]
      refine ⟨_, rfl, _, rfl, a, ns, i, rfl, sm.seq hS, hn, fun H2 p s2 np bag => ?_⟩
      refine ⟨12, rfl, by decide, by decide, for_range (lo := 0) (n := 12) (fun j σ H3 => ∃ z3 z4 z5 z6 z7, σ = [some (.ref a), some (.int i), some (.ref p), z3, z4, z5, z6, z7, none] ∧ Same H H3 ∧ BagAt H3 p) ⟨_, _, _, _, _, rfl, sm.trans s2, bag⟩ ?_ ?_⟩
      · rintro j σ H3 hj ⟨z3, z4, z5, z6, z7, rfl, s3, bag3⟩
        have e1 : (0 : Int) + (j : Int) = (j : Int) := by omega
        rw [e1]
        obtain ⟨n, hnj⟩ : ∃ n : Int, n = (j : Int) := ⟨_, rfl⟩
        have h0 : 0 ≤ n := by omega
        have h11 : n ≤ 11 := by omega
        rw [← hnj]
        have np0 : H p = none := sm.free np
        refine ⟨_, rfl, p, rfl, bag3, fun H4 v d k4 bag4 hv hfd => ?_⟩
        refine ⟨_, rfl, p, rfl, bag4, fun H5 u e k5 bag5 hu' hfe => ?_⟩
        have mono : Same (del H4 p) (del H5 p) := fun b o eb => by
          by_cases hb : b = p
          · rw [hb, del_same] at eb
            cases eb
          · rw [del_ne hb] at eb ⊢
            exact k5 b o hb eb
        have hv' := dp_same mono _ _ hv
        have s5 : Same H H5 := fun b o eb => k5 b o (ne_of_none eb np0) (k4 b o (ne_of_none eb np0) (s3 b o eb))
        have sv : Same (del H5 p) H5 := fun b o eb => by
          by_cases hb : b = p
          · rw [hb, del_same] at eb
            cases eb
          · rw [del_ne hb] at eb
            exact eb
        refine ⟨v, u, rfl, ?_⟩
        refine ⟨_, rfl, (by show 1 ≤ sizeLine; decide), fun l1 m1 => ⟨_, rfl, rfl, _, rfl, ?_⟩⟩
        by_cases e8 : n = 8
        · refine eqT e8 ?_
          refine ⟨_, rfl, (by show 1 ≤ sizeLine; decide), fun l2 m2 => ⟨l1, l2, [v], [u], rfl, rfl, same_upd m2 _ _ upd_same, upd_same, (by show 1 + 1 ≤ sizeLine; decide), fun l3 m3 => ?_⟩⟩
          have sG : Same H5 (upd (upd (upd H5 l1 (.lst [v])) l2 (.lst [u])) l3 (.lst ([v] ++ [u]))) := ((same_upd m1).trans (same_upd m2)).trans (same_upd m3)
          have hl : (upd (upd (upd H5 l1 (.lst [v])) l2 (.lst [u])) l3 (.lst ([v] ++ [u]))) l3 = some (.lst [v, u]) := upd_same
          generalize upd (upd (upd H5 l1 (.lst [v])) l2 (.lst [u])) l3 (.lst ([v] ++ [u])) = G at sG hl
          have hw : DpAll K (del H5 p) [v, u] (due n d e) := by
            have hd8 : due n d e = [d, e] := by
              unfold due
              rw [if_neg (by omega), if_pos e8]
            rw [hd8]
            exact .cons hv' (.cons hu' .nil)
          refine ⟨_, rfl, rfl, _, rfl, eqF (by omega) ?_⟩
          refine ⟨12, rfl, by decide, by decide, fun D nD => lc_range (lo := 0) (n := 12) (fun k Hk => Hk D = some (.lst ((List.range k).map fun (m : Nat) => V.bl (decide ((0 : Int) + (m : Int) = n)))) ∧ Same G Hk) ?_ ?_ ?_⟩
          · exact ⟨upd_same, same_upd nD⟩
          · rintro k Hk hk ⟨k1, k2⟩
            refine ⟨rfl, _, rfl, _, rfl, rfl, _, k1, Nat.lt_of_le_of_lt (show (List.map (fun (m : Nat) => V.bl (decide ((0 : Int) + (m : Int) = n))) (List.range k)).length ≤ 12 by simp; omega) (by decide), ?_, same_fresh nD k2⟩
            rw [upd_same, dec_int, List.range_succ, List.map_append]
            rfl
          · rintro Hk ⟨k1, k2⟩
            have kd : ((List.range 12).map fun (m : Nat) => V.bl (decide ((0 : Int) + (m : Int) = n))) ++ [V.bl true] = (kinds n).map V.bl := rfl
            refine ⟨(by show 1 ≤ sizeLine; decide), fun lt mt => ⟨D, lt, _, _, rfl, rfl, same_upd mt _ _ k1, upd_same, (by show 12 + 1 ≤ sizeLine; decide), fun lk mk => ?_⟩⟩
            rw [kd]
            have s6 : Same G (upd (upd Hk lt (.lst [.bl true])) lk (.lst ((kinds n).map V.bl))) := (k2.trans (same_upd mt)).trans (same_upd mk)
            have hk6 : (upd (upd Hk lt (.lst [.bl true])) lk (.lst ((kinds n).map V.bl))) lk = some (.lst ((kinds n).map V.bl)) := upd_same
            generalize upd (upd Hk lt (.lst [.bl true])) lk (.lst ((kinds n).map V.bl)) = G6 at s6 hk6
            have s56 : Same H5 G6 := sG.trans s6
            have hl6 : G6 l3 = some (.lst _) := s6 _ _ hl
            obtain ⟨o1, o2, o3, o4⟩ := told_ok (n := n) hfd hfe
            refine ⟨_, rfl, _, rfl, _, rfl, n, v, u, d, e, del H5 p, rfl, h0, h11, sv.trans s56, hv', hu', Nat.le_trans hfd.nd (by decide), Nat.le_trans hfe.nd (by decide), fun H7 t s7 hD => ⟨_, _, rfl, hD, o1, o2, o3, o4, ?_⟩⟩
            refine ⟨_, rfl, _, rfl, (by show 2 ≤ sizeLine; decide), fun t2 m2 => ⟨_, toldD n d e, rfl, ?_, o1, o2, o3, o4, rfl, _, rfl, iteNS rfl ?_⟩⟩
            · have s8 : Same G6 (upd H7 t2 (.tup [.ref lk, .ref l3])) := s7.trans (same_upd m2)
              exact .tup (SqT.of upd_same) (.cons (.lst (SqL.of (s8 _ _ hk6)) (dp_bools _)) (.cons (.lst (SqL.of (s8 _ _ hl6)) (dpAll_same (sv.trans (s56.trans s8)) _ _ hw)) .nil))
            · have s9 : Same H5 (upd H7 t2 (.tup [.ref lk, .ref l3])) := (s56.trans s7).trans (same_upd m2)
              obtain ⟨bx, by_, eb⟩ := bag5
              exact ⟨_, _, _, _, _, rfl, s5.trans s9, bx, by_, s9 _ _ eb⟩
        · refine eqF e8 ?_
          refine ⟨Nat.zero_le _, fun l2 m2 => ⟨l1, l2, [v], [], rfl, rfl, same_upd m2 _ _ upd_same, upd_same, (by show 1 + 0 ≤ sizeLine; decide), fun l3 m3 => ?_⟩⟩
          have sG : Same H5 (upd (upd (upd H5 l1 (.lst [v])) l2 (.lst [])) l3 (.lst ([v] ++ []))) := ((same_upd m1).trans (same_upd m2)).trans (same_upd m3)
          have hl : (upd (upd (upd H5 l1 (.lst [v])) l2 (.lst [])) l3 (.lst ([v] ++ []))) l3 = some (.lst [v]) := upd_same
          generalize upd (upd (upd H5 l1 (.lst [v])) l2 (.lst [])) l3 (.lst ([v] ++ [])) = G at sG hl
          by_cases e2 : n = 2
          · refine ⟨_, rfl, rfl, _, rfl, eqT e2 ?_⟩
            refine ⟨Nat.zero_le _, fun l4 m4 => ?_⟩
            have sG4 : Same H5 (upd G l4 (.lst [])) := sG.trans (same_upd m4)
            have hl4 : (upd G l4 (.lst [])) l4 = some (.lst []) := upd_same
            generalize upd G l4 (.lst []) = G4 at sG4 hl4
            have hw : DpAll K (del H5 p) [] (due n d e) := by
              have hd2 : due n d e = [] := by
                unfold due
                rw [if_pos e2]
              rw [hd2]
              exact .nil
            refine ⟨12, rfl, by decide, by decide, fun D nD => lc_range (lo := 0) (n := 12) (fun k Hk => Hk D = some (.lst ((List.range k).map fun (m : Nat) => V.bl (decide ((0 : Int) + (m : Int) = n)))) ∧ Same G4 Hk) ?_ ?_ ?_⟩
            · exact ⟨upd_same, same_upd nD⟩
            · rintro k Hk hk ⟨k1, k2⟩
              refine ⟨rfl, _, rfl, _, rfl, rfl, _, k1, Nat.lt_of_le_of_lt (show (List.map (fun (m : Nat) => V.bl (decide ((0 : Int) + (m : Int) = n))) (List.range k)).length ≤ 12 by simp; omega) (by decide), ?_, same_fresh nD k2⟩
              rw [upd_same, dec_int, List.range_succ, List.map_append]
              rfl
            · rintro Hk ⟨k1, k2⟩
              have kd : ((List.range 12).map fun (m : Nat) => V.bl (decide ((0 : Int) + (m : Int) = n))) ++ [V.bl true] = (kinds n).map V.bl := rfl
              refine ⟨(by show 1 ≤ sizeLine; decide), fun lt mt => ⟨D, lt, _, _, rfl, rfl, same_upd mt _ _ k1, upd_same, (by show 12 + 1 ≤ sizeLine; decide), fun lk mk => ?_⟩⟩
              rw [kd]
              have s6 : Same G4 (upd (upd Hk lt (.lst [.bl true])) lk (.lst ((kinds n).map V.bl))) := (k2.trans (same_upd mt)).trans (same_upd mk)
              have hk6 : (upd (upd Hk lt (.lst [.bl true])) lk (.lst ((kinds n).map V.bl))) lk = some (.lst ((kinds n).map V.bl)) := upd_same
              generalize upd (upd Hk lt (.lst [.bl true])) lk (.lst ((kinds n).map V.bl)) = G6 at s6 hk6
              have s56 : Same H5 G6 := sG4.trans s6
              have hl6 : G6 l4 = some (.lst _) := s6 _ _ hl4
              obtain ⟨o1, o2, o3, o4⟩ := told_ok (n := n) hfd hfe
              refine ⟨_, rfl, _, rfl, _, rfl, n, v, u, d, e, del H5 p, rfl, h0, h11, sv.trans s56, hv', hu', Nat.le_trans hfd.nd (by decide), Nat.le_trans hfe.nd (by decide), fun H7 t s7 hD => ⟨_, _, rfl, hD, o1, o2, o3, o4, ?_⟩⟩
              refine ⟨_, rfl, _, rfl, (by show 2 ≤ sizeLine; decide), fun t2 m2 => ⟨_, toldD n d e, rfl, ?_, o1, o2, o3, o4, rfl, _, rfl, iteNS rfl ?_⟩⟩
              · have s8 : Same G6 (upd H7 t2 (.tup [.ref lk, .ref l4])) := s7.trans (same_upd m2)
                exact .tup (SqT.of upd_same) (.cons (.lst (SqL.of (s8 _ _ hk6)) (dp_bools _)) (.cons (.lst (SqL.of (s8 _ _ hl6)) (dpAll_same (sv.trans (s56.trans s8)) _ _ hw)) .nil))
              · have s9 : Same H5 (upd H7 t2 (.tup [.ref lk, .ref l4])) := (s56.trans s7).trans (same_upd m2)
                obtain ⟨bx, by_, eb⟩ := bag5
                exact ⟨_, _, _, _, _, rfl, s5.trans s9, bx, by_, s9 _ _ eb⟩
          · refine ⟨_, rfl, rfl, _, rfl, eqF e2 ?_⟩
            have hw : DpAll K (del H5 p) [v] (due n d e) := by
              have hd1 : due n d e = [d] := by
                unfold due
                rw [if_neg e2, if_neg e8]
              rw [hd1]
              exact .cons hv' .nil
            refine ⟨12, rfl, by decide, by decide, fun D nD => lc_range (lo := 0) (n := 12) (fun k Hk => Hk D = some (.lst ((List.range k).map fun (m : Nat) => V.bl (decide ((0 : Int) + (m : Int) = n)))) ∧ Same G Hk) ?_ ?_ ?_⟩
            · exact ⟨upd_same, same_upd nD⟩
            · rintro k Hk hk ⟨k1, k2⟩
              refine ⟨rfl, _, rfl, _, rfl, rfl, _, k1, Nat.lt_of_le_of_lt (show (List.map (fun (m : Nat) => V.bl (decide ((0 : Int) + (m : Int) = n))) (List.range k)).length ≤ 12 by simp; omega) (by decide), ?_, same_fresh nD k2⟩
              rw [upd_same, dec_int, List.range_succ, List.map_append]
              rfl
            · rintro Hk ⟨k1, k2⟩
              have kd : ((List.range 12).map fun (m : Nat) => V.bl (decide ((0 : Int) + (m : Int) = n))) ++ [V.bl true] = (kinds n).map V.bl := rfl
              refine ⟨(by show 1 ≤ sizeLine; decide), fun lt mt => ⟨D, lt, _, _, rfl, rfl, same_upd mt _ _ k1, upd_same, (by show 12 + 1 ≤ sizeLine; decide), fun lk mk => ?_⟩⟩
              rw [kd]
              have s6 : Same G (upd (upd Hk lt (.lst [.bl true])) lk (.lst ((kinds n).map V.bl))) := (k2.trans (same_upd mt)).trans (same_upd mk)
              have hk6 : (upd (upd Hk lt (.lst [.bl true])) lk (.lst ((kinds n).map V.bl))) lk = some (.lst ((kinds n).map V.bl)) := upd_same
              generalize upd (upd Hk lt (.lst [.bl true])) lk (.lst ((kinds n).map V.bl)) = G6 at s6 hk6
              have s56 : Same H5 G6 := sG.trans s6
              have hl6 : G6 l3 = some (.lst _) := s6 _ _ hl
              obtain ⟨o1, o2, o3, o4⟩ := told_ok (n := n) hfd hfe
              refine ⟨_, rfl, _, rfl, _, rfl, n, v, u, d, e, del H5 p, rfl, h0, h11, sv.trans s56, hv', hu', Nat.le_trans hfd.nd (by decide), Nat.le_trans hfe.nd (by decide), fun H7 t s7 hD => ⟨_, _, rfl, hD, o1, o2, o3, o4, ?_⟩⟩
              refine ⟨_, rfl, _, rfl, (by show 2 ≤ sizeLine; decide), fun t2 m2 => ⟨_, toldD n d e, rfl, ?_, o1, o2, o3, o4, rfl, _, rfl, iteNS rfl ?_⟩⟩
              · have s8 : Same G6 (upd H7 t2 (.tup [.ref lk, .ref l3])) := s7.trans (same_upd m2)
                exact .tup (SqT.of upd_same) (.cons (.lst (SqL.of (s8 _ _ hk6)) (dp_bools _)) (.cons (.lst (SqL.of (s8 _ _ hl6)) (dpAll_same (sv.trans (s56.trans s8)) _ _ hw)) .nil))
              · have s9 : Same H5 (upd H7 t2 (.tup [.ref lk, .ref l3])) := (s56.trans s7).trans (same_upd m2)
                obtain ⟨bx, by_, eb⟩ := bag5
                exact ⟨_, _, _, _, _, rfl, s5.trans s9, bx, by_, s9 _ _ eb⟩
      · rintro σ H3 ⟨z3, z4, z5, z6, z7, rfl, s3, _⟩
        exact ⟨_, _, _, _, _, _, _, rfl, s3⟩
    · rintro σ H1 ⟨y1, y2, y3, y4, y5, y6, y7, rfl, sm⟩
      exact q _
end
end TX
namespace TX
open PySem PySem.Spec PyProof.Rows L2
/-- what the top's row of facts says of an error's class -/
theorem cl_of {K : PySem.W.Frag} {mg : Str → Option Value} {TE C : Addr} {x nm q : Str} {N : Addr} {bs : List Value} {sn : List Str} {sub : List Value} {ab : Bool} {col : Option Bool} {dd : Option Addr} {m0 m1 m2 m3 m5 : Option Value}
    (g : mg x = some (.ref C)) (l : K.lookup C = some (excClassObj nm q C N bs [.ref TE, .type "ValueError", .type "Exception", .type "BaseException", .type "object"] true sn sub ab col dd m0 m1 m2 m3 m5 "ValueError.__new__"))
    (sa : PySem.W.findIn K (.ref C) "__setattr__" = some (some (.builtin "object.__setattr__"))) (ga : PySem.W.findIn K (.ref C) "__getattribute__" = some (some (.builtin "BaseException.__getattribute__"))) (gg : PySem.W.findIn K (.ref C) "__getattr__" = some none)
    (ha : PySem.W.findIn K (.ref C) "__class__" = some (some (.builtin "object.__class__"))) (hn : PySem.W.specialIn K (.builtin "object.__class__") "__get__" = some (some (.builtin "getset_descriptor.__get__"))) (ht : PySem.W.takesIn K (.builtin "object.__class__") = some true)
    (kc : PySem.W.keepIn K (.ref C) = true) : Cl K mg TE x C := by
  have hc : ∃ cd, PySem.W.clsIn K C = some cd ∧ cd.mro = [.ref C, .ref TE, .type "ValueError", .type "Exception", .type "BaseException", .type "object"] ∧ cd.hasDict = true := by
    refine ⟨{ name := nm, bases := bs, mro := [.ref C, .ref TE, .type "ValueError", .type "Exception", .type "BaseException", .type "object"], ns := N, qualname := q, hasDict := true, slotNames := sn, subclasses := sub, abstract := ab, collection := col, hasDel := false }, ?_, ?_, ?_⟩
    · unfold PySem.W.clsIn
      rw [l] <;> rfl
    · rfl
    · rfl
  obtain ⟨cd, h1, h2, h3⟩ := hc
  have has : ∀ T : String, PySem.W.mroIn K C (.type T) = some ((Value.type T == Value.type "ValueError") || ((Value.type T == Value.type "Exception") || ((Value.type T == Value.type "BaseException") || ((Value.type T == Value.type "object") || false)))) := by
    intro T
    rw [mro_is h1 h2 rfl]
    have f0 : (Value.type T == Value.ref C) = false := rfl
    have f1 : (Value.type T == Value.ref TE) = false := rfl
    simp only [List.contains_cons, f0, f1, Bool.false_or, List.contains_nil]
  have sB : PySem.W.subIn K (.ref C) (.type "BaseException") = some true := (has "BaseException").trans (by decide +kernel)
  have sO : PySem.W.mroIn K C (.type "object") = some true := (has "object").trans (by decide +kernel)
  have hd : PySem.W.hasDictIn K C = true := by
    unfold PySem.W.hasDictIn
    rw [h1]
    exact h3
  have ty : PySem.W.typeIn K (.ref C) = some (.type "type") := by
    show (K.lookup C).map (·.cls) = _
    rw [l] <;> rfl
  exact ⟨g, ⟨⟨nm, q, N, bs, _, sn, sub, ab, col, dd, m0, m1, m2, m3, m5, l, rfl⟩, sa, sB, ty, kc⟩, ⟨ga, gg, sB, hd, ha, hn, ht, sO⟩, ⟨ga, gg, sB, hd⟩, ty, cd, h1, h2⟩
theorem getD_inj {l : List Addr} {TE : Addr} (h : (TE :: l).Nodup) : (∀ n m : Nat, n < l.length → m < l.length → l.getD n 0 = l.getD m 0 → n = m) ∧ ∀ n : Nat, n < l.length → l.getD n 0 ≠ TE := by
  obtain ⟨h1, h2⟩ := List.nodup_cons.mp h
  have at_ : ∀ n : Nat, (hn : n < l.length) → l.getD n 0 = l[n] := fun n hn => by simp [List.getD, hn]
  refine ⟨fun n m hn hm e => ?_, fun n hn e => ?_⟩
  · rw [at_ n hn, at_ m hm] at e
    exact (List.getElem_inj h2).mp e
  · rw [at_ n hn] at e
    exact h1 (e ▸ List.getElem_mem hn)
theorem all_mk {P : Program} {w : World} {K : PySem.W.Frag} {h : Heap} {mg : Str → Option Value} {fa TE f0 f1 f2 f3 f4 f5 f6 f7 f8 C0 fI0 C1 fI1 C2 fI2 C3 fI3 C4 fI4 C5 fI5 C6 fI6 C7 fI7 C8 fI8 C9 fI9 C10 fI10 C11 fI11 : Addr} (X : K.In h) (G : h.Ns mainGlobals mg) (hfa : mg "law" = some (.ref fa))
    {od0 an0 : Option Addr} {sl0 : Array (Option Value)} {oc0 kV0 dc0 pm0 cd0 ct0 : Value}
    {od1 an1 : Option Addr} {sl1 : Array (Option Value)} {oc1 kV1 dc1 pm1 cd1 ct1 : Value}
    {od2 an2 : Option Addr} {sl2 : Array (Option Value)} {oc2 kV2 dc2 pm2 cd2 ct2 : Value}
    {od3 an3 : Option Addr} {sl3 : Array (Option Value)} {oc3 kV3 dc3 pm3 cd3 ct3 : Value}
    {od4 an4 : Option Addr} {sl4 : Array (Option Value)} {oc4 kV4 dc4 pm4 cd4 ct4 : Value}
    {od5 an5 : Option Addr} {sl5 : Array (Option Value)} {oc5 kV5 dc5 pm5 cd5 ct5 : Value}
    {od6 an6 : Option Addr} {sl6 : Array (Option Value)} {oc6 kV6 dc6 pm6 cd6 ct6 : Value}
    {od7 an7 : Option Addr} {sl7 : Array (Option Value)} {oc7 kV7 dc7 pm7 cd7 ct7 : Value}
    {od8 an8 : Option Addr} {sl8 : Array (Option Value)} {oc8 kV8 dc8 pm8 cd8 ct8 : Value}
    {nm0 q0 : Str} {N0 : Addr} {bs0 : List Value} {sn0 : List Str} {sub0 : List Value} {ab0 : Bool} {col0 : Option Bool} {dd0 : Option Addr} {m00 m10 m20 m30 m50 : Option Value}
    {odI0 anI0 : Option Addr} {slI0 : Array (Option Value)} {ocI0 kVI0 dcI0 pmI0 cdI0 ctI0 : Value}
    {nm1 q1 : Str} {N1 : Addr} {bs1 : List Value} {sn1 : List Str} {sub1 : List Value} {ab1 : Bool} {col1 : Option Bool} {dd1 : Option Addr} {m01 m11 m21 m31 m51 : Option Value}
    {odI1 anI1 : Option Addr} {slI1 : Array (Option Value)} {ocI1 kVI1 dcI1 pmI1 cdI1 ctI1 : Value}
    {nm2 q2 : Str} {N2 : Addr} {bs2 : List Value} {sn2 : List Str} {sub2 : List Value} {ab2 : Bool} {col2 : Option Bool} {dd2 : Option Addr} {m02 m12 m22 m32 m52 : Option Value}
    {odI2 anI2 : Option Addr} {slI2 : Array (Option Value)} {ocI2 kVI2 dcI2 pmI2 cdI2 ctI2 : Value}
    {nm3 q3 : Str} {N3 : Addr} {bs3 : List Value} {sn3 : List Str} {sub3 : List Value} {ab3 : Bool} {col3 : Option Bool} {dd3 : Option Addr} {m03 m13 m23 m33 m53 : Option Value}
    {odI3 anI3 : Option Addr} {slI3 : Array (Option Value)} {ocI3 kVI3 dcI3 pmI3 cdI3 ctI3 : Value}
    {nm4 q4 : Str} {N4 : Addr} {bs4 : List Value} {sn4 : List Str} {sub4 : List Value} {ab4 : Bool} {col4 : Option Bool} {dd4 : Option Addr} {m04 m14 m24 m34 m54 : Option Value}
    {odI4 anI4 : Option Addr} {slI4 : Array (Option Value)} {ocI4 kVI4 dcI4 pmI4 cdI4 ctI4 : Value}
    {nm5 q5 : Str} {N5 : Addr} {bs5 : List Value} {sn5 : List Str} {sub5 : List Value} {ab5 : Bool} {col5 : Option Bool} {dd5 : Option Addr} {m05 m15 m25 m35 m55 : Option Value}
    {odI5 anI5 : Option Addr} {slI5 : Array (Option Value)} {ocI5 kVI5 dcI5 pmI5 cdI5 ctI5 : Value}
    {nm6 q6 : Str} {N6 : Addr} {bs6 : List Value} {sn6 : List Str} {sub6 : List Value} {ab6 : Bool} {col6 : Option Bool} {dd6 : Option Addr} {m06 m16 m26 m36 m56 : Option Value}
    {odI6 anI6 : Option Addr} {slI6 : Array (Option Value)} {ocI6 kVI6 dcI6 pmI6 cdI6 ctI6 : Value}
    {nm7 q7 : Str} {N7 : Addr} {bs7 : List Value} {sn7 : List Str} {sub7 : List Value} {ab7 : Bool} {col7 : Option Bool} {dd7 : Option Addr} {m07 m17 m27 m37 m57 : Option Value}
    {odI7 anI7 : Option Addr} {slI7 : Array (Option Value)} {ocI7 kVI7 dcI7 pmI7 cdI7 ctI7 : Value}
    {nm8 q8 : Str} {N8 : Addr} {bs8 : List Value} {sn8 : List Str} {sub8 : List Value} {ab8 : Bool} {col8 : Option Bool} {dd8 : Option Addr} {m08 m18 m28 m38 m58 : Option Value}
    {odI8 anI8 : Option Addr} {slI8 : Array (Option Value)} {ocI8 kVI8 dcI8 pmI8 cdI8 ctI8 : Value}
    {nm9 q9 : Str} {N9 : Addr} {bs9 : List Value} {sn9 : List Str} {sub9 : List Value} {ab9 : Bool} {col9 : Option Bool} {dd9 : Option Addr} {m09 m19 m29 m39 m59 : Option Value}
    {odI9 anI9 : Option Addr} {slI9 : Array (Option Value)} {ocI9 kVI9 dcI9 pmI9 cdI9 ctI9 : Value}
    {nm10 q10 : Str} {N10 : Addr} {bs10 : List Value} {sn10 : List Str} {sub10 : List Value} {ab10 : Bool} {col10 : Option Bool} {dd10 : Option Addr} {m010 m110 m210 m310 m510 : Option Value}
    {odI10 anI10 : Option Addr} {slI10 : Array (Option Value)} {ocI10 kVI10 dcI10 pmI10 cdI10 ctI10 : Value}
    {nm11 q11 : Str} {N11 : Addr} {bs11 : List Value} {sn11 : List Str} {sub11 : List Value} {ab11 : Bool} {col11 : Option Bool} {dd11 : Option Addr} {m011 m111 m211 m311 m511 : Option Value}
    {odI11 anI11 : Option Addr} {slI11 : Array (Option Value)} {ocI11 kVI11 dcI11 pmI11 cdI11 ctI11 : Value}
    (a0 : PySem.W.nsIn K mainGlobals "all_parts" = some (some (.ref f0)))
    (l0 : K.lookup f0 = some ⟨oc0, od0, .func (PySem.W.fnOf "all_parts" "all_parts" (defArgs sParts) (defBody sParts) (defScope sParts) .none kV0 dc0 pm0 an0 cd0 ct0), sl0⟩)
    (c0 : PySem.W.codeIn K cd0 "all_parts" = true)
    (k0 : PySem.W.keepIn K (.ref f0) = true)
    (a1 : PySem.W.nsIn K mainGlobals "copy_of" = some (some (.ref f1)))
    (l1 : K.lookup f1 = some ⟨oc1, od1, .func (PySem.W.fnOf "copy_of" "copy_of" (defArgs sCopy) (defBody sCopy) (defScope sCopy) .none kV1 dc1 pm1 an1 cd1 ct1), sl1⟩)
    (c1 : PySem.W.codeIn K cd1 "copy_of" = true)
    (k1 : PySem.W.keepIn K (.ref f1) = true)
    (a2 : PySem.W.nsIn K mainGlobals "_law_bag" = some (some (.ref f2)))
    (l2 : K.lookup f2 = some ⟨oc2, od2, .func (PySem.W.fnOf "_law_bag" "_law_bag" (defArgs sBag) (defBody sBag) (defScope sBag) .none kV2 dc2 pm2 an2 cd2 ct2), sl2⟩)
    (c2 : PySem.W.codeIn K cd2 "_law_bag" = true)
    (k2 : PySem.W.keepIn K (.ref f2) = true)
    (a3 : PySem.W.nsIn K mainGlobals "_law_take" = some (some (.ref f3)))
    (l3 : K.lookup f3 = some ⟨oc3, od3, .func (PySem.W.fnOf "_law_take" "_law_take" (defArgs sTake) (defBody sTake) (defScope sTake) .none kV3 dc3 pm3 an3 cd3 ct3), sl3⟩)
    (c3 : PySem.W.codeIn K cd3 "_law_take" = true)
    (k3 : PySem.W.keepIn K (.ref f3) = true)
    (a4 : PySem.W.nsIn K mainGlobals "_law_field" = some (some (.ref f4)))
    (l4 : K.lookup f4 = some ⟨oc4, od4, .func (PySem.W.fnOf "_law_field" "_law_field" (defArgs sField) (defBody sField) (defScope sField) .none kV4 dc4 pm4 an4 cd4 ct4), sl4⟩)
    (c4 : PySem.W.codeIn K cd4 "_law_field" = true)
    (k4 : PySem.W.keepIn K (.ref f4) = true)
    (a5 : PySem.W.nsIn K mainGlobals "_law_early" = some (some (.ref f5)))
    (l5 : K.lookup f5 = some ⟨oc5, od5, .func (PySem.W.fnOf "_law_early" "_law_early" (defArgs sEarly) (defBody sEarly) (defScope sEarly) .none kV5 dc5 pm5 an5 cd5 ct5), sl5⟩)
    (c5 : PySem.W.codeIn K cd5 "_law_early" = true)
    (k5 : PySem.W.keepIn K (.ref f5) = true)
    (a6 : PySem.W.nsIn K mainGlobals "_law_raise" = some (some (.ref f6)))
    (l6 : K.lookup f6 = some ⟨oc6, od6, .func (PySem.W.fnOf "_law_raise" "_law_raise" (defArgs sRaise) (defBody sRaise) (defScope sRaise) .none kV6 dc6 pm6 an6 cd6 ct6), sl6⟩)
    (c6 : PySem.W.codeIn K cd6 "_law_raise" = true)
    (k6 : PySem.W.keepIn K (.ref f6) = true)
    (a7 : PySem.W.nsIn K mainGlobals "_law_told" = some (some (.ref f7)))
    (l7 : K.lookup f7 = some ⟨oc7, od7, .func (PySem.W.fnOf "_law_told" "_law_told" (defArgs sTold) (defBody sTold) (defScope sTold) .none kV7 dc7 pm7 an7 cd7 ct7), sl7⟩)
    (c7 : PySem.W.codeIn K cd7 "_law_told" = true)
    (k7 : PySem.W.keepIn K (.ref f7) = true)
    (a8 : PySem.W.nsIn K mainGlobals "law" = some (some (.ref f8)))
    (l8 : K.lookup f8 = some ⟨oc8, od8, .func (PySem.W.fnOf "law" "law" (defArgs sLaw) (defBody sLaw) (defScope sLaw) .none kV8 dc8 pm8 an8 cd8 ct8), sl8⟩)
    (c8 : PySem.W.codeIn K cd8 "law" = true)
    (k8 : PySem.W.keepIn K (.ref f8) = true)
    (aTE : PySem.W.nsIn K mainGlobals "TextorlistError" = some (some (.ref TE)))
    (sTE : PySem.W.subIn K (.ref TE) (.type "BaseException") = some true)
    (hTE : PySem.W.hasDictIn K TE = true)
    (tTE : PySem.W.typeIn K (.ref TE) = some (.type "type"))
    (hn : PySem.W.specialIn K (.builtin "object.__class__") "__get__" = some (some (.builtin "getset_descriptor.__get__")))
    (ht : PySem.W.takesIn K (.builtin "object.__class__") = some true)
    (aC0 : PySem.W.nsIn K mainGlobals "BadValue" = some (some (.ref C0)))
    (x0 : K.lookup C0 = some (excClassObj nm0 q0 C0 N0 bs0 [.ref TE, .type "ValueError", .type "Exception", .type "BaseException", .type "object"] true sn0 sub0 ab0 col0 dd0 m00 m10 m20 m30 m50 "ValueError.__new__"))
    (sa0 : PySem.W.findIn K (.ref C0) "__setattr__" = some (some (.builtin "object.__setattr__")))
    (ga0 : PySem.W.findIn K (.ref C0) "__getattribute__" = some (some (.builtin "BaseException.__getattribute__")))
    (gg0 : PySem.W.findIn K (.ref C0) "__getattr__" = some none)
    (ha0 : PySem.W.findIn K (.ref C0) "__class__" = some (some (.builtin "object.__class__")))
    (kc0 : PySem.W.keepIn K (.ref C0) = true)
    (aI0 : PySem.W.findIn K (.ref C0) "__init__" = some (some (.ref fI0)))
    (lI0 : K.lookup fI0 = some ⟨ocI0, odI0, .func (PySem.W.fnOf "__init__" "BadValue.__init__" (defArgs (inClass (top 5) 0)) (defBody (inClass (top 5) 0)) (defScope (inClass (top 5) 0)) .none kVI0 dcI0 pmI0 anI0 cdI0 ctI0), slI0⟩)
    (cI0 : PySem.W.codeIn K cdI0 "BadValue.__init__" = true)
    (kI0 : PySem.W.keepIn K (.ref fI0) = true)
    (ti0 : PySem.W.typeIn K (.ref fI0) = some (.type "function"))
    (no0place : PySem.W.findIn K (.ref C0) "place" = some none)
    (aC1 : PySem.W.nsIn K mainGlobals "NoPlace" = some (some (.ref C1)))
    (x1 : K.lookup C1 = some (excClassObj nm1 q1 C1 N1 bs1 [.ref TE, .type "ValueError", .type "Exception", .type "BaseException", .type "object"] true sn1 sub1 ab1 col1 dd1 m01 m11 m21 m31 m51 "ValueError.__new__"))
    (sa1 : PySem.W.findIn K (.ref C1) "__setattr__" = some (some (.builtin "object.__setattr__")))
    (ga1 : PySem.W.findIn K (.ref C1) "__getattribute__" = some (some (.builtin "BaseException.__getattribute__")))
    (gg1 : PySem.W.findIn K (.ref C1) "__getattr__" = some none)
    (ha1 : PySem.W.findIn K (.ref C1) "__class__" = some (some (.builtin "object.__class__")))
    (kc1 : PySem.W.keepIn K (.ref C1) = true)
    (aI1 : PySem.W.findIn K (.ref C1) "__init__" = some (some (.ref fI1)))
    (lI1 : K.lookup fI1 = some ⟨ocI1, odI1, .func (PySem.W.fnOf "__init__" "NoPlace.__init__" (defArgs (inClass (top 6) 0)) (defBody (inClass (top 6) 0)) (defScope (inClass (top 6) 0)) .none kVI1 dcI1 pmI1 anI1 cdI1 ctI1), slI1⟩)
    (cI1 : PySem.W.codeIn K cdI1 "NoPlace.__init__" = true)
    (kI1 : PySem.W.keepIn K (.ref fI1) = true)
    (ti1 : PySem.W.typeIn K (.ref fI1) = some (.type "function"))
    (no1place : PySem.W.findIn K (.ref C1) "place" = some none)
    (aC2 : PySem.W.nsIn K mainGlobals "NoItems" = some (some (.ref C2)))
    (x2 : K.lookup C2 = some (excClassObj nm2 q2 C2 N2 bs2 [.ref TE, .type "ValueError", .type "Exception", .type "BaseException", .type "object"] true sn2 sub2 ab2 col2 dd2 m02 m12 m22 m32 m52 "ValueError.__new__"))
    (sa2 : PySem.W.findIn K (.ref C2) "__setattr__" = some (some (.builtin "object.__setattr__")))
    (ga2 : PySem.W.findIn K (.ref C2) "__getattribute__" = some (some (.builtin "BaseException.__getattribute__")))
    (gg2 : PySem.W.findIn K (.ref C2) "__getattr__" = some none)
    (ha2 : PySem.W.findIn K (.ref C2) "__class__" = some (some (.builtin "object.__class__")))
    (kc2 : PySem.W.keepIn K (.ref C2) = true)
    (aI2 : PySem.W.findIn K (.ref C2) "__init__" = some (some (.ref fI2)))
    (lI2 : K.lookup fI2 = some ⟨ocI2, odI2, .func (PySem.W.fnOf "__init__" "NoItems.__init__" (defArgs (inClass (top 7) 0)) (defBody (inClass (top 7) 0)) (defScope (inClass (top 7) 0)) .none kVI2 dcI2 pmI2 anI2 cdI2 ctI2), slI2⟩)
    (cI2 : PySem.W.codeIn K cdI2 "NoItems.__init__" = true)
    (kI2 : PySem.W.keepIn K (.ref fI2) = true)
    (ti2 : PySem.W.typeIn K (.ref fI2) = some (.type "function"))
    (aC3 : PySem.W.nsIn K mainGlobals "NoEntry" = some (some (.ref C3)))
    (x3 : K.lookup C3 = some (excClassObj nm3 q3 C3 N3 bs3 [.ref TE, .type "ValueError", .type "Exception", .type "BaseException", .type "object"] true sn3 sub3 ab3 col3 dd3 m03 m13 m23 m33 m53 "ValueError.__new__"))
    (sa3 : PySem.W.findIn K (.ref C3) "__setattr__" = some (some (.builtin "object.__setattr__")))
    (ga3 : PySem.W.findIn K (.ref C3) "__getattribute__" = some (some (.builtin "BaseException.__getattribute__")))
    (gg3 : PySem.W.findIn K (.ref C3) "__getattr__" = some none)
    (ha3 : PySem.W.findIn K (.ref C3) "__class__" = some (some (.builtin "object.__class__")))
    (kc3 : PySem.W.keepIn K (.ref C3) = true)
    (aI3 : PySem.W.findIn K (.ref C3) "__init__" = some (some (.ref fI3)))
    (lI3 : K.lookup fI3 = some ⟨ocI3, odI3, .func (PySem.W.fnOf "__init__" "NoEntry.__init__" (defArgs (inClass (top 8) 0)) (defBody (inClass (top 8) 0)) (defScope (inClass (top 8) 0)) .none kVI3 dcI3 pmI3 anI3 cdI3 ctI3), slI3⟩)
    (cI3 : PySem.W.codeIn K cdI3 "NoEntry.__init__" = true)
    (kI3 : PySem.W.keepIn K (.ref fI3) = true)
    (ti3 : PySem.W.typeIn K (.ref fI3) = some (.type "function"))
    (no3at : PySem.W.findIn K (.ref C3) "at" = some none)
    (aC4 : PySem.W.nsIn K mainGlobals "NotText" = some (some (.ref C4)))
    (x4 : K.lookup C4 = some (excClassObj nm4 q4 C4 N4 bs4 [.ref TE, .type "ValueError", .type "Exception", .type "BaseException", .type "object"] true sn4 sub4 ab4 col4 dd4 m04 m14 m24 m34 m54 "ValueError.__new__"))
    (sa4 : PySem.W.findIn K (.ref C4) "__setattr__" = some (some (.builtin "object.__setattr__")))
    (ga4 : PySem.W.findIn K (.ref C4) "__getattribute__" = some (some (.builtin "BaseException.__getattribute__")))
    (gg4 : PySem.W.findIn K (.ref C4) "__getattr__" = some none)
    (ha4 : PySem.W.findIn K (.ref C4) "__class__" = some (some (.builtin "object.__class__")))
    (kc4 : PySem.W.keepIn K (.ref C4) = true)
    (aI4 : PySem.W.findIn K (.ref C4) "__init__" = some (some (.ref fI4)))
    (lI4 : K.lookup fI4 = some ⟨ocI4, odI4, .func (PySem.W.fnOf "__init__" "NotText.__init__" (defArgs (inClass (top 9) 0)) (defBody (inClass (top 9) 0)) (defScope (inClass (top 9) 0)) .none kVI4 dcI4 pmI4 anI4 cdI4 ctI4), slI4⟩)
    (cI4 : PySem.W.codeIn K cdI4 "NotText.__init__" = true)
    (kI4 : PySem.W.keepIn K (.ref fI4) = true)
    (ti4 : PySem.W.typeIn K (.ref fI4) = some (.type "function"))
    (no4at : PySem.W.findIn K (.ref C4) "at" = some none)
    (aC5 : PySem.W.nsIn K mainGlobals "BadProgram" = some (some (.ref C5)))
    (x5 : K.lookup C5 = some (excClassObj nm5 q5 C5 N5 bs5 [.ref TE, .type "ValueError", .type "Exception", .type "BaseException", .type "object"] true sn5 sub5 ab5 col5 dd5 m05 m15 m25 m35 m55 "ValueError.__new__"))
    (sa5 : PySem.W.findIn K (.ref C5) "__setattr__" = some (some (.builtin "object.__setattr__")))
    (ga5 : PySem.W.findIn K (.ref C5) "__getattribute__" = some (some (.builtin "BaseException.__getattribute__")))
    (gg5 : PySem.W.findIn K (.ref C5) "__getattr__" = some none)
    (ha5 : PySem.W.findIn K (.ref C5) "__class__" = some (some (.builtin "object.__class__")))
    (kc5 : PySem.W.keepIn K (.ref C5) = true)
    (aI5 : PySem.W.findIn K (.ref C5) "__init__" = some (some (.ref fI5)))
    (lI5 : K.lookup fI5 = some ⟨ocI5, odI5, .func (PySem.W.fnOf "__init__" "BadProgram.__init__" (defArgs (inClass (top 10) 0)) (defBody (inClass (top 10) 0)) (defScope (inClass (top 10) 0)) .none kVI5 dcI5 pmI5 anI5 cdI5 ctI5), slI5⟩)
    (cI5 : PySem.W.codeIn K cdI5 "BadProgram.__init__" = true)
    (kI5 : PySem.W.keepIn K (.ref fI5) = true)
    (ti5 : PySem.W.typeIn K (.ref fI5) = some (.type "function"))
    (no5line : PySem.W.findIn K (.ref C5) "line" = some none)
    (aC6 : PySem.W.nsIn K mainGlobals "TooMany" = some (some (.ref C6)))
    (x6 : K.lookup C6 = some (excClassObj nm6 q6 C6 N6 bs6 [.ref TE, .type "ValueError", .type "Exception", .type "BaseException", .type "object"] true sn6 sub6 ab6 col6 dd6 m06 m16 m26 m36 m56 "ValueError.__new__"))
    (sa6 : PySem.W.findIn K (.ref C6) "__setattr__" = some (some (.builtin "object.__setattr__")))
    (ga6 : PySem.W.findIn K (.ref C6) "__getattribute__" = some (some (.builtin "BaseException.__getattribute__")))
    (gg6 : PySem.W.findIn K (.ref C6) "__getattr__" = some none)
    (ha6 : PySem.W.findIn K (.ref C6) "__class__" = some (some (.builtin "object.__class__")))
    (kc6 : PySem.W.keepIn K (.ref C6) = true)
    (aI6 : PySem.W.findIn K (.ref C6) "__init__" = some (some (.ref fI6)))
    (lI6 : K.lookup fI6 = some ⟨ocI6, odI6, .func (PySem.W.fnOf "__init__" "TooMany.__init__" (defArgs (inClass (top 11) 0)) (defBody (inClass (top 11) 0)) (defScope (inClass (top 11) 0)) .none kVI6 dcI6 pmI6 anI6 cdI6 ctI6), slI6⟩)
    (cI6 : PySem.W.codeIn K cdI6 "TooMany.__init__" = true)
    (kI6 : PySem.W.keepIn K (.ref fI6) = true)
    (ti6 : PySem.W.typeIn K (.ref fI6) = some (.type "function"))
    (no6what : PySem.W.findIn K (.ref C6) "what" = some none)
    (aC7 : PySem.W.nsIn K mainGlobals "NoFunction" = some (some (.ref C7)))
    (x7 : K.lookup C7 = some (excClassObj nm7 q7 C7 N7 bs7 [.ref TE, .type "ValueError", .type "Exception", .type "BaseException", .type "object"] true sn7 sub7 ab7 col7 dd7 m07 m17 m27 m37 m57 "ValueError.__new__"))
    (sa7 : PySem.W.findIn K (.ref C7) "__setattr__" = some (some (.builtin "object.__setattr__")))
    (ga7 : PySem.W.findIn K (.ref C7) "__getattribute__" = some (some (.builtin "BaseException.__getattribute__")))
    (gg7 : PySem.W.findIn K (.ref C7) "__getattr__" = some none)
    (ha7 : PySem.W.findIn K (.ref C7) "__class__" = some (some (.builtin "object.__class__")))
    (kc7 : PySem.W.keepIn K (.ref C7) = true)
    (aI7 : PySem.W.findIn K (.ref C7) "__init__" = some (some (.ref fI7)))
    (lI7 : K.lookup fI7 = some ⟨ocI7, odI7, .func (PySem.W.fnOf "__init__" "NoFunction.__init__" (defArgs (inClass (top 12) 0)) (defBody (inClass (top 12) 0)) (defScope (inClass (top 12) 0)) .none kVI7 dcI7 pmI7 anI7 cdI7 ctI7), slI7⟩)
    (cI7 : PySem.W.codeIn K cdI7 "NoFunction.__init__" = true)
    (kI7 : PySem.W.keepIn K (.ref fI7) = true)
    (ti7 : PySem.W.typeIn K (.ref fI7) = some (.type "function"))
    (no7name : PySem.W.findIn K (.ref C7) "name" = some none)
    (aC8 : PySem.W.nsIn K mainGlobals "Stopped" = some (some (.ref C8)))
    (x8 : K.lookup C8 = some (excClassObj nm8 q8 C8 N8 bs8 [.ref TE, .type "ValueError", .type "Exception", .type "BaseException", .type "object"] true sn8 sub8 ab8 col8 dd8 m08 m18 m28 m38 m58 "ValueError.__new__"))
    (sa8 : PySem.W.findIn K (.ref C8) "__setattr__" = some (some (.builtin "object.__setattr__")))
    (ga8 : PySem.W.findIn K (.ref C8) "__getattribute__" = some (some (.builtin "BaseException.__getattribute__")))
    (gg8 : PySem.W.findIn K (.ref C8) "__getattr__" = some none)
    (ha8 : PySem.W.findIn K (.ref C8) "__class__" = some (some (.builtin "object.__class__")))
    (kc8 : PySem.W.keepIn K (.ref C8) = true)
    (aI8 : PySem.W.findIn K (.ref C8) "__init__" = some (some (.ref fI8)))
    (lI8 : K.lookup fI8 = some ⟨ocI8, odI8, .func (PySem.W.fnOf "__init__" "Stopped.__init__" (defArgs (inClass (top 13) 0)) (defBody (inClass (top 13) 0)) (defScope (inClass (top 13) 0)) .none kVI8 dcI8 pmI8 anI8 cdI8 ctI8), slI8⟩)
    (cI8 : PySem.W.codeIn K cdI8 "Stopped.__init__" = true)
    (kI8 : PySem.W.keepIn K (.ref fI8) = true)
    (ti8 : PySem.W.typeIn K (.ref fI8) = some (.type "function"))
    (no8way : PySem.W.findIn K (.ref C8) "way" = some none)
    (no8line : PySem.W.findIn K (.ref C8) "line" = some none)
    (aC9 : PySem.W.nsIn K mainGlobals "NoTaker" = some (some (.ref C9)))
    (x9 : K.lookup C9 = some (excClassObj nm9 q9 C9 N9 bs9 [.ref TE, .type "ValueError", .type "Exception", .type "BaseException", .type "object"] true sn9 sub9 ab9 col9 dd9 m09 m19 m29 m39 m59 "ValueError.__new__"))
    (sa9 : PySem.W.findIn K (.ref C9) "__setattr__" = some (some (.builtin "object.__setattr__")))
    (ga9 : PySem.W.findIn K (.ref C9) "__getattribute__" = some (some (.builtin "BaseException.__getattribute__")))
    (gg9 : PySem.W.findIn K (.ref C9) "__getattr__" = some none)
    (ha9 : PySem.W.findIn K (.ref C9) "__class__" = some (some (.builtin "object.__class__")))
    (kc9 : PySem.W.keepIn K (.ref C9) = true)
    (aI9 : PySem.W.findIn K (.ref C9) "__init__" = some (some (.ref fI9)))
    (lI9 : K.lookup fI9 = some ⟨ocI9, odI9, .func (PySem.W.fnOf "__init__" "NoTaker.__init__" (defArgs (inClass (top 14) 0)) (defBody (inClass (top 14) 0)) (defScope (inClass (top 14) 0)) .none kVI9 dcI9 pmI9 anI9 cdI9 ctI9), slI9⟩)
    (cI9 : PySem.W.codeIn K cdI9 "NoTaker.__init__" = true)
    (kI9 : PySem.W.keepIn K (.ref fI9) = true)
    (ti9 : PySem.W.typeIn K (.ref fI9) = some (.type "function"))
    (no9name : PySem.W.findIn K (.ref C9) "name" = some none)
    (aC10 : PySem.W.nsIn K mainGlobals "BadFate" = some (some (.ref C10)))
    (x10 : K.lookup C10 = some (excClassObj nm10 q10 C10 N10 bs10 [.ref TE, .type "ValueError", .type "Exception", .type "BaseException", .type "object"] true sn10 sub10 ab10 col10 dd10 m010 m110 m210 m310 m510 "ValueError.__new__"))
    (sa10 : PySem.W.findIn K (.ref C10) "__setattr__" = some (some (.builtin "object.__setattr__")))
    (ga10 : PySem.W.findIn K (.ref C10) "__getattribute__" = some (some (.builtin "BaseException.__getattribute__")))
    (gg10 : PySem.W.findIn K (.ref C10) "__getattr__" = some none)
    (ha10 : PySem.W.findIn K (.ref C10) "__class__" = some (some (.builtin "object.__class__")))
    (kc10 : PySem.W.keepIn K (.ref C10) = true)
    (aI10 : PySem.W.findIn K (.ref C10) "__init__" = some (some (.ref fI10)))
    (lI10 : K.lookup fI10 = some ⟨ocI10, odI10, .func (PySem.W.fnOf "__init__" "BadFate.__init__" (defArgs (inClass (top 15) 0)) (defBody (inClass (top 15) 0)) (defScope (inClass (top 15) 0)) .none kVI10 dcI10 pmI10 anI10 cdI10 ctI10), slI10⟩)
    (cI10 : PySem.W.codeIn K cdI10 "BadFate.__init__" = true)
    (kI10 : PySem.W.keepIn K (.ref fI10) = true)
    (ti10 : PySem.W.typeIn K (.ref fI10) = some (.type "function"))
    (no10at : PySem.W.findIn K (.ref C10) "at" = some none)
    (aC11 : PySem.W.nsIn K mainGlobals "BadSpot" = some (some (.ref C11)))
    (x11 : K.lookup C11 = some (excClassObj nm11 q11 C11 N11 bs11 [.ref TE, .type "ValueError", .type "Exception", .type "BaseException", .type "object"] true sn11 sub11 ab11 col11 dd11 m011 m111 m211 m311 m511 "ValueError.__new__"))
    (sa11 : PySem.W.findIn K (.ref C11) "__setattr__" = some (some (.builtin "object.__setattr__")))
    (ga11 : PySem.W.findIn K (.ref C11) "__getattribute__" = some (some (.builtin "BaseException.__getattribute__")))
    (gg11 : PySem.W.findIn K (.ref C11) "__getattr__" = some none)
    (ha11 : PySem.W.findIn K (.ref C11) "__class__" = some (some (.builtin "object.__class__")))
    (kc11 : PySem.W.keepIn K (.ref C11) = true)
    (aI11 : PySem.W.findIn K (.ref C11) "__init__" = some (some (.ref fI11)))
    (lI11 : K.lookup fI11 = some ⟨ocI11, odI11, .func (PySem.W.fnOf "__init__" "BadSpot.__init__" (defArgs (inClass (top 16) 0)) (defBody (inClass (top 16) 0)) (defScope (inClass (top 16) 0)) .none kVI11 dcI11 pmI11 anI11 cdI11 ctI11), slI11⟩)
    (cI11 : PySem.W.codeIn K cdI11 "BadSpot.__init__" = true)
    (kI11 : PySem.W.keepIn K (.ref fI11) = true)
    (ti11 : PySem.W.typeIn K (.ref fI11) = some (.type "function"))
    (no11spot : PySem.W.findIn K (.ref C11) "spot" = some none)
    (zisinstance : PySem.W.nsIn K mainGlobals "isinstance" = some none)
    (zlist : PySem.W.nsIn K mainGlobals "list" = some none)
    (ztuple : PySem.W.nsIn K mainGlobals "tuple" = some none)
    (zlen : PySem.W.nsIn K mainGlobals "len" = some none)
    (zabs : PySem.W.nsIn K mainGlobals "abs" = some none)
    (zenumerate : PySem.W.nsIn K mainGlobals "enumerate" = some none)
    (zint : PySem.W.nsIn K mainGlobals "int" = some none)
    (zrange : PySem.W.nsIn K mainGlobals "range" = some none)
    (zmax : PySem.W.nsIn K mainGlobals "max" = some none)
    (zmin : PySem.W.nsIn K mainGlobals "min" = some none)
    (zrepr : PySem.W.nsIn K mainGlobals "repr" = some none)
    (zValueError : PySem.W.nsIn K mainGlobals "ValueError" = some none)
    (nod : (TE :: ([C0, C1, C2, C3, C4, C5, C6, C7, C8, C9, C10, C11] : List Addr)).Nodup) :
    ∃ fd : FuncData, (∀ (s : Shared) (v : Value), BindsTo s fd ⟨[v], []⟩ [("_law_script", v)]) ∧ ∀ base : Heap, K.In base → base.Ns mainGlobals mg → FnG P w K mg base CX0 8 fa fd ["_law_script"] (spLaw K) := by
  have e := hfa.symm.trans (PySem.W.mg_of X G a8)
  cases e
  have F0 := fun_mk (st := sParts) l0 c0 k0
  have F1 := fun_mk (st := sCopy) l1 c1 k1
  have F2 := fun_mk (st := sBag) l2 c2 k2
  have F3 := fun_mk (st := sTake) l3 c3 k3
  have F4 := fun_mk (st := sField) l4 c4 k4
  have F5 := fun_mk (st := sEarly) l5 c5 k5
  have F6 := fun_mk (st := sRaise) l6 c6 k6
  have F7 := fun_mk (st := sTold) l7 c7 k7
  have F8 := fun_mk (st := sLaw) l8 c8 k8
  have b0 := F0.binds (ps := ["thing"]) fun _ _ _ _ _ _ us hl => match us, hl with | [_], _ => rfl
  have b1 := F1.binds (ps := ["thing"]) fun _ _ _ _ _ _ us hl => match us, hl with | [_], _ => rfl
  have b2 := F2.binds (ps := ["_law_script", "_law_at"]) fun _ _ _ _ _ _ us hl => match us, hl with | [_, _], _ => rfl
  have b3 := F3.binds (ps := ["_law_bag_here", "_law_many"]) fun _ _ _ _ _ _ us hl => match us, hl with | [_, _], _ => rfl
  have b4 := F4.binds (ps := ["_law_bag_here"]) fun _ _ _ _ _ _ us hl => match us, hl with | [_], _ => rfl
  have b5 := F5.binds (ps := ["_law_number", "_law_one"]) fun _ _ _ _ _ _ us hl => match us, hl with | [_, _], _ => rfl
  have b6 := F6.binds (ps := ["_law_number", "_law_one", "_law_two"]) fun _ _ _ _ _ _ us hl => match us, hl with | [_, _, _], _ => rfl
  have b7 := F7.binds (ps := ["_law_number", "_law_one", "_law_two"]) fun _ _ _ _ _ _ us hl => match us, hl with | [_, _, _], _ => rfl
  have E0 := fun_mk (st := (inClass (top 5) 0)) lI0 cI0 kI0
  have bI0 := E0.binds (ps := ["self", "place"]) fun _ _ _ _ _ _ us hl => match us, hl with | [_, _], _ => rfl
  have E1 := fun_mk (st := (inClass (top 6) 0)) lI1 cI1 kI1
  have bI1 := E1.binds (ps := ["self", "place"]) fun _ _ _ _ _ _ us hl => match us, hl with | [_, _], _ => rfl
  have E2 := fun_mk (st := (inClass (top 7) 0)) lI2 cI2 kI2
  have bI2 := E2.binds (ps := ["self"]) fun _ _ _ _ _ _ us hl => match us, hl with | [_], _ => rfl
  have E3 := fun_mk (st := (inClass (top 8) 0)) lI3 cI3 kI3
  have bI3 := E3.binds (ps := ["self", "at"]) fun _ _ _ _ _ _ us hl => match us, hl with | [_, _], _ => rfl
  have E4 := fun_mk (st := (inClass (top 9) 0)) lI4 cI4 kI4
  have bI4 := E4.binds (ps := ["self", "at"]) fun _ _ _ _ _ _ us hl => match us, hl with | [_, _], _ => rfl
  have E5 := fun_mk (st := (inClass (top 10) 0)) lI5 cI5 kI5
  have bI5 := E5.binds (ps := ["self", "line"]) fun _ _ _ _ _ _ us hl => match us, hl with | [_, _], _ => rfl
  have E6 := fun_mk (st := (inClass (top 11) 0)) lI6 cI6 kI6
  have bI6 := E6.binds (ps := ["self", "what"]) fun _ _ _ _ _ _ us hl => match us, hl with | [_, _], _ => rfl
  have E7 := fun_mk (st := (inClass (top 12) 0)) lI7 cI7 kI7
  have bI7 := E7.binds (ps := ["self", "name"]) fun _ _ _ _ _ _ us hl => match us, hl with | [_, _], _ => rfl
  have E8 := fun_mk (st := (inClass (top 13) 0)) lI8 cI8 kI8
  have bI8 := E8.binds (ps := ["self", "way", "line"]) fun _ _ _ _ _ _ us hl => match us, hl with | [_, _, _], _ => rfl
  have E9 := fun_mk (st := (inClass (top 14) 0)) lI9 cI9 kI9
  have bI9 := E9.binds (ps := ["self", "name"]) fun _ _ _ _ _ _ us hl => match us, hl with | [_, _], _ => rfl
  have E10 := fun_mk (st := (inClass (top 15) 0)) lI10 cI10 kI10
  have bI10 := E10.binds (ps := ["self", "at"]) fun _ _ _ _ _ _ us hl => match us, hl with | [_, _], _ => rfl
  have E11 := fun_mk (st := (inClass (top 16) 0)) lI11 cI11 kI11
  have bI11 := E11.binds (ps := ["self", "spot"]) fun _ _ _ _ _ _ us hl => match us, hl with | [_, _], _ => rfl
  have hTp : ∀ x : Str, PySem.W.nsIn K mainGlobals x = some none → mg x = none := fun x z => PySem.W.mg_none_of X G z
  have NM : Nm mg := ⟨hTp _ zisinstance, hTp _ zlist, hTp _ ztuple⟩
  have NB : Nb mg := ⟨hTp _ zlen, hTp _ zabs, hTp _ zenumerate, hTp _ zint⟩
  obtain ⟨inj, nte⟩ := getD_inj nod
  have T : Cls12 K mg TE (fun n => ([C0, C1, C2, C3, C4, C5, C6, C7, C8, C9, C10, C11] : List Addr).getD n.toNat 0) (fun n => ([fI0, fI1, fI2, fI3, fI4, fI5, fI6, fI7, fI8, fI9, fI10, fI11] : List Addr).getD n.toNat 0) := {
    c0 := cl_of (PySem.W.mg_of X G aC0) x0 sa0 ga0 gg0 ha0 hn ht kc0
    i0 := aI0
    t0 := ti0
    n0place := no0place
    c1 := cl_of (PySem.W.mg_of X G aC1) x1 sa1 ga1 gg1 ha1 hn ht kc1
    i1 := aI1
    t1 := ti1
    n1place := no1place
    c2 := cl_of (PySem.W.mg_of X G aC2) x2 sa2 ga2 gg2 ha2 hn ht kc2
    i2 := aI2
    t2 := ti2
    c3 := cl_of (PySem.W.mg_of X G aC3) x3 sa3 ga3 gg3 ha3 hn ht kc3
    i3 := aI3
    t3 := ti3
    n3at := no3at
    c4 := cl_of (PySem.W.mg_of X G aC4) x4 sa4 ga4 gg4 ha4 hn ht kc4
    i4 := aI4
    t4 := ti4
    n4at := no4at
    c5 := cl_of (PySem.W.mg_of X G aC5) x5 sa5 ga5 gg5 ha5 hn ht kc5
    i5 := aI5
    t5 := ti5
    n5line := no5line
    c6 := cl_of (PySem.W.mg_of X G aC6) x6 sa6 ga6 gg6 ha6 hn ht kc6
    i6 := aI6
    t6 := ti6
    n6what := no6what
    c7 := cl_of (PySem.W.mg_of X G aC7) x7 sa7 ga7 gg7 ha7 hn ht kc7
    i7 := aI7
    t7 := ti7
    n7name := no7name
    c8 := cl_of (PySem.W.mg_of X G aC8) x8 sa8 ga8 gg8 ha8 hn ht kc8
    i8 := aI8
    t8 := ti8
    n8way := no8way
    n8line := no8line
    c9 := cl_of (PySem.W.mg_of X G aC9) x9 sa9 ga9 gg9 ha9 hn ht kc9
    i9 := aI9
    t9 := ti9
    n9name := no9name
    c10 := cl_of (PySem.W.mg_of X G aC10) x10 sa10 ga10 gg10 ha10 hn ht kc10
    i10 := aI10
    t10 := ti10
    n10at := no10at
    c11 := cl_of (PySem.W.mg_of X G aC11) x11 sa11 ga11 gg11 ha11 hn ht kc11
    i11 := aI11
    t11 := ti11
    n11spot := no11spot
    inj := fun n m h0 h1 g0 g1 e => by
      have := inj n.toNat m.toNat (by show n.toNat < 12; omega) (by show m.toNat < 12; omega) e
      omega
    te := fun n h0 h1 => nte n.toNat (by show n.toNat < 12; omega)
    gTE := PySem.W.mg_of X G aTE
    sTE := sTE
    hTE := hTE
    tTE := tTE }
  refine ⟨PySem.W.fnOf "law" "law" (defArgs sLaw) (defBody sLaw) (defScope sLaw) .none kV8 dc8 pm8 an8 cd8 ct8, fun s v => .of_eq rfl, fun base _ _ => ?_⟩
  have GC : FnOk P w K mg base CX0 2 f1 _ ["thing"] (spCopy K) := ok_copy (k := 0) F1 NM F0 b0 (PySem.W.mg_of X G a0)
  have gC := PySem.W.mg_of X G a1
  have I : Inits P w K mg base (fun n => ([C0, C1, C2, C3, C4, C5, C6, C7, C8, C9, C10, C11] : List Addr).getD n.toNat 0) (fun n => ([fI0, fI1, fI2, fI3, fI4, fI5, fI6, fI7, fI8, fI9, fI10, fI11] : List Addr).getD n.toNat 0) (fun n => ([(PySem.W.fnOf "__init__" "BadValue.__init__" (defArgs (inClass (top 5) 0)) (defBody (inClass (top 5) 0)) (defScope (inClass (top 5) 0)) .none kVI0 dcI0 pmI0 anI0 cdI0 ctI0), (PySem.W.fnOf "__init__" "NoPlace.__init__" (defArgs (inClass (top 6) 0)) (defBody (inClass (top 6) 0)) (defScope (inClass (top 6) 0)) .none kVI1 dcI1 pmI1 anI1 cdI1 ctI1), (PySem.W.fnOf "__init__" "NoItems.__init__" (defArgs (inClass (top 7) 0)) (defBody (inClass (top 7) 0)) (defScope (inClass (top 7) 0)) .none kVI2 dcI2 pmI2 anI2 cdI2 ctI2), (PySem.W.fnOf "__init__" "NoEntry.__init__" (defArgs (inClass (top 8) 0)) (defBody (inClass (top 8) 0)) (defScope (inClass (top 8) 0)) .none kVI3 dcI3 pmI3 anI3 cdI3 ctI3), (PySem.W.fnOf "__init__" "NotText.__init__" (defArgs (inClass (top 9) 0)) (defBody (inClass (top 9) 0)) (defScope (inClass (top 9) 0)) .none kVI4 dcI4 pmI4 anI4 cdI4 ctI4), (PySem.W.fnOf "__init__" "BadProgram.__init__" (defArgs (inClass (top 10) 0)) (defBody (inClass (top 10) 0)) (defScope (inClass (top 10) 0)) .none kVI5 dcI5 pmI5 anI5 cdI5 ctI5), (PySem.W.fnOf "__init__" "TooMany.__init__" (defArgs (inClass (top 11) 0)) (defBody (inClass (top 11) 0)) (defScope (inClass (top 11) 0)) .none kVI6 dcI6 pmI6 anI6 cdI6 ctI6), (PySem.W.fnOf "__init__" "NoFunction.__init__" (defArgs (inClass (top 12) 0)) (defBody (inClass (top 12) 0)) (defScope (inClass (top 12) 0)) .none kVI7 dcI7 pmI7 anI7 cdI7 ctI7), (PySem.W.fnOf "__init__" "Stopped.__init__" (defArgs (inClass (top 13) 0)) (defBody (inClass (top 13) 0)) (defScope (inClass (top 13) 0)) .none kVI8 dcI8 pmI8 anI8 cdI8 ctI8), (PySem.W.fnOf "__init__" "NoTaker.__init__" (defArgs (inClass (top 14) 0)) (defBody (inClass (top 14) 0)) (defScope (inClass (top 14) 0)) .none kVI9 dcI9 pmI9 anI9 cdI9 ctI9), (PySem.W.fnOf "__init__" "BadFate.__init__" (defArgs (inClass (top 15) 0)) (defBody (inClass (top 15) 0)) (defScope (inClass (top 15) 0)) .none kVI10 dcI10 pmI10 anI10 cdI10 ctI10), (PySem.W.fnOf "__init__" "BadSpot.__init__" (defArgs (inClass (top 16) 0)) (defBody (inClass (top 16) 0)) (defScope (inClass (top 16) 0)) .none kVI11 dcI11 pmI11 anI11 cdI11 ctI11)] : List FuncData).getD n.toNat default) := {
    g0 := ok_in0 E0 GC gC k1 b1
    b0 := bI0
    g1 := ok_in1 E1 GC gC k1 b1
    b1 := bI1
    g2 := ok_in2 E2
    b2 := bI2
    g3 := ok_in3 E3 GC gC k1 b1
    b3 := bI3
    g4 := ok_in4 E4 GC gC k1 b1
    b4 := bI4
    g5 := ok_in5 E5 GC gC k1 b1
    b5 := bI5
    g6 := ok_in6 E6 GC gC k1 b1
    b6 := bI6
    g7 := ok_in7 E7 GC gC k1 b1
    b7 := bI7
    g8 := ok_in8 E8 GC gC k1 b1
    b8 := bI8
    g9 := ok_in9 E9 GC gC k1 b1
    b9 := bI9
    g10 := ok_in10 E10 GC gC k1 b1
    b10 := bI10
    g11 := ok_in11 E11 GC gC k1 b1
    b11 := bI11
  }
  have GR := ok_raise F6 T I F5 b5 (PySem.W.mg_of X G a5)
  have GT := ok_told F7 ⟨hTp _ zisinstance, hTp _ zValueError⟩ T F6 GR b6 (PySem.W.mg_of X G a6)
  exact ok_law F8 ⟨hTp _ zrange, hTp _ zmax, hTp _ zmin, hTp _ zrepr⟩ NB (ok_bag (k := 0) F2 NB) (PySem.W.mg_of X G a2) k2 b2 (ok_field F4 NB F3 b3 (PySem.W.mg_of X G a3)) (PySem.W.mg_of X G a4) k4 b4 GT (PySem.W.mg_of X G a7) k7 b7
end TX
open PySem PySem.W PyProof.Rows
set_option maxRecDepth 100000 in
set_option maxHeartbeats 0 in
theorem PySem.Challenge.cw_textorlist_k91_errors_made_holds : PySem.Challenge.rw_textorlist_k91_errors_made.Holds := by
  w_on; o_law; k_head; (case hw => w_witness2)
  k_fill
  refine TX.walkG (l := PySem.Challenge.rw_textorlist_k91_errors_made) (n := 63) (k := 8) (x := "_law_script") (sp := fun w => TX.spLaw _) rfl (by decide) rfl ⟨rfl, by decide, by decide⟩ (fun w h Y => PySem.W.kIn_of Y) ?F (fun _ _ a ns hl _ hS => ⟨a, ns, rfl, hS, hl, fun _ => rfl⟩)
  case F =>
    intro w mg fa h KX G hmg
    refine' TX.all_mk KX G hmg ?a0 ?l0 ?c0 ?k0 ?a1 ?l1 ?c1 ?k1 ?a2 ?l2 ?c2 ?k2 ?a3 ?l3 ?c3 ?k3 ?a4 ?l4 ?c4 ?k4 ?a5 ?l5 ?c5 ?k5 ?a6 ?l6 ?c6 ?k6 ?a7 ?l7 ?c7 ?k7 ?a8 ?l8 ?c8 ?k8 ?aTE ?sTE ?hTE ?tTE ?hn ?ht ?aC0 ?x0 ?sa0 ?ga0 ?gg0 ?ha0 ?kc0 ?aI0 ?lI0 ?cI0 ?kI0 ?ti0 ?no0place ?aC1 ?x1 ?sa1 ?ga1 ?gg1 ?ha1 ?kc1 ?aI1 ?lI1 ?cI1 ?kI1 ?ti1 ?no1place ?aC2 ?x2 ?sa2 ?ga2 ?gg2 ?ha2 ?kc2 ?aI2 ?lI2 ?cI2 ?kI2 ?ti2 ?aC3 ?x3 ?sa3 ?ga3 ?gg3 ?ha3 ?kc3 ?aI3 ?lI3 ?cI3 ?kI3 ?ti3 ?no3at ?aC4 ?x4 ?sa4 ?ga4 ?gg4 ?ha4 ?kc4 ?aI4 ?lI4 ?cI4 ?kI4 ?ti4 ?no4at ?aC5 ?x5 ?sa5 ?ga5 ?gg5 ?ha5 ?kc5 ?aI5 ?lI5 ?cI5 ?kI5 ?ti5 ?no5line ?aC6 ?x6 ?sa6 ?ga6 ?gg6 ?ha6 ?kc6 ?aI6 ?lI6 ?cI6 ?kI6 ?ti6 ?no6what ?aC7 ?x7 ?sa7 ?ga7 ?gg7 ?ha7 ?kc7 ?aI7 ?lI7 ?cI7 ?kI7 ?ti7 ?no7name ?aC8 ?x8 ?sa8 ?ga8 ?gg8 ?ha8 ?kc8 ?aI8 ?lI8 ?cI8 ?kI8 ?ti8 ?no8way ?no8line ?aC9 ?x9 ?sa9 ?ga9 ?gg9 ?ha9 ?kc9 ?aI9 ?lI9 ?cI9 ?kI9 ?ti9 ?no9name ?aC10 ?x10 ?sa10 ?ga10 ?gg10 ?ha10 ?kc10 ?aI10 ?lI10 ?cI10 ?kI10 ?ti10 ?no10at ?aC11 ?x11 ?sa11 ?ga11 ?gg11 ?ha11 ?kc11 ?aI11 ?lI11 ?cI11 ?kI11 ?ti11 ?no11spot ?zisinstance ?zlist ?ztuple ?zlen ?zabs ?zenumerate ?zint ?zrange ?zmax ?zmin ?zrepr ?zValueError ?nod
    (case a0 => k_is)
    (case l0 => k_is)
    (case c0 => k_is)
    (case k0 => k_is)
    (case a1 => k_is)
    (case l1 => k_is)
    (case c1 => k_is)
    (case k1 => k_is)
    (case a2 => k_is)
    (case l2 => k_is)
    (case c2 => k_is)
    (case k2 => k_is)
    (case a3 => k_is)
    (case l3 => k_is)
    (case c3 => k_is)
    (case k3 => k_is)
    (case a4 => k_is)
    (case l4 => k_is)
    (case c4 => k_is)
    (case k4 => k_is)
    (case a5 => k_is)
    (case l5 => k_is)
    (case c5 => k_is)
    (case k5 => k_is)
    (case a6 => k_is)
    (case l6 => k_is)
    (case c6 => k_is)
    (case k6 => k_is)
    (case a7 => k_is)
    (case l7 => k_is)
    (case c7 => k_is)
    (case k7 => k_is)
    (case a8 => k_is)
    (case l8 => k_is)
    (case c8 => k_is)
    (case k8 => k_is)
    (case aTE => k_is)
    (case sTE => k_is)
    (case hTE => k_is)
    (case tTE => k_is)
    (case hn => k_is)
    (case ht => k_is)
    (case aC0 => k_is)
    (case x0 => k_is)
    (case sa0 => k_is)
    (case ga0 => k_is)
    (case gg0 => k_is)
    (case ha0 => k_is)
    (case kc0 => k_is)
    (case aI0 => k_is)
    (case lI0 => k_is)
    (case cI0 => k_is)
    (case kI0 => k_is)
    (case ti0 => k_is)
    (case no0place => k_is)
    (case aC1 => k_is)
    (case x1 => k_is)
    (case sa1 => k_is)
    (case ga1 => k_is)
    (case gg1 => k_is)
    (case ha1 => k_is)
    (case kc1 => k_is)
    (case aI1 => k_is)
    (case lI1 => k_is)
    (case cI1 => k_is)
    (case kI1 => k_is)
    (case ti1 => k_is)
    (case no1place => k_is)
    (case aC2 => k_is)
    (case x2 => k_is)
    (case sa2 => k_is)
    (case ga2 => k_is)
    (case gg2 => k_is)
    (case ha2 => k_is)
    (case kc2 => k_is)
    (case aI2 => k_is)
    (case lI2 => k_is)
    (case cI2 => k_is)
    (case kI2 => k_is)
    (case ti2 => k_is)
    (case aC3 => k_is)
    (case x3 => k_is)
    (case sa3 => k_is)
    (case ga3 => k_is)
    (case gg3 => k_is)
    (case ha3 => k_is)
    (case kc3 => k_is)
    (case aI3 => k_is)
    (case lI3 => k_is)
    (case cI3 => k_is)
    (case kI3 => k_is)
    (case ti3 => k_is)
    (case no3at => k_is)
    (case aC4 => k_is)
    (case x4 => k_is)
    (case sa4 => k_is)
    (case ga4 => k_is)
    (case gg4 => k_is)
    (case ha4 => k_is)
    (case kc4 => k_is)
    (case aI4 => k_is)
    (case lI4 => k_is)
    (case cI4 => k_is)
    (case kI4 => k_is)
    (case ti4 => k_is)
    (case no4at => k_is)
    (case aC5 => k_is)
    (case x5 => k_is)
    (case sa5 => k_is)
    (case ga5 => k_is)
    (case gg5 => k_is)
    (case ha5 => k_is)
    (case kc5 => k_is)
    (case aI5 => k_is)
    (case lI5 => k_is)
    (case cI5 => k_is)
    (case kI5 => k_is)
    (case ti5 => k_is)
    (case no5line => k_is)
    (case aC6 => k_is)
    (case x6 => k_is)
    (case sa6 => k_is)
    (case ga6 => k_is)
    (case gg6 => k_is)
    (case ha6 => k_is)
    (case kc6 => k_is)
    (case aI6 => k_is)
    (case lI6 => k_is)
    (case cI6 => k_is)
    (case kI6 => k_is)
    (case ti6 => k_is)
    (case no6what => k_is)
    (case aC7 => k_is)
    (case x7 => k_is)
    (case sa7 => k_is)
    (case ga7 => k_is)
    (case gg7 => k_is)
    (case ha7 => k_is)
    (case kc7 => k_is)
    (case aI7 => k_is)
    (case lI7 => k_is)
    (case cI7 => k_is)
    (case kI7 => k_is)
    (case ti7 => k_is)
    (case no7name => k_is)
    (case aC8 => k_is)
    (case x8 => k_is)
    (case sa8 => k_is)
    (case ga8 => k_is)
    (case gg8 => k_is)
    (case ha8 => k_is)
    (case kc8 => k_is)
    (case aI8 => k_is)
    (case lI8 => k_is)
    (case cI8 => k_is)
    (case kI8 => k_is)
    (case ti8 => k_is)
    (case no8way => k_is)
    (case no8line => k_is)
    (case aC9 => k_is)
    (case x9 => k_is)
    (case sa9 => k_is)
    (case ga9 => k_is)
    (case gg9 => k_is)
    (case ha9 => k_is)
    (case kc9 => k_is)
    (case aI9 => k_is)
    (case lI9 => k_is)
    (case cI9 => k_is)
    (case kI9 => k_is)
    (case ti9 => k_is)
    (case no9name => k_is)
    (case aC10 => k_is)
    (case x10 => k_is)
    (case sa10 => k_is)
    (case ga10 => k_is)
    (case gg10 => k_is)
    (case ha10 => k_is)
    (case kc10 => k_is)
    (case aI10 => k_is)
    (case lI10 => k_is)
    (case cI10 => k_is)
    (case kI10 => k_is)
    (case ti10 => k_is)
    (case no10at => k_is)
    (case aC11 => k_is)
    (case x11 => k_is)
    (case sa11 => k_is)
    (case ga11 => k_is)
    (case gg11 => k_is)
    (case ha11 => k_is)
    (case kc11 => k_is)
    (case aI11 => k_is)
    (case lI11 => k_is)
    (case cI11 => k_is)
    (case kI11 => k_is)
    (case ti11 => k_is)
    (case no11spot => k_is)
    (case zisinstance => k_is)
    (case zlist => k_is)
    (case ztuple => k_is)
    (case zlen => k_is)
    (case zabs => k_is)
    (case zenumerate => k_is)
    (case zint => k_is)
    (case zrange => k_is)
    (case zmax => k_is)
    (case zmin => k_is)
    (case zrepr => k_is)
    (case zValueError => k_is)
    (case nod => decide)
