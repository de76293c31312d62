import PyProof.Rows.All
import PyProof.ListStr
import HandS.Flow
import HandS.StrMore
import HandS.Iter
import HandS.Walk
import Wide.All
import OpenK.AllK
import Wide.FinOn
import HandS.ForMost
import HandS.Style
import HandS.IsInst
import HandS.ExcInit
import HandS.ExcIs
import HandS.ExcField
import HandS.ForExc
import PySem.Challenge.RW_textorlist_k01_values_checked
set_option Elab.async false
set_option linter.all false
set_option maxRecDepth 100000
set_option maxHeartbeats 4000000
namespace TX
open PySem PySem.Spec PyProof.Rows L2

/-! ### either of two rules -/
section
variable {X : Cx}
theorem pe_alt {e : Expr} {t u : TE} (h1 : PE X e t) (h2 : PE X e u) : PE X e (fun σ H Q => t σ H Q ∨ u σ H Q) :=
  ⟨fun pins s σ H Q I h => h.elim (h1.run pins s σ H Q I) (h2.run pins s σ H Q I)⟩
theorem ps_alt {e : Stmt} {t u : TS} (h1 : PS X e t) (h2 : PS X e u) : PS X e (fun D σ H => t D σ H ∨ u D σ H) :=
  ⟨fun pins s σ H D I h => h.elim (h1.run pins s σ H D I) (h2.run pins s σ H D I)⟩
theorem pi_alt {tg e : Expr} {t u : TI} (h1 : PI X tg e t) (h2 : PI X tg e u) : PI X tg e (fun σ H R => t σ H R ∨ u σ H R) :=
  ⟨fun pins s σ H R I h => h.elim (h1.run pins s σ H R I) (h2.run pins s σ H R I)⟩
end

/-! ### data stays where the heap grows -/
theorem same_sqt {K : PySem.W.Frag} {H H' : Hp} {a : Addr} {xs : List V} (e : Same H H') (h : SqT K H a xs) : SqT K H' a xs := by
  rcases h with (h | ⟨o, h⟩) | h
  · exact .inl (.inl (e _ _ h))
  · exact .inl (.inr ⟨o, e _ _ h⟩)
  · exact .inr h
mutual
theorem dp_same {K : PySem.W.Frag} {H H' : Hp} (e : Same H H') : ∀ (d : PyData) (v : V), Dp K H v d → Dp K H' v d
  | .none, _, h => by cases h; exact .non
  | .bool b, _, h => by cases h; exact .bl b
  | .int i, _, h => by cases h; exact .int i
  | .str x, _, h => by cases h; exact .str x
  | .list xs, _, h => by
    cases h with
    | lst h1 h2 => exact .lst (e.seq h1) (dpAll_same e xs _ h2)
  | .tuple xs, _, h => by
    cases h with
    | tup h1 h2 => exact .tup (same_sqt e h1) (dpAll_same e xs _ h2)
  | .dict _, _, h => nomatch h
theorem dpAll_same {K : PySem.W.Frag} {H H' : Hp} (e : Same H H') : ∀ (ds : List PyData) (vs : List V), DpAll K H vs ds → DpAll K H' vs ds
  | [], _, h => by cases h; exact .nil
  | d :: ds, _, h => by
    cases h with
    | cons h1 h2 => exact .cons (dp_same e d _ h1) (dpAll_same e ds _ h2)
end
theorem DpAll.length {K : PySem.W.Frag} {H : Hp} : ∀ {ds : List PyData} {vs : List V}, DpAll K H vs ds → vs.length = ds.length
  | [], _, h => by cases h; rfl
  | _ :: _, _, h => by
    cases h with
    | cons _ h2 => exact congrArg (· + 1) (DpAll.length h2)
theorem DpAll.append {K : PySem.W.Frag} {H : Hp} : ∀ {ds es : List PyData} {vs ws : List V}, DpAll K H vs ds → DpAll K H ws es → DpAll K H (vs ++ ws) (ds ++ es)
  | [], _, _, _, h, g => by cases h; exact g
  | _ :: _, _, _, _, h, g => by
    cases h with
    | cons h1 h2 => exact .cons h1 (DpAll.append h2 g)
theorem DpAll.split {K : PySem.W.Frag} {H : Hp} : ∀ {ds es : List PyData} {vs : List V}, DpAll K H vs (ds ++ es) → ∃ a b, vs = a ++ b ∧ DpAll K H a ds ∧ DpAll K H b es
  | [], _, vs, h => ⟨[], vs, rfl, .nil, h⟩
  | d :: ds, es, _, h => by
    cases h with
    | cons h1 h2 =>
      obtain ⟨a, b, rfl, ha, hb⟩ := DpAll.split (ds := ds) (es := es) h2
      exact ⟨_ :: a, b, rfl, .cons h1 ha, hb⟩
theorem same_upd {H : Hp} {p : Addr} {o : HO} (h : H p = none) : Same H (upd H p o) := fun b x e => by
  rw [upd_ne (ne_of_none e h)]
  exact e
/-- a fresh place may be written again and again -/
theorem same_fresh {H0 H : Hp} {p : Addr} {o : HO} (h : H0 p = none) (e : Same H0 H) : Same H0 (upd H p o) := fun b x q => by
  rw [upd_ne (ne_of_none q h)]
  exact e b x q

/-! ### the number of parts -/
mutual
def nd : PyData → Nat
  | .list xs => ndAll xs + 1
  | .tuple xs => ndAll xs + 1
  | _ => 1
def ndAll : List PyData → Nat
  | [] => 0
  | d :: ds => nd d + ndAll ds
end
theorem ndAll_append : ∀ (a b : List PyData), ndAll (a ++ b) = ndAll a + ndAll b
  | [], b => by simp [ndAll]
  | d :: a, b => by
    rw [List.cons_append, ndAll, ndAll, ndAll_append a b]
    omega
theorem nd_pos : ∀ d : PyData, 1 ≤ nd d
  | .none => by simp [nd]
  | .bool _ => by simp [nd]
  | .int _ => by simp [nd]
  | .str _ => by simp [nd]
  | .list _ => by simp [nd]
  | .tuple _ => by simp [nd]
  | .dict _ => by simp [nd]
theorem ndAll_len : ∀ ds : List PyData, ds.length ≤ ndAll ds
  | [] => by simp
  | d :: ds => by
    have := ndAll_len ds
    have := nd_pos d
    rw [ndAll, List.length_cons]
    omega

/-! ### what a value's type is, for isinstance -/
/-- the type of a value that represents data -/
def tyD : PyData → String
  | .none => "NoneType"
  | .bool _ => "bool"
  | .int _ => "int"
  | .str _ => "str"
  | .list _ => "list"
  | .tuple _ => "tuple"
  | .dict _ => "dict"
theorem dp_ty {K : PySem.W.Frag} {H : Hp} {v : V} {d : PyData} (h : Dp K H v d) : TyX K H v (.type (tyD d)) := by
  cases h with
  | non => exact .base .non
  | bl b => exact .base (.bl b)
  | int i => exact .base (.int i)
  | str x => exact .base (.str x)
  | lst h1 _ =>
    rcases h1 with (h | ⟨o, h⟩) | ⟨o, its, n, hk, hc, _⟩
    · exact .base (.lst h)
    · exact .base (.frz h)
    · exact .kList hk hc
  | tup h1 _ =>
    rcases h1 with (h | ⟨o, h⟩) | ⟨o, its, n, hk, hc, _⟩
    · exact .base (.tup h)
    · exact .fTuple h
    · exact .kTuple hk hc

/-! ### repr of data -/
section
variable {X : Cx}
def rRepr (K : PySem.W.Frag) : List V → Hp → VK → Prop := fun xs H Q => ∃ v d, xs = [v] ∧ Dp K H v d ∧ d.showable = true ∧ d.hasDict = false ∧ d.depth ≤ 60 ∧ d.shown.length ≤ sizeLine ∧ Q (.str d.shown) H
theorem call_repr (hg : X.A.guards = some []) (hu : X.A.units + 64 < cLine) : CallR X (.builtin "repr") (rRepr X.K) := by
  intro pins s σ H xs us Q I r h
  obtain ⟨v, d, rfl, hd, hs, hn, hz, hl, q⟩ := h
  obtain ⟨u, rfl, rv⟩ := r.one
  have fin : ∀ tk t, EP X pins σ Q (.str d.shown t) { s with toks := tk } := fun tk t => ⟨.str _, H, I.tok tk, ⟨t, rfl⟩, q⟩
  obtain ⟨as, rd⟩ := Dp.reads I d v u hd rv
  cases hd with
  | non =>
    cases rv
    simp only [PyData.shown] at fin
    exact PySem.P.repr_of_none (fin _ _)
  | bl b =>
    cases rv
    simp only [PyData.shown] at fin
    exact PySem.P.repr_of_bool (fin _ _)
  | int i =>
    obtain ⟨t, rfl⟩ := rv
    simp only [PyData.shown] at fin
    exact PySem.P.repr_of_int (by simpa [PyData.showable] using hs) (fin _ _)
  | str x =>
    obtain ⟨t, rfl⟩ := rv
    simp only [PyData.shown] at fin hl
    exact PySem.P.repr_of_str (fin _ _) hl
  | lst h1 h2 =>
    cases rv
    exact repr_of_reads' rd hs (PyData.noDict_hsm hn) hg (by omega) (fun _ _ e => e) (fun h' t tk hk => ⟨.str _, H, I.kept hk, ⟨t, rfl⟩, q⟩) hl
  | tup h1 h2 =>
    cases rv
    exact repr_of_reads' rd hs (PyData.noDict_hsm hn) hg (by omega) (fun _ _ e => e) (fun h' t tk hk => ⟨.str _, H, I.kept hk, ⟨t, rfl⟩, q⟩) hl
end
end TX
namespace TX
open PySem PySem.Spec PyProof.Rows L2
/-! ### a def that is called where nothing is being shown (no repr under way) -/
structure FnG (P : Program) (w : World) (K : PySem.W.Frag) (mg : Str → Option Value) (base : Heap) (C : CXT) (k : Nat) (f : Addr) (fd : FuncData) (ps : List Str) (sp : Sp) : Prop where
  len : ∀ vs H Q E, sp vs H Q E → vs.length = ps.length
  go : ∀ (A : Around), A.guards = some [] → ∀ (outer : List Env) (s : Shared) (H : Hp) (args : Args) (us : List Value) (vs : List V) (Q : VK) (E : XK), Room k A → Env0 P w K mg base A outer s H →
    BindsTo s fd args (ps.zip us) → Vals vs us → sp vs H Q E → codeAny (model P w) A (.call (.ref f) args) (CR C outer P w H s Q E) s
section
variable {P : Program} {w : World} {K : PySem.W.Frag} {mg : Str → Option Value} {base : Heap} {C : CXT} {k : Nat} {f : Addr} {fd : FuncData} {N ps : List Str} {sp : Sp}
theorem fng_of {x qual : Str} {st : Stmt} (F : Fun K x qual st f fd) (S : FnScope N ps (defScope st)) (len : ∀ vs H Q E, sp vs H Q E → vs.length = ps.length)
    (hb : ∀ (cdv : Value) (A : Around) (outer : List Env) (s : Shared) (H : Hp) (vs : List V) (Q : VK) (E : XK), A.guards = some [] → Room k (A.deeper (envOfC qual (defScope st) s.heap.objs.size f cdv)) → sp vs H Q E →
      ∃ t, PSs (cxOf CX0 P w K mg base N qual (defScope st) f cdv A outer s H E).nox (defBody st) t ∧ t { nx := fun _ H' => Q .non H', rt := Q } (start N vs) H) : FnG P w K mg base CX0 (k + 1) f fd ps sp := by
  obtain ⟨oc, od, kV, doc, pm, an, cdv, ct, osl, rfl, lk, hcd⟩ := F.ex
  refine ⟨len, fun A hg outer s H args us vs Q E hr e0 hbd r hsp => ?_⟩
  have up : ∀ b o, base.get? b = some o → s.heap.get? b = some o := fun b o e => (e0.bs b o e).1
  have KX : K.In s.heap := e0.mod.kin.keeps up
  have par : ∀ y ∈ ps.zip us, (defScope st).names.lookup y.1 = some .local ∨ ((defScope st).names.lookup y.1 = some .cell ∧ ((cellsFrom (s.heap.objs.size + 1) (defScope st).names []).lookup y.1).isSome = true) := by
    rintro ⟨n, v⟩ hy
    exact (S.par n (List.of_mem_zip hy).1).imp id fun q => ⟨q, PySem.W.cellsFrom_some _ _ _ (.inl q)⟩
  refine codeAny_call_function hr.depth (KX _ _ lk) rfl S.co S.gen rfl (PySem.W.codeRec_of KX hcd) (hbd _ _ _ _ (wpAny_newFunctionEnv_cells S.kind par fun env he s1 x => ?_))
  cases he
  obtain ⟨t, ht, hq⟩ := hb cdv A outer s H vs Q E hg (hr.deeper _) hsp
  refine ⟨(e0.mod.nolimit.keeps up).keeps x.toInCall.keep, codeAny_func (wpAny_mono (ht.nox.run [] s1 (start N vs) H _ (inv_start S hr.hd e0 (len _ _ _ _ hsp) r x) hq) (fun fl s' hs => ?_) fun e s' hs => hs)⟩
  cases fl with
  | next => exact let ⟨σ', H', J, q⟩ := hs; ⟨.non, H', J.os, J.bare, J.base, J.hok, rfl, q⟩
  | ret u => exact let ⟨v, σ', H', J, rv, q⟩ := hs; ⟨v, H', J.os, J.bare, J.base, J.hok, rv, q⟩
  | brk => exact let ⟨_, _, _, q⟩ := hs; False.elim q
  | cont => exact let ⟨_, _, _, q⟩ := hs; False.elim q
theorem deeper_guards {A : Around} {env : Env} : (A.deeper env).guards = A.guards := rfl
end
section
variable {X : Cx} {C : CXT} {k : Nat} {f : Addr} {fd : FuncData} {ps : List Str} {sp : Sp} {dvs : List V} {ds : List Value} {E : XK} {x : Str} {p pos : Pos} {e : Expr} {es : List Expr} {t : TA}
theorem pe_callG (F : FnG X.prog X.w X.K X.mg X.base C k f fd ps sp) (hgd : X.A.guards = some []) (hr : Room k X.A) (hg : Gl X x) (hm : X.mg x = some (.ref f)) (hk : PySem.W.keepIn X.K (.ref f) = true) (hb : Binds X.K fd ps ds) (hd : Vals dvs ds)
    (hx : Passes C X E) (ha : PA X (e :: es) t) (hdb : (x == ("__debug__" : Str)) = false := by decide) (he : starEach (e :: es) X.env = (false, eval e X.env) :: starEach es X.env := by rfl)
    (hpl : (backTo pos (starEach es X.env)).any (·.1) = false := by rfl) : PE X (.Call (.Name x p) (e :: es) [] pos) (tCall sp dvs E t) := by
  refine ⟨fun pins s σ H Q I h => wpAny_Call_Name_kw (ld_glob I hg hm (PySem.W.callWith_K (h₀ := X.base) I.ok.mod.kin hk (thn (ha.run pos pins s σ H _ I h) fun us s1 h1 => ?_) he hpl) hdb)⟩
  obtain ⟨vs, H1, I1, r, q⟩ := h1
  have r2 := r.append hd
  have hl : (us ++ ds).length = ps.length := r2.length.symm.trans (F.len _ _ _ _ q)
  refine ⟨I1.kIn, wpAny_call (codeAny_mono (F.go X.A hgd X.stack s1 H1 ⟨us, []⟩ _ _ _ _ hr I1.env0 (hb s1 us I1.kIn hl) r2 q) fun r s' hq => ?_)⟩
  cases r with
  | error er => exact hx pins σ H1 s1 er s' I1 hq
  | ok fl => cases fl with
    | ret u => exact I1.after hq
    | next => exact hq.elim
    | brk => exact hq.elim
    | cont => exact hq.elim
end
/-- the law's def, called by the claim -/
theorem lawG {P : Program} {w : World} {K : PySem.W.Frag} {mg mb : Str → Option Value} {k : Nat} {fa a : Addr} {fd : FuncData} {x : Str} {sp : Sp} {s₁ : Shared} {vs : List Value} {ns : List Int}
    (KX : K.In s₁.heap) (hns : s₁.heap.Ns mainGlobals mg) (hb : s₁.heap.Ns builtinsNs mb) (hbb : ∀ x : Str, x ≠ "__name__" → mb x = bootBuiltins x) (hlim : s₁.heap.NoLimit) (hg : s₁.gens = #[])
    (ha : s₁.heap.get? a = some { cls := .type "list", data := .seq vs.toArray }) (hi : IntsAre vs ns) (hl : ns.length ≤ sizeLine) (hr : Room k callerA)
    (F : ∀ base : Heap, K.In base → base.Ns mainGlobals mg → FnG P w K mg base CX0 k fa fd [x] sp) (hbind : ∀ (s : Shared) (u : Value), BindsTo s fd ⟨[u], []⟩ [(x, u)])
    (hsp : ∀ H : Hp, Only H → SqL K H a (ns.map V.int) → sp [.ref a] H (fun v _ => v = .bl true) fun _ _ _ => False) :
    codeAny (model P w) callerA (.call (.ref fa) ⟨[.ref a], []⟩) (fun r s' => r = .ok (.ret (.bool true)) ∧ OldK s₁.heap s'.heap ∧ s'.os = s₁.os ∧ AllBare s'.gens) s₁ := by
  have rv := vals_ints hi
  have lenV := hi.length
  have main : ∀ H : Hp, Only H → SqL K H a (ns.map V.int) → HOk P w H s₁.heap → (∀ b, H b ≠ none → b = a) → (H a ≠ none → K.lookup a = none) →
      codeAny (model P w) callerA (.call (.ref fa) ⟨[.ref a], []⟩) (fun r s' => r = .ok (.ret (.bool true)) ∧ OldK s₁.heap s'.heap ∧ s'.os = s₁.os ∧ AllBare s'.gens) s₁ := by
    intro H hO hS hok hA hK
    have atA : ∀ {b : Addr} {u : HO}, H b = some u → b = a := fun q => hA _ (by rw [q]; exact fun z => nomatch z)
    have noD : ∀ {b : Addr} {o : Obj} {es : Array DictEntry} {ep : Nat}, s₁.heap.get? b = some o → o.data = .dict es ep → H b = none := by
      intro b o es ep e d
      cases q : H b with
      | none => rfl
      | some u =>
        cases atA q
        rw [ha] at e
        cases e
        exact absurd d (fun z => nomatch z)
    have nsK : ∀ {b : Addr} {m : Str → Option Value}, s₁.heap.Ns b m → (hidT s₁.heap H).Ns b m := fun ⟨o, es, ep, e, d, r⟩ => ⟨o, es, ep, hidT_get e (noD e d), d, r⟩
    have hKb : K.In (hidT s₁.heap H) := by
      intro b o e
      refine hidT_get (KX b o e) ?_
      cases q : H b with
      | none => rfl
      | some u =>
        cases atA q
        rw [hK (by rw [q]; exact fun z => nomatch z)] at e
        cases e
    have hM : Mod K mg (hidT s₁.heap H) := ⟨hKb, nsK hns, ⟨mb, nsK hb, hbb⟩, let ⟨mc, h1, h2⟩ := hlim; ⟨mc, nsK h1, h2⟩⟩
    have e0 : Env0 P w K mg (hidT s₁.heap H) callerA [] s₁ H := ⟨rfl, hM, fun b o e => of_hidT e, Nat.le_of_eq (hidT_size _ _), trivial, fun b hb => (nomatch hb), hok, .of_eq hg⟩
    refine codeAny_mono ((F _ hKb (nsK hns)).go callerA rfl [] s₁ H ⟨[.ref a], []⟩ [.ref a] [.ref a] _ _ hr e0 (hbind s₁ (.ref a)) (.cons rfl .nil) (hsp H hO hS)) fun r s' h => ?_
    cases r with
    | error e => exact (show False from h).elim
    | ok fl => cases fl with
      | next => exact h.elim
      | brk => exact h.elim
      | cont => exact h.elim
      | ret u =>
        obtain ⟨v, H', os, bare, un, hok', r', q⟩ := h
        cases (show v = .bl true from q)
        cases (show u = Value.bool true from r')
        refine ⟨rfl, OldK.of_keep fun b o e => ?_, os, bare⟩
        cases q : H b with
        | none => exact un.keep b o e q (fun z => nomatch z) (fun z => nomatch z)
        | some u =>
          rcases hO b with z | ⟨ob, xs, z⟩
          · rw [q] at z
            cases z
          · obtain ⟨e1, _⟩ := hok b _ z
            obtain ⟨e2, _⟩ := hok' b _ (un.frzs b ob _ z)
            rw [e] at e1
            cases e1
            exact e2
  cases hk : K.lookup a with
  | some o =>
    have e := KX a o hk
    rw [ha] at e
    cases e
    exact main (fun _ => none) (fun _ => .inl rfl) (.inr ⟨_, vs.toArray, _, hk, rfl, rfl, rfl, by rw [List.size_toArray, lenV]; exact hl, by simpa using rv⟩) (fun b u z => nomatch z) (fun b z => absurd rfl z) fun z => absurd rfl z
  | none =>
    refine main (fun b => if b = a then some (.frz { cls := .type "list", data := .seq vs.toArray } (.lst (ns.map V.int))) else none) (fun b => ?_) (.inl (.inr ⟨{ cls := .type "list", data := .seq vs.toArray }, if_pos rfl⟩)) (fun b u z => ?_) (fun b z => ?_) fun _ => hk
    · by_cases hb : b = a
      · exact .inr ⟨_, _, if_pos hb⟩
      · exact .inl (if_neg hb)
    · by_cases hb : b = a
      · cases hb
        cases (if_pos rfl).symm.trans z
        exact ⟨ha, by rw [List.length_map]; exact hl, vs, _, rv, ha⟩
      · cases (if_neg hb).symm.trans z
    · exact Classical.byContradiction fun hb => z (if_neg hb)
theorem walkG {l : PySem.W.OpenLaw} {n k : Nat} {q : Program} {loose : List Str} {XP : (Str → Option Value) → Heap → Prop} {YP : World → Heap → Prop} {d : DefRec} {K : Params → PySem.W.Frag} {sp : World → Sp} {x : Str}
    (hn : l.most = some n) (hn2 : n ≤ sizeLine) (hdf : d.params.defaults = []) (hr : Room k callerA) (hY : ∀ (w : World) (h : Heap), YP w h → (K w.params).In h)
    (F : ∀ (w : World) (mg : Str → Option Value) (fa : Addr) (h : Heap), (K w.params).In h → h.Ns mainGlobals mg → mg d.name = some (.ref fa) →
      ∃ fd : FuncData, (∀ (s : Shared) (u : Value), BindsTo s fd ⟨[u], []⟩ [(x, u)]) ∧ ∀ base : Heap, (K w.params).In base → base.Ns mainGlobals mg → FnG l.prog w (K w.params) mg base CX0 k fa fd [x] (sp w))
    (hsp : ∀ (w : World) (H : Hp) (a : Addr) (ns : List Int), ns.length ≤ n → Only H → SqL (K w.params) H a (ns.map V.int) → sp w [.ref a] H (fun v _ => v = .bl true) fun _ _ _ => False) :
    PySem.W.WalkO q loose XP YP l.row.toRowW d [] (fun f vs => PySem.call f vs) := by
  refine Att.attach_call hn hdf fun w s₀ s₁ mg mb fa o pm cd doc a vs ns G Y ho hd hcd hmg hobj hints hlen hg => ?_
  obtain ⟨fd, hb, hF⟩ := F w mg fa _ (hY w _ Y) G.T.g hmg
  exact lawG (hY w _ Y) G.T.g G.T.b G.T.builtins G.T.nolimit hg hobj hints (Nat.le_trans hlen hn2) hr hF hb fun H hO hS => hsp w H a ns hlen hO hS
end TX
namespace TX
open PySem PySem.Spec PyProof.Rows L2
section
variable {prog : Program} {w : World} {A : Around} {E : Value → Shared → Prop} {s : Shared}
theorem slAdj_back (n : Nat) : Builtin.Slice.sliceAdjust none none (-1) (n : Int) = ((n : Int) - 1, -1) := rfl
theorem slPl_back (n : Nat) : Builtin.Slice.slicePlaces ((n : Int) - 1) (-1) (-1) = n := by
  unfold Builtin.Slice.slicePlaces
  rw [if_neg (by decide)]
  split
  · have e : -(-1 : Int) = 1 := by decide
    rw [e, Int.ediv_one]
    omega
  · omega
theorem slApp_back {sl : Addr} {n : Nat} {u : Tok} {Q : Int × Int × Nat → Shared → Prop} (hs : s.heap.IsSliceOf sl .none .none (.int (-1) u)) (h : Q ((n : Int) - 1, -1, n) s) :
    wpAny (model prog w) A (Builtin.Slice.sliceApplied (.ref sl) (pure (n : Int))) Q E s := by
  obtain ⟨os, g1, g2, g3⟩ := hs
  unfold Builtin.Slice.sliceApplied Builtin.Slice.sliceFields
  refine wpAny_bind (wpAny_bind (wpAny_field g1 g3 (x := .none) rfl (wpAny_bind (wpAny_field g1 g3 (x := .none) rfl (wpAny_bind (wpAny_field g1 g3 (x := .int (-1) u) rfl (wpAny_pure ?_)))))))
  refine wpAny_bind (slicePart_int ?_)
  show wpAny _ _ (if ((-1 : Int) == 0) = true then _ else _) _ _ s
  rw [if_neg (by decide)]
  refine wpAny_bind (slicePart_none (wpAny_bind (slicePart_none (wpAny_bind (wpAny_pure ?_)))))
  show wpAny _ _ (match Builtin.Slice.sliceAdjust none none (-1) (n : Int) with | (lo, hi) => pure (lo, (-1 : Int), Builtin.Slice.slicePlaces lo hi (-1))) _ _ s
  rw [slAdj_back]
  show wpAny _ _ (pure ((n : Int) - 1, (-1 : Int), Builtin.Slice.slicePlaces ((n : Int) - 1) (-1) (-1))) _ _ s
  rw [slPl_back]
  exact wpAny_pure h
theorem fm_congr {f g : Nat → Option Value} : ∀ l : List Nat, (∀ k ∈ l, f k = g k) → l.filterMap f = l.filterMap g
  | [], _ => rfl
  | k :: l, h => by
    rw [List.filterMap_cons, List.filterMap_cons, h k List.mem_cons_self, fm_congr l fun j hj => h j (List.mem_cons_of_mem _ hj)]
theorem pick_back (l : List Value) : ((List.range l.length).filterMap fun (k : Nat) => l.toArray[(((l.length : Nat) : Int) - 1 + (k : Int) * (-1)).toNat]?) = l.reverse := by
  have e : ∀ k ∈ List.range l.length, (fun (k : Nat) => l.toArray[(((l.length : Nat) : Int) - 1 + (k : Int) * (-1)).toNat]?) k = (some ∘ fun k => (l.reverse[k]?).getD .none) k := by
    intro k hk
    have hk' := List.mem_range.mp hk
    have e1 : (((l.length : Nat) : Int) - 1 + (k : Int) * (-1)).toNat = l.length - 1 - k := by omega
    show l.toArray[(((l.length : Nat) : Int) - 1 + (k : Int) * (-1)).toNat]? = some ((l.reverse[k]?).getD .none)
    rw [e1, List.getElem?_toArray, List.getElem?_reverse (by omega), List.getElem?_eq_getElem (by omega)]
    rfl
  rw [fm_congr _ e, List.filterMap_eq_map]
  apply List.ext_getElem?
  intro i
  rw [List.getElem?_map]
  by_cases h : i < l.length
  · rw [List.getElem?_range h, List.getElem?_eq_getElem (by simpa using h)]
    simp [List.getElem?_eq_getElem, h]
  · rw [List.getElem?_eq_none (by simpa using h), List.getElem?_eq_none (by simpa using h)]
    rfl
/-- t[::-1] of a tuple -/
theorem getItem_tuple_back {t sl : Addr} {items : List Value} {u : Tok} {Q : Value → Shared → Prop} (ht : IsTup s.heap t items.toArray) (hs : s.heap.IsSliceOf sl .none .none (.int (-1) u))
    (h : Q (.ref s.heap.objs.size) { s with heap := s.heap.push { cls := .type "tuple", data := .seq items.reverse.toArray } }) (hsz : items.length ≤ sizeLine) : wpAny (model prog w) A (getItem (.ref t) (.ref sl)) Q E s := by
  have hTs : s.TypeIs (.ref sl) "slice" := let ⟨os, g1, g2, _⟩ := hs; ⟨os, g1, g2⟩
  have hfit : sizeOk (.seq items.reverse.toArray) := by
    show items.reverse.toArray.size ≤ sizeLine
    rw [List.size_toArray, List.length_reverse]
    exact hsz
  unfold getItem
  try with_reducible refine wpAny_holding ?_
  first | refine wpAny_bind (wpAny_pure ?_) | skip
  refine wpAny_bind (wpAny_sequenceKey ht.typeIs (by decide) ?_)
  refine wpAny_bind (wpAny_callSpecial?_slot (name := Str.ofString "__getitem__") ht.typeIs PyProof.Rows.slot_tuple_getitem (wpAny_call_entry PyProof.Rows.slot_tuple_getitem ht.typeIs entry_tuple_getitem ?_ (args_tuple_getitem _ _)))
  show wpAny _ _ (Builtin.Tuple.tupleItemsOf (.ref t) >>= _) _ _ s
  refine wpAny_bind (tupleItemsOf_ ht (wpAny_bind (wpAny_typeOf hTs ?_)))
  rw [if_pos (by decide)]
  refine wpAny_bind (slApp_back hs ?_)
  have no : ¬ ((((items.toArray.size : Nat) : Int) - 1 == 0 && (-1 : Int) == 1 && items.toArray.size == items.toArray.size) = true) := by
    intro q
    rw [Bool.and_eq_true, Bool.and_eq_true] at q
    exact absurd (eq_of_beq q.1.2) (by decide)
  show wpAny _ _ (if (((items.toArray.size : Nat) : Int) - 1 == 0 && (-1 : Int) == 1 && items.toArray.size == items.toArray.size) = true then _ else _) _ _ s
  rw [if_neg no]
  have e : ((List.range items.toArray.size).filterMap fun (k : Nat) => items.toArray[(((items.toArray.size : Nat) : Int) - 1 + (k : Int) * (-1)).toNat]?) = items.reverse := by
    rw [List.size_toArray]
    exact pick_back items
  rw [e]
  first
    | exact wpAny_bind (m := Builtin.Tuple.tupleExact _) (wpAny_newObj_type (wpAny_pure ⟨_, rfl, wpAny_pure h⟩) hfit)
    | exact wpAny_bind (m := Builtin.Tuple.tupleExact _) (wpAny_newObj_type (wpAny_bind (wpAny_pure (wpAny_pure ⟨_, rfl, wpAny_pure h⟩))) hfit)
    | exact wpAny_bind (wpAny_bind (m := Builtin.Tuple.tupleExact _) (wpAny_newObj_type (wpAny_pure (wpAny_pure ⟨_, rfl, wpAny_pure h⟩)) hfit))
    | exact wpAny_bind (wpAny_bind (m := Builtin.Tuple.tupleExact _) (wpAny_newObj_type (wpAny_pure ⟨_, rfl, wpAny_pure h⟩) hfit))
end
section
variable {X : Cx}
def tRevT (K : PySem.W.Frag) (te : TE) : TE := fun σ H Q => te σ H fun x H1 => ∃ a xs, x = .ref a ∧ SqT K H1 a xs ∧ ∀ p, H1 p = none → Q (.ref p) (upd H1 p (.tup xs.reverse))
theorem pe_revT {e : Expr} {te : TE} {k : Nat} {p1 p2 p3 pos : Pos} (he : PE X e te) : PE X (.Subscript e (.Slice none none (some (.UnaryOp .USub (.Constant (.int 1) k p1) p2)) p3) pos) (tRevT X.K te) := by
  refine ⟨fun pins s σ H Q I h => Subscript_ (thn (he.run pins s σ H _ I h) fun v s1 ⟨x, H1, I1, r1, a, xs, ex, hx, q⟩ => ?_)⟩
  subst ex
  cases r1
  have hst : PO X (some (.UnaryOp .USub (.Constant (.int 1) k p1) p2)) (tPart (tUn (rU fun i => .int (-i)) (tC (.int 1)))) := po_some (pe_un un_neg pe_int)
  refine wpAny_Slice (thn (po_none.run pins s1 σ H1 (fun o H2 => o = none ∧ H2 = H1) I1 ⟨rfl, rfl⟩) fun vl s2 ⟨l, H2, I2, pl, el, e2⟩ => ?_)
  subst el e2
  refine thn (po_none.run pins s2 σ H2 (fun o H3 => o = none ∧ H3 = H2) I2 ⟨rfl, rfl⟩) fun vu s3 ⟨u, H3, I3, pu, eu, e3⟩ => ?_
  subst eu e3
  refine thn (hst.run pins s3 σ H3 (fun o H4 => o = some (-1) ∧ H4 = H3) I3 ⟨1, rfl, -1, rfl, rfl, rfl⟩) fun vs s4 ⟨o, H4, I4, ps, eo, e4⟩ => ?_
  subst eo e4
  have I5 : Inv X pins σ H4 { s4 with heap := s4.heap.push { cls := .type "slice", data := .fields #[vl, vu, vs] } } := I4.kept (t' := s4.toks) fun b ob q => Heap.get?_push_of_some _ q
  obtain ⟨its, r, ht, hz⟩ := I5.tuple hx
  have hlen := r.length
  cases pl
  cases pu
  obtain ⟨tk, rfl⟩ : ∃ tk, vs = .int (-1) tk := by
    cases ps
    exact ⟨_, rfl⟩
  show wpAny (model X.prog X.w) X.A (subscriptTail e (.Slice none none (some (.UnaryOp .USub (.Constant (.int 1) k p1) p2)) p3) (.ref a) (.ref s4.heap.objs.size)) (EP X pins σ Q) X.xe { s4 with heap := s4.heap.push { cls := .type "slice", data := .fields #[.none, .none, .int (-1) tk] } }
  refine tail_any (ops := [.ref a, .ref s4.heap.objs.size]) ht.typeIs PyProof.Rows.slot_tuple_getitem.lookup ?_ (by with_unfolding_all rfl)
  refine getItem_tuple_back ht (Heap.IsSliceOf.new _ _ _ _) ?_ (by omega)
  refine ⟨.ref _, _, I5.laid (t' := s4.toks) (o := .tup xs.reverse) (fun b ob q => Heap.get?_push_of_some _ q) (Nat.le_refl _) ?_, rfl, q _ (I5.hok.fresh (Nat.le_refl _))⟩
  exact ⟨by rw [List.length_reverse]; exact hz, _, r.reverse, ⟨_, Heap.get?_push_size _ rfl, rfl, _, rfl⟩⟩
end
theorem ext_tup (l : Addr) (items : Array Value) (n : Nat) (b : Addr) (items2 : Array Value) (n2 : Nat) (dd : Option Addr) (sl : Array (Option Value)) (hs0 : ¬(!items.isEmpty && Builtin.List.listTooLong (items.size + items2.size)) = true)
    (hs1 : items.size ≤ sizeLine) (hs2 : items.size + items2.size ≤ sizeLine + 1) :
    Meets (Builtin.«list.extend» ⟨[.ref l, .ref b], []⟩) (fun _ R s => s.heap.get? l = some { cls := .type "list", dict := none, data := .seq items n, slots := #[] } ∧ s.heap.get? b = some { cls := .type "tuple", dict := dd, data := .seq items2 n2, slots := sl } ∧
      R (.ok (.ret Value.none)) { s with heap := s.heap.update l (Obj.mapSeq fun x => x ++ items2), toks := s.toks }) :=
  .of_wp fun prog w A R s h => by
    obtain ⟨hp, g, d, tk, os⟩ := s
    obtain ⟨hl, hb, h⟩ := h
    have f1 := AutoSeq1.idx_int
    have f2 := AutoSeq1.sub_tuple_tuple
    have f3 := AutoSeq1.sub_list_list
    have f4 := AutoSeq1.sub_tuple_list
    have f5 := AutoSeq1.sub_list_tuple
    have hz' : (items ++ items2).size ≤ sizeLine + 1 := by
      rw [Array.size_append]
      exact hs2
    wp_walk using (wpAny_updateSeq hl rfl (hz := hs1) (_hz' := hz')), AutoSeq1.wpAny_loadPart' hl, AutoSeq1.wpAny_loadPart' hb
    exact ⟨_, rfl, h⟩
section
variable {X : Cx}
def rExtT (K : PySem.W.Frag) : V → List V → Hp → VK → Prop := fun x vs H Q => ∃ l b xs zs, x = .ref l ∧ vs = [.ref b] ∧ H l = some (.lst xs) ∧ SqT K H b zs ∧ xs.length + zs.length ≤ sizeLine ∧ Q .non (upd H l (.lst (xs ++ zs)))
theorem mt_extT : MtM X "list.extend" (rExtT X.K) := by
  intro pins s σ H x vs v us Q I rx rv h
  obtain ⟨l, b, xs, zs, rfl, rfl, hH, hB, hz, q⟩ := h
  cases rx
  obtain ⟨u, rfl, ru⟩ := rv.one
  cases ru
  obtain ⟨z, its, n, r, hl, e⟩ := I.lstM hH
  obtain ⟨its2, r2, ⟨⟨cls, dd, data, sl⟩, e2, hc, n2, hd⟩, hz2⟩ := I.tuple hB
  simp only at hc hd
  subst hc hd
  have hl2 := r2.length
  have hsz : its.toArray.size + its2.toArray.size ≤ sizeLine := by
    rw [List.size_toArray, List.size_toArray]
    omega
  have hlong : ¬ (!its.toArray.isEmpty && Builtin.List.listTooLong (its.toArray.size + its2.toArray.size)) = true := by
    rw [notLongL hsz, Bool.and_false]
    exact Bool.false_ne_true
  refine call_meets F.slot_list_extend ⟨_, e, rfl⟩ F.entry_list_extend (F.args_list_extend_2 _ _) (ext_tup l its.toArray n b its2.toArray n2 dd sl hlong (by rw [List.size_toArray]; omega) (by omega)) ⟨e, e2, ?_⟩
  refine ⟨.non, _, I.lset (its' := its ++ its2) hH e (by simp) (r.append r2) ?_, rfl, q⟩
  rw [List.length_append]
  omega
end
end TX
namespace TX
open PySem PySem.Spec PySem.Calls PyProof.Rows L2
open PySem.W (Frag InstAt findIn subIn hasDictIn specialIn takesIn mroIn clsIn Looks looks_findIn looks_find looks_subIn KitX)
section
variable {prog : Program} {w : World} {A : Around} {E : Value → Shared → Prop} {s : Shared} {K : Frag} {x D : Addr} {ox : Obj} {od : Option Obj}
theorem clsSome {D : Addr} (h : hasDictIn K D = true) : (clsIn K D).isSome = true := by
  unfold hasDictIn at h
  cases e : clsIn K D with
  | none => rw [e] at h; cases h
  | some c => rfl
theorem findData {C : Addr} {name : Str} {a g : Value} (hc : (clsIn K C).isSome = true) (ha : findIn K (.ref C) name = some (some a)) (hg : specialIn K a "__get__" = some (some g)) (ht : takesIn K a = some true) :
    PySem.W.findObj K C od name = some (.bind g a) := by
  obtain ⟨cd, hc⟩ := Option.isSome_iff_exists.mp hc
  simp [PySem.W.findObj, hc, ha, hg, ht]
/-- e.__class__ of an exception of an own class, with or without a dict of its own -/
theorem classOf {Q : Option Value → Shared → Prop} (T : ExcC K D) (X : K.In s.heap) (I : InstAt s.heap x ox D od) (h : Q (some (.ref D)) { s with toks := s.toks + 1 }) : wpAny (model prog w) A (getAttr? (.ref x) "__class__") Q E s := by
  have hf : PySem.W.findObj K D od "__class__" = some (.bind (.builtin "getset_descriptor.__get__") (.builtin "object.__class__")) := findData (clsSome T.hd) T.ha T.hn T.ht
  obtain ⟨hp, g, d, t, os⟩ := s
  have L0 := I.type (M := model prog w)
  have L1 := looks_findIn (M := model prog w) X T.hg
  have L2 := looks_findIn (M := model prog w) X T.hk
  have L3 := looks_find (M := model prog w) X I hf
  have sub : Looks (model prog w) hp (isInstance (.ref x) (.type "BaseException")) true := L0.andThen (looks_subIn X T.hs)
  have n0 : (false && onTheHeap (Value.builtin "BaseException.__getattribute__")) = false := rfl
  have n2 : (Value.builtin "BaseException.__getattribute__" == Value.builtin "object.__getattribute__") = false := by decide +kernel
  have n1 : (onTheHeap (Value.ref D) && Value.builtin "BaseException.__getattribute__" == Value.builtin "object.__getattribute__") = false := by
    rw [n2]
    rfl
  unfold getAttr? getAttrBy? getAttrBy
  refine wpAny_bind (wpAny_mkText (wpAny_bind (wpAny_attempt (wpAny_holding (wpAny_bind (L0.at (wpAny_bind (L1.at ?_))))))))
  show wpAny _ _ (if (onTheHeap (Value.ref D) && Value.builtin "BaseException.__getattribute__" == Value.builtin "object.__getattribute__") = true then _ else _) _ _ _
  rw [n1, if_neg Bool.false_ne_true]
  unfold getAttrByItsOwn hookBefore
  refine wpAny_bind ?_
  rw [if_pos (show onTheHeap (Value.ref D) = true from rfl)]
  refine L2.at (wpAny_bind (wpAny_attempt (wpAny_holding ?_)))
  unfold callGetattribute
  rw [n0, if_neg Bool.false_ne_true]
  unfold boundAndCalled
  rw [PySem.F.excAttr_ValueError.ga.bind (.ref x)]
  refine wpAny_bind (wpAny_pure ?_)
  show wpAny _ _ (call (.builtin "BaseException.__getattribute__") [.ref x, .str "__class__" t]) _ _ _
  refine wpAny_call (codeAny_call_builtin PySem.F.excAttr_ValueError.ga.plain PySem.F.entry_bexc_ga ?_)
  refine @PySem.W.check_slot (model prog w) _ _ ⟨hp, g, d, t + 1, os⟩ "BaseException.__getattribute__" "BaseException" "__getattribute__" (.ref x) [.str "__class__" t] [] _ (by decide +kernel) (by decide +kernel) sub (PySem.F.args_bexc_ga (.ref x) (.str "__class__" t)) ?_
  unfold Builtin.«object.__getattribute__»
  refine wpAny_bind (wpAny_of_eq (a := ((Value.ref x : Value), [Value.str "__class__" t])) (by first | rfl | (simp only [slotArgs]; rfl)) ?_)
  refine wpAny_bind (wpAny_pure (wpAny_bind (L0.at (wpAny_bind (L3.at ?_)))))
  show wpAny _ _ (holding [Value.builtin "object.__class__"] (call (.builtin "getset_descriptor.__get__") [.builtin "object.__class__", .ref x, .ref D]) >>= ret) _ _ _
  refine wpAny_bind (wpAny_holding (wpAny_call (PySem.W.class_get (s := ⟨hp, g, d, t + 1, os⟩) (ox := ox) (od := od) X I T.hm (wpAny_pure ?_))))
  show wpAny _ _ (handedOut (.ref D)) _ _ _
  rw [PySem.W.handedOut_of (v := .ref D) rfl]
  first
    | exact wpAny_pure (wpAny_pure h)
    | exact wpAny_pure h
    | exact wpAny_pure (wpAny_bind (wpAny_pure (wpAny_pure h)))
theorem kitE (T : ExcC K D) : KitX K (.ref x) (.ref D) (fun h => InstAt h x ox D od) where
  ty := fun _ _ _ I => I.type
  it := fun _ _ X _ => by
    obtain ⟨cd, hc⟩ := Option.isSome_iff_exists.mp (clsSome T.hd)
    unfold clsIn at hc
    split at hc
    · rename_i c' d' cd' sl' ho
      intro A' Q' E' s' k q
      unfold isType loadHead
      exact wpAny_bind (wpAny_loadPart (k _ _ (X _ _ ho)) (wpAny_pure q))
    · cases hc
  ne := fun h tp dd its n sl X htp => by
    obtain ⟨cd, hc⟩ := Option.isSome_iff_exists.mp (clsSome T.hd)
    refine Bool.eq_false_iff.mpr fun q => ?_
    have e : D = tp := Value.ref.inj (beq_iff_eq.mp q)
    subst e
    unfold clsIn at hc
    split at hc
    · rename_i c' d' cd' sl' ho
      have z := (X _ _ ho).symm.trans htp
      cases z
    · cases hc
  ca := fun X I k => classOf T X I k
end
/-- the exception that the suite holds, as the state has it -/
theorem atE {X : Cx} {pins : List (Addr × Obj)} {σ : L2.St} {H : Hp} {s : Shared} {a D : Addr} {oe : Obj} {d : Option Addr} {pn : List (Addr × Obj)} (I : Inv (X.suite a ((a, oe) :: pn)) pins σ H s) (hz : Zc (.ref D) d oe) (hf : ∃ vs, oe.data = .fields vs)
    (hd : ∀ dd, d = some dd → ∃ fs, H dd = some (.xd fs)) : ∃ od, InstAt s.heap a oe D od := by
  obtain ⟨hget, _⟩ := I.pin (a, oe) (List.mem_append.mpr (.inl List.mem_cons_self))
  obtain ⟨vs, hv⟩ := hf
  obtain ⟨oc, odd, oda, osl⟩ := oe
  obtain ⟨h1, h2⟩ := hz
  dsimp only at h1 h2 hv
  subst h1 h2 hv
  cases odd with
  | none => exact ⟨none, hget, rfl, rfl, trivial⟩
  | some dd =>
    obtain ⟨fs, hx⟩ := hd dd rfl
    have ob : ObjOk X.prog X.w H s.heap dd (.xd fs) := I.hok dd _ hx
    obtain ⟨mA, ⟨o, es, ep, ho, _⟩, _⟩ := ob
    exact ⟨some o, hget, rfl, rfl, ho⟩
/-- isinstance(e, c) -/
def rIsE2 (K : Frag) (D a : Addr) (d : Option Addr) : List V → Hp → VK → Prop := fun xs H Q => ∃ (c : V) (cv : Value) (b : Bool), xs = [.ref a, c] ∧ ClsV c cv ∧ PySem.W.kitOne K (.ref D) cv = some b ∧ (∀ dd, d = some dd → ∃ fs, H dd = some (.xd fs)) ∧ Q (.bl b) H
theorem call_isE2 {X : Cx} {a D : Addr} {oe : Obj} {d : Option Addr} {pn : List (Addr × Obj)} (C : ExcC X.K D) (hz : Zc (.ref D) d oe) (hf : ∃ vs, oe.data = .fields vs) : CallR (X.suite a ((a, oe) :: pn)) (.builtin "isinstance") (rIsE2 X.K D a d) := by
  intro pins s σ H xs us Q I r h
  obtain ⟨c, cv, b, rfl, hcv, e, hd, q⟩ := h
  obtain ⟨u1, u2, rfl, r1, r2⟩ := vals2 r
  cases (show u1 = Value.ref a from r1)
  cases hcv.eq r2
  obtain ⟨od, J⟩ := atE I hz hf hd
  exact PySem.W.kia_one (kitE C) I.kIn J e (fun z => nomatch z) fun tk => ⟨.bl b, H, I.tok tk, rfl, q⟩
/-- isinstance(e, (c1, c2, ..)) -/
def rIsET (K : Frag) (D a : Addr) (d : Option Addr) : List V → Hp → VK → Prop := fun xs H Q => ∃ (tp : Addr) (cs : List V) (us : List Value) (b : Bool), xs = [.ref a, .ref tp] ∧ H tp = some (.tup cs) ∧ Paired ClsV cs us ∧ PySem.W.kitAny K (.ref D) us = some b ∧
  (∀ dd, d = some dd → ∃ fs, H dd = some (.xd fs)) ∧ Q (.bl b) H
theorem call_isET {X : Cx} {a D : Addr} {oe : Obj} {d : Option Addr} {pn : List (Addr × Obj)} (C : ExcC X.K D) (hz : Zc (.ref D) d oe) (hf : ∃ vs, oe.data = .fields vs) : CallR (X.suite a ((a, oe) :: pn)) (.builtin "isinstance") (rIsET X.K D a d) := by
  intro pins s σ H xs us Q I r h
  obtain ⟨tp, cs, ws, b, rfl, hT, k, e, hd, q⟩ := h
  obtain ⟨u1, u2, rfl, r1, r2⟩ := vals2 r
  cases (show u1 = Value.ref a from r1)
  cases (show u2 = Value.ref tp from r2)
  obtain ⟨_, its, rv, o, h1, h2, n, h3⟩ := (show ObjOk X.prog X.w H s.heap tp (.tup cs) from I.hok tp _ hT)
  cases ClsV.all k rv
  obtain ⟨oc, odd, dt, sl⟩ := o
  simp only at h2 h3
  subst h2 h3
  obtain ⟨od, J⟩ := atE I hz hf hd
  exact PySem.W.kia_tup (kitE C) I.kIn J h1 e (fun z => nomatch z) fun tk => ⟨.bl b, H, I.tok tk, rfl, q⟩
/-! ### X(), an own exception class whose __init__ stores nothing -/
def tMkN (C : Addr) (sp : Sp) : L2.St → Hp → XK → Prop := fun _ H Q => ∀ a, H a = none → sp [.ref a] (upd H a (exo a C none)) (fun v H2 => v = .non ∧ H2 a = some (exo a C none) ∧ Q (.ref C) none (del H2 a)) (fun _ _ _ => False)
theorem pmk_oexN {X : Cx} {CX : CXT} {x : Str} {C fI : Addr} {k : Nat} {fd : FuncData} {ps : List Str} {sp : Sp} {p pos : Pos} (T : OexC X.K C) (iC : findIn X.K (.ref C) "__init__" = some (some (.ref fI))) (tI : PySem.W.typeIn X.K (.ref fI) = some (.type "function"))
    (F1 : FnOk X.prog X.w X.K X.mg X.base CX k fI fd ps sp) (hr : Room (k + 1) X.A) (hb : Binds X.K fd ps []) (hx : Passes CX X (fun _ _ _ => False)) (hg : Gl X x) (hm : X.mg x = some (.ref C)) (hdb : (x == ("__debug__" : Str)) = false := by decide) :
    PMk X (.Call (.Name x p) [] [] pos) (tMkN C sp) := by
  intro pins s σ H Q I h
  obtain ⟨nm, q, N, bs, bm, sn, sub, ab, col, dd, k0, k1, k2, k3, k5, hC, hbm⟩ := T.cls
  refine wpAny_Call_Name_kw (ld_glob I hg hm (PySem.W.callWith_K0 I.kIn T.kC ?_) hdb)
  obtain ⟨hp, g, dr, tk, os⟩ := s
  have hsz : hp.objs.size ≤ hp.objs.size + 1 := Nat.le_succ _
  have hn : H (hp.objs.size + 1) = none := I.hok.fresh hsz
  have hq := h (hp.objs.size + 1) hn
  have kk : ∀ b o, hp.get? b = some o → ((hp.push (PySem.W.kdv_tup [])).push (PySem.HandSPX.excO C hp.objs.size)).get? b = some o := fun b o e => Heap.get?_push_of_some _ (Heap.get?_push_of_some _ e)
  have hget : ((hp.push (PySem.W.kdv_tup [])).push (PySem.HandSPX.excO C hp.objs.size)).get? (hp.objs.size + 1) = some (PySem.HandSPX.excO C hp.objs.size) := by heap_get
  have I2 : Inv X pins σ (upd H (hp.objs.size + 1) (exo (hp.objs.size + 1) C none)) ⟨(hp.push (PySem.W.kdv_tup [])).push (PySem.HandSPX.excO C hp.objs.size), g, dr, tk, os⟩ :=
    I.laid (t' := tk) (a := hp.objs.size + 1) (o := exo (hp.objs.size + 1) C none) (h' := (hp.push (PySem.W.kdv_tup [])).push (PySem.HandSPX.excO C hp.objs.size)) kk hsz (exo_ok hget)
  have r2 : Vals [V.ref (hp.objs.size + 1)] [Value.ref (hp.objs.size + 1)] := .cons rfl .nil
  have hl : ([Value.ref (hp.objs.size + 1)] ++ ([] : List Value)).length = ps.length := (F1.len _ _ _ _ hq).symm ▸ rfl
  refine wpAny_call (PySem.HandSPX.call_own F.excBase_ValueError (fun Y => PySem.HandSPX.refsVE_contains Y bm hbm) (I.kIn _ _ hC) (looks_findIn I.kIn iC) (fun self => PySem.W.bind_fn I.kIn self tI) (by show 0 ≤ sizeLine; exact Nat.zero_le _)
    (codeAny_mono (F1.run _ X.stack _ _ ⟨[Value.ref (hp.objs.size + 1)], []⟩ [Value.ref (hp.objs.size + 1)] _ _ (fun _ _ _ => False) (hr.make C [] []) (I2.env0.make C [] []) (hb _ [Value.ref (hp.objs.size + 1)] I2.kIn hl) r2 hq) fun r s' hq' => ?_))
  cases r with
  | error er => exact hx pins σ _ _ er s' I2 hq'
  | ok fl => cases fl with
    | next => exact False.elim hq'
    | brk => exact False.elim hq'
    | cont => exact False.elim hq'
    | ret u =>
      obtain ⟨v, H2, os2, bare2, un2, hok2, rv, ev, ea, q2⟩ := hq'
      subst ev
      refine ⟨rv, ?_⟩
      obtain ⟨h2, g2, d2, t2, os'⟩ := s'
      generalize hA : hp.objs.size + 1 = a at *
      obtain ⟨t0, hoe⟩ := exo_at hok2 ea
      obtain ⟨G, g1', g2'⟩ := restrict h2 fun b => decide (b ≠ a)
      have gk : ∀ b, b ≠ a → G.get? b = h2.get? b := fun b hb => g1' b (decide_eq_true hb)
      have ge : G.get? a = none := g2' a (by simp)
      have nha : ∀ {b : Addr} {o : Obj}, hp.get? b = some o → b ≠ a := fun {b o} z => Nat.ne_of_lt (Nat.lt_of_lt_of_le (Heap.lt_size z) hsz)
      have up : ∀ {b : Addr}, b ≠ a → H b = none → upd H a (exo a C none) b = none := fun {b} hb n => by
        rw [upd_ne hb]
        exact n
      have U : Un (frs X.stack) [] H (del H2 a) hp G := {
        keep := fun b o z n hf hx => (gk b (nha z)).trans (un2.keep b o (kk b o z) (up (nha z) n) hf hx)
        slot := fun b o z n hf hx => by
          rw [gk b (nha z)]
          exact un2.slot b o (kk b o z) (up (nha z) n) hf hx
        free := fun b o z n hx => by
          rw [del_ne (nha z)]
          exact un2.free b o (kk b o z) (up (nha z) n) hx
        there := fun b o z hx => by
          rw [gk b (nha z)]
          exact un2.there b o (kk b o z) hx
        tups := fun b xs z => by
          rw [del_ne (ne_of_none z hn)]
          exact un2.tups b xs (by rw [upd_ne (ne_of_none z hn)]; exact z)
        frzs := fun b o v z => by
          rw [del_ne (ne_of_none z hn)]
          exact un2.frzs b o v (by rw [upd_ne (ne_of_none z hn)]; exact z)
        tbls := fun b ps z => by
          rw [del_ne (ne_of_none z hn)]
          exact un2.tbls b ps (by rw [upd_ne (ne_of_none z hn)]; exact z) }
      have hok3 : HOk X.prog X.w (del H2 a) G := fun b o z => by
        have hba : b ≠ a := fun e => by
          rw [e, del_same] at z
          cases z
        rw [del_ne hba] at z
        have noa : ∀ {c : Addr}, H2 c = some (.own b) → c ≠ a := fun {c} hc => at_ne ea hc exo_own
        refine (hok2 b o z).stay (fun c v hc y => ?_) (fun c hc => by rw [del_ne (noa hc)]; exact hc) (fun c xs hc => by rw [del_ne (at_ne ea hc exo_tup)]; exact hc)
        have hca : c ≠ a := hc.elim (fun e => e ▸ hba) noa
        exact (gk c hca).trans y
      have J : Inv X pins σ (del H2 a) ⟨G, g2, d2, t2, os'⟩ := I.call' (ch := []) os2 U hok3 bare2 (fun b z => absurd z (by simp))
      refine ⟨a, _, _, ⟨G, g2, d2, t2, os'⟩, _, .ref C, none, rfl, J, fun b o z => ?_, ge, hoe, ⟨rfl, rfl⟩, rfl, rfl, del_same, rfl, bare2, raises_own T.exC T.tyC, q2⟩
      by_cases hba : b = a
      · rw [hba] at z
        have z' : G.get? a = some o := z
        rw [ge] at z'
        cases z'
      · exact (gk b hba).symm.trans z
end TX
namespace TX
open PySem PySem.Spec PyProof.Rows L2
def top (i : Nat) : Stmt := PySem.Challenge.pw_textorlist_k01_values_checked.main.body.getD i (.Pass ⟨0, 0, 0, 0⟩)
abbrev sParts : Stmt := top 1
abbrev sCopy : Stmt := top 2
abbrev cTextorlistError : Stmt := top 4
abbrev cBadValue : Stmt := top 5
abbrev mBadValue_init : Stmt := inClass (top 5) 0
abbrev mBadValue_str : Stmt := inClass (top 5) 1
abbrev cNoPlace : Stmt := top 6
abbrev mNoPlace_init : Stmt := inClass (top 6) 0
abbrev mNoPlace_str : Stmt := inClass (top 6) 1
abbrev cBadProgram : Stmt := top 7
abbrev mBadProgram_init : Stmt := inClass (top 7) 0
abbrev mBadProgram_str : Stmt := inClass (top 7) 1
abbrev s_is_text : Stmt := top 10
abbrev s_place_of_last : Stmt := top 11
abbrev s_first_fault : Stmt := top 12
abbrev s_check_value : Stmt := top 13
abbrev s_is_value : Stmt := top 14
abbrev sBag : Stmt := top 16
abbrev sTake : Stmt := top 17
abbrev sText : Stmt := top 18
abbrev sSize : Stmt := top 19
abbrev sValue : Stmt := top 20
abbrev sGreat : Stmt := top 21
abbrev s__law_spots : Stmt := top 22
abbrev s__law_put : Stmt := top 23
abbrev s__law_odd : Stmt := top 24
abbrev s__law_wrong : Stmt := top 25
abbrev sTold : Stmt := top 26
abbrev sLaw : Stmt := top 27
end TX
namespace TX
open PySem PySem.Spec PyProof.Rows L2
/-! ### the walk over data: a step takes the first of the parts that wait -/
inductive Stp (K : PySem.W.Frag) (H : Hp) : List V × List PyData → V → List V × List PyData → Prop
  | leaf {v : V} {d : PyData} {r : List V} {rd : List PyData} : Dp K H v d → (tyD d == "list" || tyD d == "tuple") = false → Stp K H (v :: r, d :: rd) v (r, rd)
  | lst {a : Addr} {xs r : List V} {es rd : List PyData} : SqL K H a xs → DpAll K H xs es → Stp K H (.ref a :: r, .list es :: rd) (.ref a) (xs ++ r, es ++ rd)
  | tup {a : Addr} {xs r : List V} {es rd : List PyData} : SqT K H a xs → DpAll K H xs es → Stp K H (.ref a :: r, .tuple es :: rd) (.ref a) (xs ++ r, es ++ rd)
/-- the parts so far, the last one first -/
inductive Path (K : PySem.W.Frag) (H : Hp) (S0 : List V × List PyData) : List V → List V × List PyData → Prop
  | nil : Path K H S0 [] S0
  | cons {rs : List V} {S S' : List V × List PyData} {p : V} : Path K H S0 rs S → Stp K H S p S' → Path K H S0 (p :: rs) S'
theorem isLT (d : PyData) (K : PySem.W.Frag) : PySem.W.kitAny K (.type (tyD d)) [.type "list", .type "tuple"] = some (tyD d == "list" || tyD d == "tuple") := by
  cases d with
  | none => exact kitAny_cons (b := false) (kit_ty (a := "NoneType") (b := "list") (by decide +kernel)) (fun _ => kitAny_cons (b := false) (kit_ty (a := "NoneType") (b := "tuple") (by decide +kernel)) (fun _ => kitAny_nil) (fun z => nomatch z)) (fun z => nomatch z)
  | bool _ => exact kitAny_cons (b := false) (kit_ty (a := "bool") (b := "list") (by decide +kernel)) (fun _ => kitAny_cons (b := false) (kit_ty (a := "bool") (b := "tuple") (by decide +kernel)) (fun _ => kitAny_nil) (fun z => nomatch z)) (fun z => nomatch z)
  | int _ => exact kitAny_cons (b := false) (kit_ty (a := "int") (b := "list") (by decide +kernel)) (fun _ => kitAny_cons (b := false) (kit_ty (a := "int") (b := "tuple") (by decide +kernel)) (fun _ => kitAny_nil) (fun z => nomatch z)) (fun z => nomatch z)
  | str _ => exact kitAny_cons (b := false) (kit_ty (a := "str") (b := "list") (by decide +kernel)) (fun _ => kitAny_cons (b := false) (kit_ty (a := "str") (b := "tuple") (by decide +kernel)) (fun _ => kitAny_nil) (fun z => nomatch z)) (fun z => nomatch z)
  | dict _ => exact kitAny_cons (b := false) (kit_ty (a := "dict") (b := "list") (by decide +kernel)) (fun _ => kitAny_cons (b := false) (kit_ty (a := "dict") (b := "tuple") (by decide +kernel)) (fun _ => kitAny_nil) (fun z => nomatch z)) (fun z => nomatch z)
  | list _ => exact kitAny_cons (b := true) (kit_ty (a := "list") (b := "list") (by decide +kernel)) (fun z => nomatch z) (fun _ => rfl)
  | tuple _ => exact kitAny_cons (b := false) (kit_ty (a := "tuple") (b := "list") (by decide +kernel)) (fun _ => kitAny_cons (b := true) (kit_ty (a := "tuple") (b := "tuple") (by decide +kernel)) (fun z => nomatch z) (fun _ => rfl)) (fun z => nomatch z)
/-- what the walk asks of the names of the top -/
structure Nm (mg : Str → Option Value) : Prop where
  isi : mg "isinstance" = none
  lst : mg "list" = none
  tpl : mg "tuple" = none
def spParts (K : PySem.W.Frag) : Sp := fun vs H Q _ => ∃ (v : V) (d : PyData) (Hv : Hp), vs = [v] ∧ Same Hv H ∧ Dp K Hv v d ∧ nd d ≤ 1000000 ∧
  ∀ (H' : Hp) (p : Addr) (rs : List V), Same H H' → H p = none → H' p = some (.lst rs.reverse) → Path K Hv ([v], [d]) rs ([], []) → rs.length = nd d → Q (.ref p) H'
section
variable {P : Program} {w : World} {K : PySem.W.Frag} {mg : Str → Option Value} {base : Heap}
theorem scParts : FnScope ["thing", "waiting", "parts", "part"] ["thing"] (defScope sParts) := ⟨rfl, rfl, rfl, by decide +kernel, rfl, by decide +kernel, by decide +kernel⟩
theorem ok_parts {f : Addr} {fd : FuncData} {k : Nat} (F : Fun K "all_parts" "all_parts" sParts f fd) (T : Nm mg) : FnOk P w K mg base CX0 (k + 1) f fd ["thing"] (spParts K) := by
  refine F.ok scParts (fun vs H Q E h => ?_) (fun cdv A outer s H vs Q E hr h => ?_)
  · obtain ⟨v, d, Hv, rfl, _⟩ := h
    rfl
  · obtain ⟨v, d, Hv, rfl, sv, hd, hn, q⟩ := h
    refine ⟨_, pss_cons (ps_set (i := 1) scParts.nd rfl (.inl rfl) (pe_lst (pa_cons (pv 0) pa_nil)))
      (pss_cons (ps_set (i := 2) scParts.nd rfl (.inl rfl) (pe_lst pa_nil))
      (pss_cons (ps_while PassesOwn.never (pt_truth (pv 1) (by intro _; rfl))
        (pss_cons (ps_set (i := 3) scParts.nd rfl (.inl rfl) (pe_bm0 PySem.F.plainAttrs_list PySem.F.slot_list_pop PySem.F.type_list_pop mt_pop (pv 1)))
        (pss_cons (ps_expr (pe_bm PySem.F.plainAttrs_list PySem.F.slot_list_append PySem.F.type_list_append mt_append (pv 2) (pa_cons (pv 3) pa_nil)))
        (pss_one (ps_if (pt_val (pe_callB call_isiT (by rfl) T.isi (by decide +kernel) (pa_cons (pv 3) (pa_cons (pe_tup (pa_cons (pe_bltn (v := .ty "list") (by rfl) T.lst (by decide +kernel) rfl) (pa_cons (pe_bltn (v := .ty "tuple") (by rfl) T.tpl (by decide +kernel) rfl) pa_nil))) pa_nil))))
          (pss_one (ps_alt (ps_expr (pe_bm PySem.F.plainAttrs_list PySem.F.slot_list_extend PySem.F.type_list_extend mt_extend (pv 1) (pa_cons (pe_revL (pv 3)) pa_nil)))
            (ps_expr (pe_bm PySem.F.plainAttrs_list PySem.F.slot_list_extend PySem.F.type_list_extend mt_extT (pv 1) (pa_cons (pe_revT (pv 3)) pa_nil)))))
          pss_nil)))))
      (pss_one (ps_ret (pv 2))))), ?_⟩
    refine ⟨_, rfl, (by show 1 ≤ sizeLine; decide), fun wa nwa => ⟨by decide, fun pa npa => ?_⟩⟩
    have nwa' : pa ≠ wa := fun e => by
      rw [e, upd_same] at npa
      cases npa
    have npa0 : H pa = none := by
      rw [upd_ne nwa'] at npa
      exact npa
    -- the invariant
    refine ⟨fun m σ H1 => ∃ (rs : List V) (S : List V × List PyData) (y : Option V), σ = [some v, some (.ref wa), some (.ref pa), y] ∧ Same H H1 ∧ H1 wa = some (.lst S.1.reverse) ∧ H1 pa = some (.lst rs.reverse) ∧
      DpAll K Hv S.1 S.2 ∧ Path K Hv ([v], [d]) rs S ∧ rs.length + ndAll S.2 = nd d ∧ m = ndAll S.2, ⟨_, [], ([v], [d]), none, rfl, (same_upd nwa).trans (same_upd npa), ?_, upd_same, .cons hd .nil, .nil, ?_, rfl⟩, ?_⟩
    · rw [upd_ne nwa'.symm, upd_same]
      rfl
    · simp [ndAll]
    rintro m σ H1 ⟨rs, ⟨vs, ds⟩, y, rfl, sm, hw, hp, hS, hP, hc, rfl⟩
    refine ⟨_, rfl, _, .inl ⟨_, SqL.of hw, rfl⟩, ?_⟩
    cases hS with
    | nil =>
      -- nothing waits any more
      refine iteF ?_
      refine ⟨_, rfl, q H1 pa rs sm npa0 hp hP ?_⟩
      simpa [ndAll] using hc
    | @cons v1 r1 d1 rd1 h1 h2 =>
      have hne : (!((v1 :: r1, d1 :: rd1) : List V × List PyData).1.reverse.isEmpty) = true := by simp
      rw [hne]
      refine iteT ?_
      have hlen : rs.length + (nd d1 + ndAll rd1) = nd d := by simpa [ndAll] using hc
      have hrl : rs.length ≤ 1000000 := by omega
      have hvl : r1.length ≤ ndAll rd1 := by
        have e := DpAll.length h2
        have e2 := ndAll_len rd1
        omega
      refine ⟨fun σ' H2 => ∃ (S' : List V × List PyData), σ' = [some v, some (.ref wa), some (.ref pa), some v1] ∧ Same H H2 ∧ H2 wa = some (.lst S'.1.reverse) ∧ H2 pa = some (.lst (v1 :: rs).reverse) ∧ DpAll K Hv S'.1 S'.2 ∧ Stp K Hv (v1 :: r1, d1 :: rd1) v1 S' ∧ ndAll S'.2 + 1 = nd d1 + ndAll rd1, ?_, ?_⟩
      · rintro σ' H2 ⟨S', rfl, g1, g2, g3, g4, g5, g6⟩
        exact ⟨_, by simp only [ndAll]; omega, v1 :: rs, S', _, rfl, g1, g2, g3, g4, .cons hP g5, by rw [List.length_cons]; omega, rfl⟩
      -- part = waiting.pop()
      have ep : ((v1 :: r1, d1 :: rd1) : List V × List PyData).1.reverse = r1.reverse ++ [v1] := by simp
      rw [ep] at hw
      refine ⟨_, rfl, .inl ⟨rfl, _, SqL.of hw⟩, wa, _, v1, rfl, rfl, hw, by simp, ?_⟩
      rw [List.dropLast_concat]
      have sm1 : Same H (upd H1 wa (.lst r1.reverse)) := same_fresh nwa sm
      have hp1 : (upd H1 wa (.lst r1.reverse)) pa = some (.lst rs.reverse) := by
        rw [upd_ne nwa']
        exact hp
      -- parts.append(part)
      refine ⟨_, rfl, .inl ⟨rfl, _, SqL.of hp1⟩, _, rfl, pa, _, _, rfl, rfl, hp1, Nat.lt_of_le_of_lt (by simpa using hrl) (by decide), ?_⟩
      have sm2 := same_fresh (o := .lst (rs.reverse ++ [v1])) npa0 sm1
      have hw2 : (upd (upd H1 wa (.lst r1.reverse)) pa (.lst (rs.reverse ++ [v1]))) wa = some (.lst r1.reverse) := by
        rw [upd_ne nwa'.symm, upd_same]
      have hp2 : (upd (upd H1 wa (.lst r1.reverse)) pa (.lst (rs.reverse ++ [v1]))) pa = some (.lst (rs.reverse ++ [v1])) := upd_same
      -- if isinstance(part, (list, tuple))
      refine ⟨_, rfl, by decide, fun tp ntp => ?_⟩
      have t1 : wa ≠ tp := ne_of_none hw2 ntp
      have t2 : pa ≠ tp := ne_of_none hp2 ntp
      have sm3 : Same H (upd (upd (upd H1 wa (.lst r1.reverse)) pa (.lst (rs.reverse ++ [v1]))) tp (.tup [.ty "list", .ty "tuple"])) := sm2.trans (same_upd ntp)
      have hw3 : (upd (upd (upd H1 wa (.lst r1.reverse)) pa (.lst (rs.reverse ++ [v1]))) tp (.tup [.ty "list", .ty "tuple"])) wa = some (.lst r1.reverse) := by
        rw [upd_ne t1]
        exact hw2
      have hp3 : (upd (upd (upd H1 wa (.lst r1.reverse)) pa (.lst (rs.reverse ++ [v1]))) tp (.tup [.ty "list", .ty "tuple"])) pa = some (.lst (rs.reverse ++ [v1])) := by
        rw [upd_ne t2]
        exact hp2
      refine ⟨v1, tp, _, .type (tyD d1), [.type "list", .type "tuple"], _, rfl, upd_same, .cons (.ty _) (.cons (.ty _) .nil), dp_ty (dp_same (sv.trans sm3) _ _ h1), isLT d1 K, _, rfl, ?_⟩
      have er : (v1 :: rs).reverse = rs.reverse ++ [v1] := by simp
      generalize hG : upd (upd (upd H1 wa (.lst r1.reverse)) pa (.lst (rs.reverse ++ [v1]))) tp (.tup [.ty "list", .ty "tuple"]) = G at sm3 hw3 hp3
      -- what the reversed part puts behind
      have go : ∀ (rp : Addr) (o : HO) (xs : List V) (es : List PyData), G rp = none → DpAll K Hv xs es → nd d1 = ndAll es + 1 → Stp K Hv (v1 :: r1, d1 :: rd1) v1 (xs ++ r1, es ++ rd1) →
          ∃ S' : List V × List PyData, Same H (upd (upd G rp o) wa (.lst (r1.reverse ++ xs.reverse))) ∧ (upd (upd G rp o) wa (.lst (r1.reverse ++ xs.reverse))) wa = some (.lst S'.1.reverse) ∧
            (upd (upd G rp o) wa (.lst (r1.reverse ++ xs.reverse))) pa = some (.lst (v1 :: rs).reverse) ∧ DpAll K Hv S'.1 S'.2 ∧ Stp K Hv (v1 :: r1, d1 :: rd1) v1 S' ∧ ndAll S'.2 + 1 = nd d1 + ndAll rd1 := by
        intro rp o xs es nrp hxs hnd hst
        refine ⟨(xs ++ r1, es ++ rd1), same_fresh nwa (sm3.trans (same_upd nrp)), ?_, ?_, DpAll.append hxs h2, hst, ?_⟩
        · rw [upd_same]
          simp
        · rw [upd_ne nwa', upd_ne (ne_of_none hp3 nrp), er]
          exact hp3
        · show ndAll (es ++ rd1) + 1 = _
          rw [ndAll_append]
          omega
      have fit : ∀ (xs : List V) (es : List PyData), DpAll K Hv xs es → nd d1 = ndAll es + 1 → r1.reverse.length + xs.reverse.length ≤ sizeLine := by
        intro xs es hxs hnd
        have e1 := DpAll.length hxs
        have e2 := ndAll_len es
        rw [List.length_reverse, List.length_reverse]
        exact Nat.le_trans (show r1.length + xs.length ≤ 1000000 by omega) (by decide)
      have wne : ∀ {rp : Addr}, G rp = none → wa ≠ rp := fun h => ne_of_none hw3 h
      have leafy : (tyD d1 == "list" || tyD d1 == "tuple") = false → nd d1 = 1 → if (tyD d1 == "list" || tyD d1 == "tuple") = true then False else ∃ S' : List V × List PyData, Same H G ∧ G wa = some (.lst S'.1.reverse) ∧ G pa = some (.lst (v1 :: rs).reverse) ∧ DpAll K Hv S'.1 S'.2 ∧ Stp K Hv (v1 :: r1, d1 :: rd1) v1 S' ∧ ndAll S'.2 + 1 = nd d1 + ndAll rd1 := by
        intro e1 e2
        rw [e1]
        refine iteF ⟨(r1, rd1), sm3, hw3, by rw [er]; exact hp3, h2, .leaf h1 e1, ?_⟩
        show ndAll rd1 + 1 = _
        omega
      cases h1 with
      | non => exact let ⟨S', g⟩ := leafy rfl rfl; ⟨S', rfl, g⟩
      | bl b => exact let ⟨S', g⟩ := leafy rfl rfl; ⟨S', rfl, g⟩
      | int i => exact let ⟨S', g⟩ := leafy rfl rfl; ⟨S', rfl, g⟩
      | str x => exact let ⟨S', g⟩ := leafy rfl rfl; ⟨S', rfl, g⟩
      | @lst a xs es g1 g2 =>
        refine iteT (.inl ?_)
        refine ⟨_, rfl, .inl ⟨rfl, _, SqL.of hw3⟩, _, rfl, a, xs, rfl, (sv.trans sm3).seq g1, fun rp nrp => ?_⟩
        obtain ⟨S', g⟩ := go rp (.lst xs.reverse) xs es nrp g2 rfl (.lst g1 g2)
        exact ⟨wa, rp, _, _, rfl, rfl, by rw [upd_ne (wne nrp)]; exact hw3, upd_same, fit xs es g2 rfl, S', rfl, g⟩
      | @tup a xs es g1 g2 =>
        refine iteT (.inr ?_)
        refine ⟨_, rfl, .inl ⟨rfl, _, SqL.of hw3⟩, _, rfl, a, xs, rfl, same_sqt (sv.trans sm3) g1, fun rp nrp => ?_⟩
        obtain ⟨S', g⟩ := go rp (.tup xs.reverse) xs es nrp g2 rfl (.tup g1 g2)
        exact ⟨wa, rp, _, _, rfl, rfl, by rw [upd_ne (wne nrp)]; exact hw3, .inl (.inl upd_same), fit xs es g2 rfl, S', rfl, g⟩
end
end TX
namespace TX
open PySem PySem.Spec PyProof.Rows L2
/-- what is new behind H, but the place x -/
def newB (H : Hp) (x : Addr) (H' : Hp) : Hp := fun b => if b = x then none else match H b with
  | none => H' b
  | some _ => none
def newp (H H' : Hp) : Hp := fun b => match H b with
  | none => H' b
  | some _ => none
theorem newp_at {H H' : Hp} {b : Addr} (h : H b = none) : newp H H' b = H' b := by
  unfold newp
  rw [h]
theorem newp_old {H H' : Hp} {b : Addr} {o : HO} (h : H b = some o) : newp H H' b = none := by
  unfold newp
  rw [h]
theorem newp_less {H H1 H2 : Hp} (h : Same H H1) : Same (newp H1 H2) (newp H H2) := fun b o e => by
  cases h1 : H1 b with
  | some u =>
    rw [newp_old h1] at e
    cases e
  | none =>
    rw [newp_at h1] at e
    rw [newp_at (h.free h1)]
    exact e
theorem newB_newp {H H' : Hp} {x : Addr} : Same (newB H x H') (newp H H') := fun b o e => by
  unfold newB at e
  by_cases hb : b = x
  · rw [if_pos hb] at e
    cases e
  · rw [if_neg hb] at e
    exact e
theorem newp_same {H H' : Hp} : Same (newp H H') H' := fun b o e => by
  cases h : H b with
  | none =>
    rw [newp_at h] at e
    exact e
  | some u =>
    rw [newp_old h] at e
    cases e
theorem newB_at {H H' : Hp} {x b : Addr} (h : H b = none) (hx : b ≠ x) : newB H x H' b = H' b := by
  unfold newB
  rw [if_neg hx, h]
theorem newB_mono {H H1 H2 : Hp} {x : Addr} (h : ∀ b o, b ≠ x → H1 b = some o → H2 b = some o) : Same (newB H x H1) (newB H x H2) := fun b o e => by
  by_cases hb : b = x
  · unfold newB at e
    rw [if_pos hb] at e
    cases e
  · cases hh : H b with
    | none =>
      rw [newB_at hh hb] at e ⊢
      exact h b o hb e
    | some u =>
      unfold newB at e
      rw [if_neg hb, hh] at e
      cases e
/-- a leaf is data in any heap -/
theorem dp_leaf {K : PySem.W.Frag} {H H' : Hp} {v : V} {d : PyData} (h : Dp K H v d) (e : (tyD d == "list" || tyD d == "tuple") = false) : Dp K H' v d := by
  cases h with
  | non => exact .non
  | bl b => exact .bl b
  | int i => exact .int i
  | str x => exact .str x
  | lst _ _ => simp [tyD] at e
  | tup _ _ => simp [tyD] at e
def spCopy (K : PySem.W.Frag) : Sp := fun vs H Q _ => ∃ (v : V) (d : PyData) (Hv : Hp), vs = [v] ∧ Same Hv H ∧ Dp K Hv v d ∧ nd d ≤ 1000000 ∧
  ∀ (H' : Hp) (v' : V), Same H H' → Dp K (newp H H') v' d → Q v' H'
theorem kit1 (d : PyData) (K : PySem.W.Frag) : PySem.W.kitOne K (.type (tyD d)) (.type "tuple") = some (tyD d == "tuple") := by
  cases d with
  | none => exact (kit_ty (a := "NoneType") (b := "tuple") (r := false) (by decide +kernel)).trans (by simp [tyD])
  | bool _ => exact (kit_ty (a := "bool") (b := "tuple") (r := false) (by decide +kernel)).trans (by simp [tyD])
  | int _ => exact (kit_ty (a := "int") (b := "tuple") (r := false) (by decide +kernel)).trans (by simp [tyD])
  | str _ => exact (kit_ty (a := "str") (b := "tuple") (r := false) (by decide +kernel)).trans (by simp [tyD])
  | list _ => exact (kit_ty (a := "list") (b := "tuple") (r := false) (by decide +kernel)).trans (by simp [tyD])
  | tuple _ => exact (kit_ty (a := "tuple") (b := "tuple") (r := true) (by decide +kernel)).trans (by simp [tyD])
  | dict _ => exact (kit_ty (a := "dict") (b := "tuple") (r := false) (by decide +kernel)).trans (by simp [tyD])
theorem rev_drop {c : List V} {j : Nat} {y : V} (h : c[j]? = some y) : (c.drop j).reverse = (c.drop (j + 1)).reverse ++ [y] := by
  obtain ⟨hj, e⟩ := List.getElem?_eq_some_iff.mp h
  rw [List.drop_eq_getElem_cons hj, e]
  simp
theorem path_count {K : PySem.W.Frag} {Hv : Hp} {S0 : List V × List PyData} : ∀ {rs : List V} {S : List V × List PyData}, Path K Hv S0 rs S → rs.length + ndAll S.2 = ndAll S0.2
  | _, _, .nil => by simp
  | _, _, .cons hP hs => by
    have ih := path_count hP
    cases hs with
    | @leaf v0 d0 r0 rd0 h e =>
      have one : nd d0 = 1 := by
        cases h with
        | non => rfl
        | bl b => rfl
        | int i => rfl
        | str x => rfl
        | lst _ _ => simp [tyD] at e
        | tup _ _ => simp [tyD] at e
      simp only [ndAll, one] at ih
      rw [List.length_cons]
      dsimp only
      omega
    | lst h g =>
      simp only [ndAll, nd] at ih
      rw [List.length_cons, ndAll_append]
      omega
    | tup h g =>
      simp only [ndAll, nd] at ih
      rw [List.length_cons, ndAll_append]
      omega
section
variable {P : Program} {w : World} {K : PySem.W.Frag} {mg : Str → Option Value} {base : Heap}
theorem scCopy : FnScope ["thing", "done", "part", "made", "_"] ["thing"] (defScope sCopy) := ⟨rfl, rfl, rfl, by decide +kernel, rfl, by decide +kernel, by decide +kernel⟩
theorem ok_copy {f fP : Addr} {fd fdP : FuncData} {k : Nat} (F : Fun K "copy_of" "copy_of" sCopy f fd) (T : Nm mg) (FP : Fun K "all_parts" "all_parts" sParts fP fdP) (bP : Binds K fdP ["thing"] []) (gP : mg "all_parts" = some (.ref fP)) :
    FnOk P w K mg base CX0 (k + 2) f fd ["thing"] (spCopy K) := by
  have GP : FnOk P w K mg base CX0 (k + 1) fP fdP ["thing"] (spParts K) := ok_parts FP T
  refine F.ok scCopy (fun vs H Q E h => ?_) (fun cdv A outer s H vs Q E hr h => ?_)
  · obtain ⟨v, d, Hv, rfl, _⟩ := h
    rfl
  · obtain ⟨v, d, Hv, rfl, sv, hd, hn, q⟩ := h
    refine ⟨_, pss_cons (ps_if (pt_not (pt_val (pe_callB call_isiT (by rfl) T.isi (by decide +kernel) (pa_cons (pv 0) (pa_cons (pe_tup (pa_cons (pe_bltn (v := .ty "list") (by rfl) T.lst (by decide +kernel) rfl) (pa_cons (pe_bltn (v := .ty "tuple") (by rfl) T.tpl (by decide +kernel) rfl) pa_nil))) pa_nil))))) (pss_one (ps_ret (pv 0))) pss_nil) <| pss_cons (ps_set (i := 1) scCopy.nd rfl (.inr rfl) (pe_lst pa_nil))
      (pss_cons (ps_for PassesOwn.never rfl (pi_list (pe_revL (pe_call GP hr (by rfl) gP FP.kp bP .nil pass0 (pa_cons (pv 0) pa_nil)))) (pg_name (i := 2) scCopy.nd rfl (.inl rfl))
        (pss_cons (ps_set (i := 3) scCopy.nd rfl (.inl rfl) (pv 2))
        (pss_cons (ps_if (pt_val (pe_callB call_isiT (by rfl) T.isi (by decide +kernel) (pa_cons (pv 2) (pa_cons (pe_tup (pa_cons (pe_bltn (v := .ty "list") (by rfl) T.lst (by decide +kernel) rfl) (pa_cons (pe_bltn (v := .ty "tuple") (by rfl) T.tpl (by decide +kernel) rfl) pa_nil))) pa_nil))))
          (pss_one (ps_alt
            (ps_setLc (i := 3) (own := [("_", 4)]) (g := gName 4) (tt := tYes) (te := tBM0 K "list" rPop (tVar 1)) rfl scCopy.nd rfl rfl (sw_true rfl rfl rfl (by decide +kernel)) (pi_list (pv 2)) (blkOk_by (N := ["thing", "done", "part", "made", "_"]) (sc := defScope sCopy) (by decide +kernel))
              (fun _ _ _ _ _ => pg_name (i := 4) scCopy.nd rfl (Or.inl rfl)) (fun _ _ _ _ _ => pts_nil) (fun _ _ _ _ _ => pe_bm0 PySem.F.plainAttrs_list PySem.F.slot_list_pop PySem.F.type_list_pop mt_pop (pv 1)))
            (ps_setLc (i := 3) (own := [("_", 4)]) (g := gName 4) (tt := tYes) (te := tBM0 K "list" rPop (tVar 1)) rfl scCopy.nd rfl rfl (sw_true rfl rfl rfl (by decide +kernel)) (pi_tup (pv 2)) (blkOk_by (N := ["thing", "done", "part", "made", "_"]) (sc := defScope sCopy) (by decide +kernel))
              (fun _ _ _ _ _ => pg_name (i := 4) scCopy.nd rfl (Or.inl rfl)) (fun _ _ _ _ _ => pts_nil) (fun _ _ _ _ _ => pe_bm0 PySem.F.plainAttrs_list PySem.F.slot_list_pop PySem.F.type_list_pop mt_pop (pv 1)))))
          pss_nil)
        (pss_cons (ps_if (pt_val (pe_callB call_isi (by rfl) T.isi (by decide +kernel) (pa_cons (pv 2) (pa_cons (pe_bltn (v := .ty "tuple") (by rfl) T.tpl (by decide +kernel) rfl) pa_nil))))
          (pss_one (ps_set (i := 3) scCopy.nd rfl (.inl rfl) (pe_callTy call_tuple_of (by rfl) T.tpl (by decide +kernel) (pa_cons (pv 3) pa_nil))))
          pss_nil)
        (pss_one (ps_expr (pe_bm PySem.F.plainAttrs_list PySem.F.slot_list_append PySem.F.type_list_append mt_append (pv 1) (pa_cons (pv 3) pa_nil))))))))
      (pss_one (ps_ret (pe_ix ix_list (pv 1) pe_int (fun _ _ => rfl))))), ?_⟩
    refine ⟨_, rfl, by decide, fun tp0 ntp0 => ?_⟩
    refine ⟨v, tp0, _, .type (tyD d), [.type "list", .type "tuple"], _, rfl, upd_same, .cons (.ty _) (.cons (.ty _) .nil), dp_ty (dp_same (sv.trans (same_upd ntp0)) _ _ hd), isLT d K, _, rfl, ?_⟩
    have q2 : ∀ (H' : Hp) (v' : V), Same (upd H tp0 (.tup [.ty "list", .ty "tuple"])) H' → Dp K (newp (upd H tp0 (.tup [.ty "list", .ty "tuple"])) H') v' d → Q v' H' := fun H' v' e1 e2 => q H' v' ((same_upd ntp0).trans e1) (dp_same (newp_less (same_upd ntp0)) _ _ e2)
    have sv2 : Same Hv (upd H tp0 (.tup [.ty "list", .ty "tuple"])) := sv.trans (same_upd ntp0)
    cases hlt : (tyD d == "list" || tyD d == "tuple") with
    | false =>
      exact iteT ⟨_, rfl, q2 _ _ (fun _ _ e => e) (dp_leaf hd hlt)⟩
    | true =>
    refine iteF ?_
    generalize upd H tp0 (.tup [.ty "list", .ty "tuple"]) = H at sv2 q2
    clear q sv ntp0 tp0
    have sv := sv2
    have q := q2
    refine ⟨by decide, fun da nda => ?_⟩
    -- all_parts(thing)[::-1]
    refine ⟨_, rfl, v, d, Hv, rfl, sv.trans (same_upd nda), hd, hn, fun H1 p rs sm1 np hp hP hlen => ?_⟩
    have hda1 : H1 da = some (.lst []) := sm1 _ _ upd_same
    refine ⟨p, _, rfl, SqL.of hp, fun r nr => ?_⟩
    rw [List.reverse_reverse]
    have rda : da ≠ r := ne_of_none hda1 nr
    have s0 : Same H (upd H1 r (.lst rs)) := ((same_upd nda).trans sm1).trans (same_upd nr)
    have hr0 : H r = none := ((same_upd nda).trans sm1).free nr
    have nda0 : H da = none := nda
    refine ⟨r, rfl, ⟨_, SqL.of upd_same⟩, for_list (K := K) (a := r) (xs := rs) (fun i σ H2 => ∃ (S : List V × List PyData) (cs : List V) (y2 y3 : Option V), σ = [some v, some (.ref da), y2, y3, none] ∧ Same H H2 ∧ H2 r = some (.lst rs) ∧
      Path K Hv ([v], [d]) (rs.drop i) S ∧ H2 da = some (.lst cs.reverse) ∧ DpAll K (newB H da H2) cs S.2) ?_ ?_ ?_ ?_⟩
    · exact ⟨([], []), [], none, none, rfl, s0, upd_same, hP, by rw [upd_ne rda]; exact hda1, .nil⟩
    · rintro i σ H2 hi ⟨S, cs, y2, y3, rfl, _, g, _⟩
      exact SqL.of g
    · rintro i x σ H2 hx ⟨S, cs, y2, y3, rfl, sm, hrs, hPi, hda, hcs⟩
      have edrop : rs.drop i = x :: rs.drop (i + 1) := by
        obtain ⟨hj, e⟩ := List.getElem?_eq_some_iff.mp hx
        rw [List.drop_eq_getElem_cons hj, e]
      rw [edrop] at hPi
      cases hPi with
      | @cons _ S1 _ _ hP1 hst =>
      have cnt := path_count (.cons hP1 hst)
      have cnt0 : ndAll ([d] : List PyData) = nd d := by simp [ndAll]
      have lcs : cs.length ≤ 1000000 := by
        have e1 := DpAll.length hcs
        have e2 := ndAll_len S.2
        have e3 : ndAll (([v], [d]) : List V × List PyData).2 = nd d := cnt0
        omega
      -- the part's data
      obtain ⟨dx, hdx⟩ : ∃ dx, Dp K Hv x dx ∧ ((∃ r1 rd1, S1 = (x :: r1, dx :: rd1) ∧ S = (r1, rd1) ∧ (tyD dx == "list" || tyD dx == "tuple") = false) ∨
          (∃ a xs es r1 rd1, x = .ref a ∧ dx = .list es ∧ SqL K Hv a xs ∧ DpAll K Hv xs es ∧ S1 = (x :: r1, .list es :: rd1) ∧ S = (xs ++ r1, es ++ rd1)) ∨
          (∃ a xs es r1 rd1, x = .ref a ∧ dx = .tuple es ∧ SqT K Hv a xs ∧ DpAll K Hv xs es ∧ S1 = (x :: r1, .tuple es :: rd1) ∧ S = (xs ++ r1, es ++ rd1))) := by
        cases hst with
        | leaf h e => exact ⟨_, h, .inl ⟨_, _, rfl, rfl, e⟩⟩
        | lst h g => exact ⟨_, .lst h g, .inr (.inl ⟨_, _, _, _, _, rfl, rfl, h, g, rfl, rfl⟩)⟩
        | tup h g => exact ⟨_, .tup h g, .inr (.inr ⟨_, _, _, _, _, rfl, rfl, h, g, rfl, rfl⟩)⟩
      obtain ⟨hx1, hcase⟩ := hdx
      -- made = part; isinstance(part, (list, tuple))
      refine ⟨_, rfl, _, rfl, by decide, fun tp ntp => ?_⟩
      have sm3 : Same H (upd H2 tp (.tup [.ty "list", .ty "tuple"])) := sm.trans (same_upd ntp)
      have hda3 : (upd H2 tp (.tup [.ty "list", .ty "tuple"])) da = some (.lst cs.reverse) := same_upd ntp _ _ hda
      have hrs3 : (upd H2 tp (.tup [.ty "list", .ty "tuple"])) r = some (.lst rs) := same_upd ntp _ _ hrs
      have hcs3 : DpAll K (newB H da (upd H2 tp (.tup [.ty "list", .ty "tuple"]))) cs S.2 := dpAll_same (newB_mono fun b o _ e => same_upd ntp b o e) _ _ hcs
      refine ⟨x, tp, _, .type (tyD dx), [.type "list", .type "tuple"], _, rfl, upd_same, .cons (.ty _) (.cons (.ty _) .nil), dp_ty (dp_same (sv.trans sm3) _ _ hx1), isLT dx K, _, rfl, ?_⟩
      generalize upd H2 tp (.tup [.ty "list", .ty "tuple"]) = G at sm3 hda3 hrs3 hcs3
      rcases hcase with ⟨r1, rd1, rfl, rfl, e⟩ | ⟨a, xs, es, r1, rd1, rfl, rfl, g1, g2, rfl, rfl⟩ | ⟨a, xs, es, r1, rd1, rfl, rfl, g1, g2, rfl, rfl⟩
      · rw [e]
        refine iteF ?_
        have e2 : (tyD dx == "tuple") = false := (Bool.or_eq_false_iff.mp e).2
        refine ⟨_, rfl, x, .ty "tuple", .type (tyD dx), .type "tuple", _, rfl, .ty _, dp_ty (dp_leaf hx1 e), kit1 dx K, _, rfl, ?_⟩
        rw [e2]
        refine iteF ?_
        refine ⟨_, rfl, .inl ⟨rfl, _, SqL.of hda3⟩, _, rfl, da, _, _, rfl, rfl, hda3, Nat.lt_of_le_of_lt (by simpa using lcs) (by decide), ?_⟩
        refine ⟨_, x :: cs, _, _, rfl, same_fresh nda0 sm3, by rw [upd_ne rda.symm]; exact hrs3, hP1, ?_, ?_⟩
        · rw [upd_same]
          simp
        · exact .cons (dp_leaf hx1 e) (dpAll_same (newB_mono fun b o hb e => by rw [upd_ne hb]; exact e) _ _ hcs3)
      · obtain ⟨c1, c2, rfl, hc1, hc2⟩ := DpAll.split hcs3
        have hxl : xs.length = c1.length := (DpAll.length g2).trans (DpAll.length hc1).symm
        refine iteT (.inl ?_)
        refine ⟨_, rfl, a, rfl, ⟨_, (sv.trans sm3).seq g1⟩, fun D nD => lc_list (K := K) (a := a) (xs := xs) (fun j H4 => H4 da = some (.lst (c2.reverse ++ (c1.drop j).reverse)) ∧ H4 D = some (.lst (c1.take j)) ∧ ∀ b o, b ≠ da → b ≠ D → G b = some o → H4 b = some o) ?_ ?_ ?_ ?_⟩
        · have ne : da ≠ D := ne_of_none hda3 nD
          refine ⟨?_, upd_same, fun b o _ hb e => by rw [upd_ne hb]; exact e⟩
          rw [upd_ne ne, hda3]
          simp
        · rintro j H4 hj ⟨_, _, kp⟩
          have nDH : H D = none := sm3.free nD
          exact Same.seq (fun b o e => kp b o (ne_of_none e nda0) (ne_of_none e nDH) (sm3 b o e)) (sv.seq g1)
        · rintro j y H4 hy ⟨k1, k2, kp⟩
          have ne : da ≠ D := ne_of_none hda3 nD
          have hjl : j < c1.length := by
            have := (List.getElem?_eq_some_iff.mp hy).1
            omega
          have hcj : c1[j]? = some c1[j] := List.getElem?_eq_getElem hjl
          rw [rev_drop hcj, ← List.append_assoc] at k1
          refine ⟨rfl, .ref da, rfl, .inl ⟨rfl, _, SqL.of k1⟩, da, _, c1[j], rfl, rfl, k1, by simp, ?_⟩
          rw [List.dropLast_concat]
          refine ⟨c1.take j, by rw [upd_ne ne.symm]; exact k2, ?_, ?_, ?_, fun b o h1 h2 e => ?_⟩
          · refine Nat.lt_of_le_of_lt (show (c1.take j).length ≤ 1000000 from ?_) (by decide)
            rw [List.length_append] at lcs
            have := List.length_take_le j c1
            omega
          · rw [upd_ne ne, upd_same]
          · rw [upd_same, List.take_add_one, hcj]
            rfl
          · rw [upd_ne h2, upd_ne h1]
            exact kp b o h1 h2 e
        · rintro H4 ⟨k1, k2, kp⟩
          have ne : da ≠ D := ne_of_none hda3 nD
          have nDH : H D = none := sm3.free nD
          have sm4 : Same H H4 := fun b o e => kp b o (ne_of_none e nda0) (ne_of_none e nDH) (sm3 b o e)
          have rD : r ≠ D := ne_of_none hrs3 nD
          have hr4 : H4 r = some (.lst rs) := kp r _ rda.symm rD hrs3
          rw [hxl] at k1 k2
          rw [List.drop_length, List.reverse_nil, List.append_nil] at k1
          rw [List.take_length] at k2
          have mono4 : Same (newB H da G) (newB H da H4) := fun b o e => by
            by_cases hb : b = da
            · unfold newB at e
              rw [if_pos hb] at e
              cases e
            · cases hh : H b with
              | some u =>
                unfold newB at e
                rw [if_neg hb, hh] at e
                cases e
              | none =>
                rw [newB_at hh hb] at e ⊢
                exact kp b o hb (ne_of_none e nD) e
          have hd4 : DpAll K (newB H da H4) c1 es := dpAll_same mono4 _ _ hc1
          have hd5 : DpAll K (newB H da H4) c2 rd1 := dpAll_same mono4 _ _ hc2
          have hD4 : (newB H da H4) D = some (.lst c1) := by
            rw [newB_at nDH ne.symm]
            exact k2
          have hc1l : c1.length ≤ 1000000 ∧ c2.length ≤ 1000000 := by
            rw [List.length_append] at lcs
            omega
          refine ⟨_, rfl, .ref a, .ty "tuple", .type "list", .type "tuple", _, rfl, .ty _, dp_ty (d := .list es) (.lst (Same.seq sm4 (sv.seq g1)) (dpAll_same (sv.trans sm4) _ _ g2)), kit1 (.list es) K, _, rfl, ?_⟩
          refine iteF ?_
          refine ⟨_, rfl, .inl ⟨rfl, _, SqL.of k1⟩, _, rfl, da, _, _, rfl, rfl, k1, Nat.lt_of_le_of_lt (by simpa using hc1l.2) (by decide), ?_⟩
          refine ⟨_, .ref D :: c2, _, _, rfl, same_fresh nda0 sm4, by rw [upd_ne rda.symm]; exact hr4, hP1, ?_, ?_⟩
          · rw [upd_same]
            simp
          · have up : Same (newB H da H4) (newB H da (upd H4 da (.lst (c2.reverse ++ [.ref D])))) := newB_mono fun b o hb e => by
              rw [upd_ne hb]
              exact e
            exact .cons (.lst (SqL.of (up _ _ hD4)) (dpAll_same up _ _ hd4)) (dpAll_same up _ _ hd5)
      · obtain ⟨c1, c2, rfl, hc1, hc2⟩ := DpAll.split hcs3
        have hxl : xs.length = c1.length := (DpAll.length g2).trans (DpAll.length hc1).symm
        refine iteT (.inr ?_)
        refine ⟨_, rfl, a, rfl, ⟨_, same_sqt (sv.trans sm3) g1⟩, fun D nD => lc_tup (K := K) (a := a) (xs := xs) (fun j H4 => H4 da = some (.lst (c2.reverse ++ (c1.drop j).reverse)) ∧ H4 D = some (.lst (c1.take j)) ∧ ∀ b o, b ≠ da → b ≠ D → G b = some o → H4 b = some o) ?_ ?_ ?_ ?_⟩
        · have ne : da ≠ D := ne_of_none hda3 nD
          refine ⟨?_, upd_same, fun b o _ hb e => by rw [upd_ne hb]; exact e⟩
          rw [upd_ne ne, hda3]
          simp
        · rintro j H4 hj ⟨_, _, kp⟩
          have nDH : H D = none := sm3.free nD
          exact same_sqt (fun b o e => kp b o (ne_of_none e nda0) (ne_of_none e nDH) (sm3 b o e)) (same_sqt sv g1)
        · rintro j y H4 hy ⟨k1, k2, kp⟩
          have ne : da ≠ D := ne_of_none hda3 nD
          have hjl : j < c1.length := by
            have := (List.getElem?_eq_some_iff.mp hy).1
            omega
          have hcj : c1[j]? = some c1[j] := List.getElem?_eq_getElem hjl
          rw [rev_drop hcj, ← List.append_assoc] at k1
          refine ⟨rfl, .ref da, rfl, .inl ⟨rfl, _, SqL.of k1⟩, da, _, c1[j], rfl, rfl, k1, by simp, ?_⟩
          rw [List.dropLast_concat]
          refine ⟨c1.take j, by rw [upd_ne ne.symm]; exact k2, ?_, ?_, ?_, fun b o h1 h2 e => ?_⟩
          · refine Nat.lt_of_le_of_lt (show (c1.take j).length ≤ 1000000 from ?_) (by decide)
            rw [List.length_append] at lcs
            have := List.length_take_le j c1
            omega
          · rw [upd_ne ne, upd_same]
          · rw [upd_same, List.take_add_one, hcj]
            rfl
          · rw [upd_ne h2, upd_ne h1]
            exact kp b o h1 h2 e
        · rintro H4 ⟨k1, k2, kp⟩
          have ne : da ≠ D := ne_of_none hda3 nD
          have nDH : H D = none := sm3.free nD
          have sm4 : Same H H4 := fun b o e => kp b o (ne_of_none e nda0) (ne_of_none e nDH) (sm3 b o e)
          have rD : r ≠ D := ne_of_none hrs3 nD
          have hr4 : H4 r = some (.lst rs) := kp r _ rda.symm rD hrs3
          rw [hxl] at k1 k2
          rw [List.drop_length, List.reverse_nil, List.append_nil] at k1
          rw [List.take_length] at k2
          have mono4 : Same (newB H da G) (newB H da H4) := fun b o e => by
            by_cases hb : b = da
            · unfold newB at e
              rw [if_pos hb] at e
              cases e
            · cases hh : H b with
              | some u =>
                unfold newB at e
                rw [if_neg hb, hh] at e
                cases e
              | none =>
                rw [newB_at hh hb] at e ⊢
                exact kp b o hb (ne_of_none e nD) e
          have hd4 : DpAll K (newB H da H4) c1 es := dpAll_same mono4 _ _ hc1
          have hd5 : DpAll K (newB H da H4) c2 rd1 := dpAll_same mono4 _ _ hc2
          have hD4 : (newB H da H4) D = some (.lst c1) := by
            rw [newB_at nDH ne.symm]
            exact k2
          have hc1l : c1.length ≤ 1000000 ∧ c2.length ≤ 1000000 := by
            rw [List.length_append] at lcs
            omega
          refine ⟨_, rfl, .ref a, .ty "tuple", .type "tuple", .type "tuple", _, rfl, .ty _, dp_ty (d := .tuple es) (.tup (same_sqt sm4 (same_sqt sv g1)) (dpAll_same (sv.trans sm4) _ _ g2)), kit1 (.tuple es) K, _, rfl, ?_⟩
          refine iteT ?_
          -- made = tuple(made)
          refine ⟨_, rfl, D, c1, rfl, .inl ⟨SqL.of k2, fun tq ntq => ?_⟩⟩
          have nq : H tq = none := sm4.free ntq
          have dq : da ≠ tq := ne_of_none k1 ntq
          have rq : r ≠ tq := ne_of_none hr4 ntq
          have k5 : (upd H4 tq (.tup c1)) da = some (.lst c2.reverse) := by
            rw [upd_ne dq]
            exact k1
          refine ⟨_, rfl, .inl ⟨rfl, _, SqL.of k5⟩, _, rfl, da, _, _, rfl, rfl, k5, Nat.lt_of_le_of_lt (by simpa using hc1l.2) (by decide), ?_⟩
          refine ⟨_, .ref tq :: c2, _, _, rfl, same_fresh nda0 (sm4.trans (same_upd ntq)), by rw [upd_ne rda.symm, upd_ne rq]; exact hr4, hP1, ?_, ?_⟩
          · rw [upd_same]
            simp
          · have up : Same (newB H da H4) (newB H da (upd (upd H4 tq (.tup c1)) da (.lst (c2.reverse ++ [.ref tq])))) := newB_mono fun b o hb e => by
              rw [upd_ne hb, upd_ne (ne_of_none e ntq)]
              exact e
            have at_ : (newB H da (upd (upd H4 tq (.tup c1)) da (.lst (c2.reverse ++ [.ref tq])))) tq = some (.tup c1) := by
              rw [newB_at nq dq.symm, upd_ne dq.symm, upd_same]
            exact .cons (.tup (SqT.of at_) (dpAll_same up _ _ hd4)) (dpAll_same up _ _ hd5)
    · rintro σ H2 ⟨S, cs, y2, y3, rfl, sm, hrs, hPi, hda, hcs⟩
      rw [List.drop_length] at hPi
      cases hPi
      cases hcs with
      | @cons c1 _ _ _ h1 h2 =>
        cases h2
        refine ⟨_, rfl, da, [c1], 0, c1, rfl, rfl, SqL.of hda, atI_nat (j := 0) rfl, ?_⟩
        exact q H2 c1 sm (dp_same newB_newp _ _ h1)
end
end TX
namespace TX
open PySem PySem.Spec PyProof.Rows L2
structure Nb (mg : Str → Option Value) : Prop where
  len : mg "len" = none
  abs : mg "abs" = none
  enum : mg "enumerate" = none
  int : mg "int" = none
/-- a bag of draws: two ints -/
def BagAt (H : Hp) (p : Addr) : Prop := ∃ x y : Int, H p = some (.lst [.int x, .int y])
def spBag (K : PySem.W.Frag) : Sp := fun vs H Q _ => ∃ (a : Addr) (ns : List Int) (at_ : Nat), vs = [.ref a, .int at_] ∧ SqL K H a (ns.map V.int) ∧ ns.length ≤ 63 ∧
  ∀ (H' : Hp) (p : Addr), Same H H' → H p = none → BagAt H' p → Q (.ref p) H'
def spTake : Sp := fun vs H Q _ => ∃ (p : Addr) (m : Int), vs = [.ref p, .int m] ∧ BagAt H p ∧ 0 < m ∧ m ≤ 1000000 ∧
  ∀ (x y d : Int), 0 ≤ d → d < m → Q (.int d) (upd H p (.lst [.int x, .int y]))
section
variable {P : Program} {w : World} {K : PySem.W.Frag} {mg : Str → Option Value} {base : Heap}
theorem scBag : FnScope ["_law_script", "_law_at", "_law_cell", "_law_mixed", "_law_place", "_law_each"] ["_law_script", "_law_at"] (defScope sBag) := ⟨rfl, rfl, rfl, by decide +kernel, rfl, by decide +kernel, by decide +kernel⟩
theorem ok_bag {f : Addr} {fd : FuncData} {k : Nat} (F : Fun K "_law_bag" "_law_bag" sBag f fd) (T : Nb mg) : FnOk P w K mg base CX0 (k + 1) f fd ["_law_script", "_law_at"] (spBag K) := by
  refine F.ok scBag (fun vs H Q E h => ?_) (fun cdv A outer s H vs Q E hr h => ?_)
  · obtain ⟨a, ns, i, rfl, _⟩ := h
    rfl
  · obtain ⟨a, ns, i, rfl, hS, hn, q⟩ := h
    refine ⟨_, pss_cons (ps_par (i := 2) (j := 3) rfl scBag.nd rfl rfl (by decide) rfl rfl
        (pa_cons (pe_ifExp (pt_cmpR op_lt (pv 1) (pe_callB call_len_seq (by rfl) T.len PySem.boot_len (pa_cons (pv 0) pa_nil)) (nomark _)) (pe_callB call_abs (by rfl) T.abs (by decide +kernel) (pa_cons (pe_ix ix_list (pv 0) (pv 1) (fun _ _ => rfl)) pa_nil)) pe_int)
          (pa_cons (pe_op op_add (pe_op op_mul pe_int (pv 1)) pe_int) pa_nil)) (by rfl))
      (pss_cons (ps_for PassesOwn.never rfl (pi_enum (by rfl) T.enum (pa_cons (pe_slice sl_list (pv 0) po_none (po_some pe_int)) pa_nil))
          (pg_tup rfl (pgs_cons (pg_name (i := 4) scBag.nd rfl (.inl rfl)) (pgs_cons (pg_name (i := 5) scBag.nd rfl (.inl rfl)) pgs_nil)))
        (pss_one (ps_set (i := 3) scBag.nd rfl (.inl rfl) (pe_op op_mod (pe_callTy call_int1 (by rfl) T.int (by decide +kernel)
          (pa_cons (pe_op op_add (pe_op op_add (pe_op op_mul (pv 3) pe_int) (pe_op op_mod (pe_callTy call_int1 (by rfl) T.int (by decide +kernel) (pa_cons (pv 5) pa_nil)) pe_int)) (pe_op op_mul pe_int (pv 4))) pa_nil)) pe_int))))
      (pss_one (ps_ret (pe_lst (pa_cons (pe_ifExp (pt_cmpR op_ge (pv 2) (pe_op op_pow pe_int pe_int) (nomark _)) (pv 2) pe_int) (pa_cons (pv 3) pa_nil)))))), ?_⟩
    refine ⟨_, rfl, _, rfl, a, _, rfl, .inl hS, _, _, rfl, rfl, _, rfl, ?_⟩
    have cut63 : ∀ x ∈ cutV (ns.map V.int) none (some 63), ∃ z, x = V.int z := by
      intro x hx
      unfold cutV at hx
      obtain ⟨z, _, e⟩ := List.mem_map.mp (List.mem_of_mem_drop (List.mem_of_mem_take hx))
      exact ⟨z, e.symm⟩
    generalize hC : cutV (ns.map V.int) none (some 63) = C at *
    refine ite2 (fun hlt => ?_) (fun hge => ?_)
    · have hlt' : i < ns.length := by
        have e := of_decide_eq_true hlt
        rw [List.length_map] at e
        omega
      refine ⟨_, rfl, _, rfl, a, _, _, .int ns[i], rfl, rfl, hS, atI_nat (by rw [List.getElem?_map, List.getElem?_eq_getElem hlt']; rfl), _, rfl, ?_⟩
      refine ⟨_, rfl, _, _, rfl, rfl, .inl ⟨by decide, by decide⟩, _, _, rfl, rfl, _, _, rfl, ?_⟩
      refine ⟨_, rfl, 63, rfl, a, _, rfl, hS, fun c nc => ?_⟩
      have nc0 : H c = none := nc
      refine ⟨c, C, rfl, SqL.of (by rw [upd_same, hC]), fun j m σ H3 => ∃ (y3 : Int) (y4 y5 : Option V), σ = [some (.ref a), some (.int i), some (.int (if ns[i] < 0 then -ns[i] else ns[i])), some (.int y3), y4, y5] ∧ j + m = C.length ∧ Same H H3 ∧ H3 c = some (.lst C),
        ⟨C.length, _, none, none, rfl, by omega, same_upd nc, by rw [upd_same, hC]⟩, fun j m σ H3 hW => ?_⟩
      obtain ⟨y3, y4, y5, rfl, ejm, sm, hc⟩ := hW
      by_cases hj : j < C.length
      · refine .inr ⟨⟨_, _, SqL.of hc, List.getElem?_eq_getElem hj⟩, fun σ' H' => ∃ (y3 : Int) (y4 y5 : Option V), σ' = [some (.ref a), some (.int i), some (.int (if ns[i] < 0 then -ns[i] else ns[i])), some (.int y3), y4, y5] ∧ Same H H' ∧ H' c = some (.lst C), fun σ' H' hN => ?_, fun x H' hy => ?_⟩
        · obtain ⟨z3, z4, z5, e, sm', hc'⟩ := hN
          exact ⟨m - 1, by omega, z3, z4, z5, e, by omega, sm', hc'⟩
        · obtain ⟨tp, x1, rfl, nT, rfl, f1⟩ := hy
          have g1 := f1 _ (SqL.of hc)
          obtain ⟨z, rfl⟩ := cut63 x1 (List.mem_of_getElem? g1)
          have hcT : (upd H3 tp (.tup [.int (j : Nat), .int z])) c = some (.lst C) := same_upd nT _ _ hc
          refine ⟨tp, _, rfl, SqT.of upd_same, rfl, _, _, rfl, _, _, rfl, rfl, ?_⟩
          refine ⟨_, rfl, _, _, rfl, rfl, .inr ⟨by decide, by decide⟩, _, rfl, .inl ⟨_, rfl, _, _, rfl, rfl, (by show (0 : Int) < 2147483629; decide), _, _, rfl, rfl, _, rfl, _, _, rfl, rfl, .inl ⟨by decide, by decide⟩, _, _, rfl, rfl, ?_⟩⟩
          refine .inl ⟨_, rfl, _, _, rfl, rfl, (by show (0 : Int) < 2147483647; decide), ?_⟩
          exact ⟨_, _, _, rfl, sm.trans (same_upd nT), hcT⟩
      · refine .inl ⟨⟨_, SqL.of hc, by omega⟩, ?_⟩
        refine ⟨_, rfl, _, _, rfl, rfl, ⟨by decide, by decide, by decide⟩, _, _, rfl, rfl, _, rfl, ?_⟩
        refine ite2 (fun _ => ?_) (fun _ => ?_)
        all_goals
          first
            | refine ⟨_, rfl, _, rfl, (by show 2 ≤ sizeLine; decide), fun p np => ?_⟩
            | refine ⟨_, rfl, (by show 2 ≤ sizeLine; decide), fun p np => ?_⟩
          exact q _ p (sm.trans (same_upd np)) (sm.free np) ⟨_, _, upd_same⟩
    · refine ⟨_, rfl, _, _, rfl, rfl, .inl ⟨by decide, by decide⟩, _, _, rfl, rfl, _, _, rfl, ?_⟩
      refine ⟨_, rfl, 63, rfl, a, _, rfl, hS, fun c nc => ?_⟩
      have nc0 : H c = none := nc
      refine ⟨c, C, rfl, SqL.of (by rw [upd_same, hC]), fun j m σ H3 => ∃ (y3 : Int) (y4 y5 : Option V), σ = [some (.ref a), some (.int i), some (.int 0), some (.int y3), y4, y5] ∧ j + m = C.length ∧ Same H H3 ∧ H3 c = some (.lst C),
        ⟨C.length, _, none, none, rfl, by omega, same_upd nc, by rw [upd_same, hC]⟩, fun j m σ H3 hW => ?_⟩
      obtain ⟨y3, y4, y5, rfl, ejm, sm, hc⟩ := hW
      by_cases hj : j < C.length
      · refine .inr ⟨⟨_, _, SqL.of hc, List.getElem?_eq_getElem hj⟩, fun σ' H' => ∃ (y3 : Int) (y4 y5 : Option V), σ' = [some (.ref a), some (.int i), some (.int 0), some (.int y3), y4, y5] ∧ Same H H' ∧ H' c = some (.lst C), fun σ' H' hN => ?_, fun x H' hy => ?_⟩
        · obtain ⟨z3, z4, z5, e, sm', hc'⟩ := hN
          exact ⟨m - 1, by omega, z3, z4, z5, e, by omega, sm', hc'⟩
        · obtain ⟨tp, x1, rfl, nT, rfl, f1⟩ := hy
          have g1 := f1 _ (SqL.of hc)
          obtain ⟨z, rfl⟩ := cut63 x1 (List.mem_of_getElem? g1)
          have hcT : (upd H3 tp (.tup [.int (j : Nat), .int z])) c = some (.lst C) := same_upd nT _ _ hc
          refine ⟨tp, _, rfl, SqT.of upd_same, rfl, _, _, rfl, _, _, rfl, rfl, ?_⟩
          refine ⟨_, rfl, _, _, rfl, rfl, .inr ⟨by decide, by decide⟩, _, rfl, .inl ⟨_, rfl, _, _, rfl, rfl, (by show (0 : Int) < 2147483629; decide), _, _, rfl, rfl, _, rfl, _, _, rfl, rfl, .inl ⟨by decide, by decide⟩, _, _, rfl, rfl, ?_⟩⟩
          refine .inl ⟨_, rfl, _, _, rfl, rfl, (by show (0 : Int) < 2147483647; decide), ?_⟩
          exact ⟨_, _, _, rfl, sm.trans (same_upd nT), hcT⟩
      · refine .inl ⟨⟨_, SqL.of hc, by omega⟩, ?_⟩
        refine ⟨_, rfl, _, _, rfl, rfl, ⟨by decide, by decide, by decide⟩, _, _, rfl, rfl, _, rfl, ?_⟩
        refine ite2 (fun _ => ?_) (fun _ => ?_)
        all_goals
          first
            | refine ⟨_, rfl, _, rfl, (by show 2 ≤ sizeLine; decide), fun p np => ?_⟩
            | refine ⟨_, rfl, (by show 2 ≤ sizeLine; decide), fun p np => ?_⟩
          exact q _ p (sm.trans (same_upd np)) (sm.free np) ⟨_, _, upd_same⟩
theorem scTake : FnScope ["_law_bag_here", "_law_many", "_law_digit"] ["_law_bag_here", "_law_many"] (defScope sTake) := ⟨rfl, rfl, rfl, by decide +kernel, rfl, by decide +kernel, by decide +kernel⟩
theorem ok_take {f : Addr} {fd : FuncData} {k : Nat} (F : Fun K "_law_take" "_law_take" sTake f fd) (T : Nb mg) : FnOk P w K mg base CX0 (k + 1) f fd ["_law_bag_here", "_law_many"] spTake := by
  refine F.ok scTake (fun vs H Q E h => ?_) (fun cdv A outer s H vs Q E hr h => ?_)
  · obtain ⟨p, m, rfl, _⟩ := h
    rfl
  · obtain ⟨p, m, rfl, ⟨x, y, hp⟩, hm, hm2, q⟩ := h
    refine ⟨_, pss_cons (ps_if (pt_cmpR op_gt (pe_ix ix_list (pv 0) pe_int (fun _ _ => rfl)) pe_int (nomark _))
        (pss_cons (ps_set (i := 2) scTake.nd rfl (.inl rfl) (pe_op op_mod (pe_callTy call_int1 (by rfl) T.int (by decide +kernel) (pa_cons (pe_ix ix_list (pv 0) pe_int (fun _ _ => rfl)) pa_nil)) (pv 1)))
        (pss_cons (ps_asg (pe_op op_fdiv (pe_ix ix_list (pv 0) pe_int (fun _ _ => rfl)) (pv 1)) (pg_sub (pv 0) pe_int set_list))
        (pss_one (ps_ret (pv 2))))) pss_nil)
      (pss_cons (ps_asg (pe_op op_mod (pe_callTy call_int1 (by rfl) T.int (by decide +kernel) (pa_cons (pe_op op_add (pe_op op_mul (pe_ix ix_list (pv 0) pe_int (fun _ _ => rfl)) pe_int) pe_int) pa_nil)) pe_int) (pg_sub (pv 0) pe_int set_list))
      (pss_one (ps_ret (pe_op op_mod (pe_op op_fdiv (pe_op op_mod (pe_callTy call_int1 (by rfl) T.int (by decide +kernel) (pa_cons (pe_op op_mul (pe_op op_fdiv (pe_ix ix_list (pv 0) pe_int (fun _ _ => rfl)) pe_int) pe_int) pa_nil)) pe_int) pe_int) (pv 1))))), ?_⟩
    have i0 : atI [V.int x, V.int y] 0 = some (.int x) := atI_nat (j := 0) rfl
    have i1 : atI [V.int x, V.int y] 1 = some (.int y) := atI_nat (j := 1) rfl
    refine ⟨_, rfl, p, _, 0, _, rfl, rfl, SqL.of hp, i0, _, _, rfl, rfl, _, rfl, ?_⟩
    refine ite2 (fun hx => ?_) (fun hx => ?_)
    · refine ⟨_, rfl, p, _, 0, _, rfl, rfl, SqL.of hp, i0, .inl ⟨_, rfl, _, rfl, _, _, rfl, rfl, hm, ?_⟩⟩
      refine ⟨_, rfl, p, _, 0, _, rfl, rfl, SqL.of hp, i0, _, rfl, _, _, rfl, rfl, ⟨hm, by omega⟩, ?_⟩
      refine ⟨_, rfl, p, _, 0, 0, rfl, rfl, hp, rfl, ?_⟩
      refine ⟨_, rfl, ?_⟩
      exact q _ _ _ (Int.emod_nonneg _ (by omega)) (Int.emod_lt_of_pos _ hm)
    · refine ⟨_, rfl, p, _, 1, _, rfl, rfl, SqL.of hp, i1, _, _, rfl, rfl, .inr ⟨by decide, by decide⟩, _, _, rfl, rfl, .inl ⟨_, rfl, _, _, rfl, rfl, (by show (0 : Int) < 2147483629; decide), ?_⟩⟩
      refine ⟨_, rfl, p, _, 1, 1, rfl, rfl, hp, rfl, ?_⟩
      refine ⟨_, rfl, p, _, 1, _, rfl, rfl, SqL.of upd_same, atI_nat (j := 1) rfl, _, _, rfl, rfl, ⟨by decide, by decide⟩, _, _, rfl, rfl, .inr ⟨by decide, by decide⟩, .inl ⟨_, rfl, _, _, rfl, rfl, (by show (0 : Int) < 2147483587; decide), ?_⟩⟩
      refine ⟨_, _, rfl, rfl, ⟨by decide, by decide⟩, _, rfl, _, _, rfl, rfl, hm, ?_⟩
      exact q _ _ _ (Int.emod_nonneg _ (by omega)) (Int.emod_lt_of_pos _ hm)
end
end TX
namespace TX
open PySem PySem.Spec PyProof.Rows L2
/-! ### values as data -/
def Lt (z : Str) : Prop := ∀ c ∈ z.cps.toList, 97 ≤ c ∧ c ≤ 122
mutual
def valD : PyData → Prop
  | .none => True
  | .str x => Lt x
  | .list xs => valAll xs
  | _ => False
def valAll : List PyData → Prop
  | [] => True
  | d :: ds => valD d ∧ valAll ds
end
mutual
def sz : PyData → Nat
  | .str x => x.length + 1
  | .list xs => szAll xs + 1
  | _ => 1
def szAll : List PyData → Nat
  | [] => 0
  | d :: ds => sz d + szAll ds
end
theorem szAll_append : ∀ (a b : List PyData), szAll (a ++ b) = szAll a + szAll b
  | [], b => by simp [szAll]
  | d :: a, b => by
    rw [List.cons_append, szAll, szAll, szAll_append a b]
    omega
theorem valAll_append : ∀ (a b : List PyData), valAll (a ++ b) ↔ valAll a ∧ valAll b
  | [], b => by simp [valAll]
  | d :: a, b => by
    rw [List.cons_append, valAll, valAll, valAll_append a b]
    exact ⟨fun ⟨x, y, z⟩ => ⟨⟨x, y⟩, z⟩, fun ⟨⟨x, y⟩, z⟩ => ⟨x, y, z⟩⟩
theorem depthAll_append : ∀ (a b : List PyData), PyData.depthAll (a ++ b) = max (PyData.depthAll a) (PyData.depthAll b)
  | [], b => by simp [PyData.depthAll]
  | d :: a, b => by
    rw [List.cons_append, PyData.depthAll, PyData.depthAll, depthAll_append a b]
    omega
theorem DpAll.get {K : PySem.W.Frag} {H : Hp} : ∀ {ds : List PyData} {vs : List V} {i : Nat} {v : V}, DpAll K H vs ds → vs[i]? = some v → ∃ d, ds[i]? = some d ∧ Dp K H v d
  | [], _, i, v, h, e => by
    cases h
    simp at e
  | d :: ds, _, 0, v, h, e => by
    cases h with
    | cons h1 h2 =>
      simp at e
      subst e
      exact ⟨d, rfl, h1⟩
  | d :: ds, _, i + 1, v, h, e => by
    cases h with
    | cons h1 h2 =>
      obtain ⟨d', e1, e2⟩ := DpAll.get (ds := ds) (i := i) h2 (by simpa using e)
      exact ⟨d', by simpa using e1, e2⟩
theorem val_get : ∀ {ds : List PyData} {i : Nat} {d : PyData}, valAll ds → ds[i]? = some d → valD d
  | [], i, d, h, e => by simp at e
  | x :: ds, 0, d, h, e => by
    simp at e
    subst e
    exact h.1
  | x :: ds, i + 1, d, h, e => val_get h.2 (by simpa using e)
theorem depth_get : ∀ {ds : List PyData} {i : Nat} {d : PyData}, ds[i]? = some d → d.depth ≤ PyData.depthAll ds
  | [], i, d, e => by simp at e
  | x :: ds, 0, d, e => by
    simp at e
    subst e
    simp only [PyData.depthAll]
    omega
  | x :: ds, i + 1, d, e => by
    have := depth_get (ds := ds) (i := i) (d := d) (by simpa using e)
    simp only [PyData.depthAll]
    omega
theorem sz_get : ∀ {ds : List PyData} {i : Nat} {d : PyData}, ds[i]? = some d → sz d ≤ szAll ds
  | [], i, d, e => by simp at e
  | x :: ds, 0, d, e => by
    simp at e
    subst e
    simp only [szAll]
    omega
  | x :: ds, i + 1, d, e => by
    have := sz_get (ds := ds) (i := i) (d := d) (by simpa using e)
    simp only [szAll]
    omega
theorem szAll_sum : ∀ ds : List PyData, ((ds.map fun d => ((sz d : Nat) : Int)).sum : Int) = ((szAll ds : Nat) : Int)
  | [] => rfl
  | d :: ds => by
    rw [List.map_cons, List.sum_cons, szAll_sum ds, szAll]
    omega
theorem szAll_len : ∀ ds : List PyData, ds.length ≤ szAll ds
  | [] => by simp
  | d :: ds => by
    have := szAll_len ds
    have h1 : 1 ≤ sz d := by cases d <;> simp [sz]
    rw [szAll, List.length_cons]
    omega
/-! ### isinstance against one built-in type -/
theorem kitL (d : PyData) (K : PySem.W.Frag) : PySem.W.kitOne K (.type (tyD d)) (.type "list") = some (tyD d == "list") := by
  cases d with
  | none => exact (kit_ty (a := "NoneType") (b := "list") (r := false) (by decide +kernel)).trans (by simp [tyD])
  | bool _ => exact (kit_ty (a := "bool") (b := "list") (r := false) (by decide +kernel)).trans (by simp [tyD])
  | int _ => exact (kit_ty (a := "int") (b := "list") (r := false) (by decide +kernel)).trans (by simp [tyD])
  | str _ => exact (kit_ty (a := "str") (b := "list") (r := false) (by decide +kernel)).trans (by simp [tyD])
  | list _ => exact (kit_ty (a := "list") (b := "list") (r := true) (by decide +kernel)).trans (by simp [tyD])
  | tuple _ => exact (kit_ty (a := "tuple") (b := "list") (r := false) (by decide +kernel)).trans (by simp [tyD])
  | dict _ => exact (kit_ty (a := "dict") (b := "list") (r := false) (by decide +kernel)).trans (by simp [tyD])
theorem kitS (d : PyData) (K : PySem.W.Frag) : PySem.W.kitOne K (.type (tyD d)) (.type "str") = some (tyD d == "str") := by
  cases d with
  | none => exact (kit_ty (a := "NoneType") (b := "str") (r := false) (by decide +kernel)).trans (by simp [tyD])
  | bool _ => exact (kit_ty (a := "bool") (b := "str") (r := false) (by decide +kernel)).trans (by simp [tyD])
  | int _ => exact (kit_ty (a := "int") (b := "str") (r := false) (by decide +kernel)).trans (by simp [tyD])
  | str _ => exact (kit_ty (a := "str") (b := "str") (r := true) (by decide +kernel)).trans (by simp [tyD])
  | list _ => exact (kit_ty (a := "list") (b := "str") (r := false) (by decide +kernel)).trans (by simp [tyD])
  | tuple _ => exact (kit_ty (a := "tuple") (b := "str") (r := false) (by decide +kernel)).trans (by simp [tyD])
  | dict _ => exact (kit_ty (a := "dict") (b := "str") (r := false) (by decide +kernel)).trans (by simp [tyD])
structure Nv (mg : Str → Option Value) : Prop where
  range : mg "range" = none
  sum : mg "sum" = none
  min : mg "min" = none
/-! ### _law_text -/
def spText : Sp := fun vs H Q _ => ∃ (p : Addr) (m : Int), vs = [.ref p, .int m] ∧ BagAt H p ∧ 0 ≤ m ∧ m ≤ 1000 ∧
  ∀ (H' : Hp) (z : Str), (∀ b o, b ≠ p → H b = some o → H' b = some o) → BagAt H' p → Lt z → (z.length : Int) ≤ m → Q (.str z) H'
theorem lt_append {a b : Str} (h : Lt a) (g : Lt b) : Lt (a ++ b) := by
  intro c hc
  have e : (a ++ b).cps.toList = a.cps.toList ++ b.cps.toList := by
    show (a.cps ++ b.cps).toList = _
    simp
  rw [e] at hc
  rcases List.mem_append.mp hc with x | x
  · exact h c x
  · exact g c x
section
variable {P : Program} {w : World} {K : PySem.W.Frag} {mg : Str → Option Value} {base : Heap}
theorem scText : FnScope ["_law_bag_here", "_law_most", "_law_word", "_law_signs", "_law_turn"] ["_law_bag_here", "_law_most"] (defScope sText) := ⟨rfl, rfl, rfl, by decide +kernel, rfl, by decide +kernel, by decide +kernel⟩
theorem ok_text {f fT : Addr} {fd fdT : FuncData} (F : Fun K "_law_text" "_law_text" sText f fd) (B : Nb mg) (N : Nv mg) (FT : Fun K "_law_take" "_law_take" sTake fT fdT) (bT : Binds K fdT ["_law_bag_here", "_law_many"] []) (gT : mg "_law_take" = some (.ref fT)) :
    FnOk P w K mg base CX0 2 f fd ["_law_bag_here", "_law_most"] spText := by
  have GT : FnOk P w K mg base CX0 1 fT fdT ["_law_bag_here", "_law_many"] spTake := ok_take FT B
  refine F.ok scText (fun vs H Q E h => ?_) (fun cdv A outer s H vs Q E hr h => ?_)
  · obtain ⟨p, m, rfl, _⟩ := h
    rfl
  · obtain ⟨p, m, rfl, bag, hm0, hm1, q⟩ := h
    refine ⟨_, pss_cons (ps_par (i := 2) (j := 3) rfl scText.nd rfl rfl (by decide) rfl rfl (pa_cons pe_str (pa_cons (pe_ix ix_list (pe_lst (pa_cons pe_str (pa_cons pe_str (pa_cons pe_str pa_nil)))) (pe_call GT hr (by rfl) gT FT.kp bT .nil pass0 (pa_cons (pv 0) (pa_cons pe_int pa_nil))) (fun _ _ => rfl)) pa_nil)) (by rfl))
      (pss_cons (ps_for PassesOwn.never rfl (pi_range1 (by rfl) N.range (pa_cons (pe_call GT hr (by rfl) gT FT.kp bT .nil pass0 (pa_cons (pv 0) (pa_cons (pe_op op_add (pv 1) pe_int) pa_nil))) pa_nil)) (pg_name (i := 4) scText.nd rfl (.inl rfl))
        (pss_one (ps_set (i := 2) scText.nd rfl (.inl rfl) (pe_op op_add_str (pv 2) (pe_ix ix_str (pv 3) (pe_call GT hr (by rfl) gT FT.kp bT .nil pass0 (pa_cons (pv 0) (pa_cons (pe_callB call_len_str (by rfl) B.len PySem.boot_len (pa_cons (pv 3) pa_nil)) pa_nil))) (fun _ _ => rfl))))))
      (pss_one (ps_ret (pv 2)))), ?_⟩
    refine ⟨(by show 3 ≤ sizeLine; decide), fun l nl => ?_⟩
    have bag1 : BagAt (upd H l (.lst [.str "abcdefghijklmnopqrstuvwxyz", .str "ab", .str "za"])) p := let ⟨x, y, e⟩ := bag; ⟨x, y, same_upd nl _ _ e⟩
    have lp : l ≠ p := fun e => by
      obtain ⟨x, y, e2⟩ := bag
      rw [e, e2] at nl
      cases nl
    refine ⟨_, rfl, p, 3, rfl, bag1, by decide, by decide, fun x1 y1 k hk0 hk1 => ?_⟩
    have hl : (upd (upd H l (.lst [.str "abcdefghijklmnopqrstuvwxyz", .str "ab", .str "za"])) p (.lst [.int x1, .int y1])) l = some (.lst [.str "abcdefghijklmnopqrstuvwxyz", .str "ab", .str "za"]) := by
      rw [upd_ne lp, upd_same]
    have kp : ∀ b o, b ≠ p → H b = some o → (upd (upd H l (.lst [.str "abcdefghijklmnopqrstuvwxyz", .str "ab", .str "za"])) p (.lst [.int x1, .int y1])) b = some o := fun b o hb e => by
      rw [upd_ne hb]
      exact same_upd nl _ _ e
    have bag2 : BagAt (upd (upd H l (.lst [.str "abcdefghijklmnopqrstuvwxyz", .str "ab", .str "za"])) p (.lst [.int x1, .int y1])) p := ⟨_, _, upd_same⟩
    generalize upd (upd H l (.lst [.str "abcdefghijklmnopqrstuvwxyz", .str "ab", .str "za"])) p (.lst [.int x1, .int y1]) = G at hl kp bag2
    obtain ⟨sg, hsg, hat⟩ : ∃ sg : Str, (0 < sg.length ∧ sg.length ≤ 26 ∧ Lt sg) ∧ atI ([.str "abcdefghijklmnopqrstuvwxyz", .str "ab", .str "za"] : List V) k = some (.str sg) := by
      obtain rfl | rfl | rfl : k = 0 ∨ k = 1 ∨ k = 2 := by omega
      · exact ⟨"abcdefghijklmnopqrstuvwxyz", ⟨by decide +kernel, by decide +kernel, by unfold Lt; decide +kernel⟩, atI_nat (j := 0) rfl⟩
      · exact ⟨"ab", ⟨by decide +kernel, by decide +kernel, by unfold Lt; decide +kernel⟩, atI_nat (j := 1) rfl⟩
      · exact ⟨"za", ⟨by decide +kernel, by decide +kernel, by unfold Lt; decide +kernel⟩, atI_nat (j := 2) rfl⟩
    refine ⟨l, _, k, _, rfl, rfl, SqL.of hl, hat, _, _, rfl, ?_⟩
    refine ⟨_, rfl, _, rfl, _, _, rfl, rfl, p, m + 1, rfl, bag2, by omega, by omega, fun x2 y2 t ht0 ht1 => ?_⟩
    refine ⟨t, rfl, by omega, by omega, for_range (lo := 0) (n := t.toNat) (fun i σ H2 => ∃ (z : Str) (y4 : Option V), σ = [some (.ref p), some (.int m), some (.str z), some (.str sg), y4] ∧ (∀ b o, b ≠ p → H b = some o → H2 b = some o) ∧ BagAt H2 p ∧ Lt z ∧ z.length = i) ?_ ?_ ?_⟩
    · refine ⟨"", none, rfl, fun b o hb e => by rw [upd_ne hb]; exact kp b o hb e, ⟨_, _, upd_same⟩, by unfold Lt; decide +kernel, by decide +kernel⟩
    · rintro i σ H2 hi ⟨z, y4, rfl, k2, b2, lz, ez⟩
      have hsl : sg.length ≤ sizeLine := Nat.le_trans hsg.2.1 (by decide)
      refine ⟨_, rfl, _, rfl, _, rfl, _, rfl, sg, rfl, hsl, p, (sg.length : Int), rfl, b2, by omega, by omega, fun x3 y3 c hc0 hc1 => ?_⟩
      obtain ⟨j, rfl⟩ : ∃ j : Nat, c = j := ⟨c.toNat, by omega⟩
      have hjl : j < sg.cps.toList.length := by
        have e : sg.cps.toList.length = sg.length := by simp [Str.length]
        omega
      have hcj : sg.cps.toList[j]? = some sg.cps.toList[j] := List.getElem?_eq_getElem hjl
      have lone : Lt ⟨#[sg.cps.toList[j]]⟩ := by
        intro c hc
        have e : c = sg.cps.toList[j] := by simpa using hc
        rw [e]
        exact hsg.2.2 _ (List.getElem_mem hjl)
      have one : (⟨#[sg.cps.toList[j]]⟩ : Str).length = 1 := rfl
      refine ⟨sg, _, _, rfl, rfl, hsl, atI_nat hcj, _, _, rfl, rfl, ?_, ?_⟩
      · rw [one, ez]
        exact Nat.le_trans (show i + 1 ≤ 2000 by omega) (by decide)
      · refine ⟨_, _, rfl, fun b o hb e => by rw [upd_ne hb]; exact k2 b o hb e, ⟨_, _, upd_same⟩, lt_append lz lone, ?_⟩
        rw [strLen_append, one, ez]
    · rintro σ H2 ⟨z, y4, rfl, k2, b2, lz, ez⟩
      exact ⟨_, rfl, q H2 z k2 b2 lz (by omega)⟩
/-! ### _law_size: one level more for each depth -/
def spSize (K : PySem.W.Frag) (N : Nat) : Sp := fun vs H Q _ => ∃ (v : V) (d : PyData) (Hv : Hp), vs = [v] ∧ Same Hv H ∧ Dp K Hv v d ∧ valD d ∧ d.depth ≤ N ∧ sz d ≤ 1000000 ∧ ∀ H', Same H H' → Q (.int (sz d : Nat)) H'
theorem scSize : FnScope ["_law_value_here", "_law_one"] ["_law_value_here"] (defScope sSize) := ⟨rfl, rfl, rfl, by decide +kernel, rfl, by decide +kernel, by decide +kernel⟩
/-- what is no list: one, or one more than the letters -/
theorem val_leaf {K : PySem.W.Frag} {H : Hp} {v : V} {d : PyData} (h : Dp K H v d) (hv : valD d) (e : (tyD d == "list") = false) : (v = .non ∧ d = .none) ∨ ∃ x, v = .str x ∧ d = .str x := by
  cases h with
  | non => exact .inl ⟨rfl, rfl⟩
  | str x => exact .inr ⟨x, rfl, rfl⟩
  | bl _ => exact hv.elim
  | int _ => exact hv.elim
  | lst _ _ => simp [tyD] at e
  | tup _ _ => exact hv.elim
theorem ok_size {f : Addr} {fd : FuncData} (F : Fun K "_law_size" "_law_size" sSize f fd) (T : Nm mg) (B : Nb mg) (Y : Nv mg) (b : Binds K fd ["_law_value_here"] []) (g : mg "_law_size" = some (.ref f)) : ∀ N : Nat, FnOk P w K mg base CX0 (N + 1) f fd ["_law_value_here"] (spSize K N)
  | 0 => by
    refine F.ok scSize (fun vs H Q E h => ?_) (fun cdv A outer s H vs Q E hr h => ?_)
    · obtain ⟨v, d, Hv, rfl, _⟩ := h
      rfl
    · obtain ⟨v, d, Hv, rfl, sv, hd, hv, hz, hn, q⟩ := h
      refine ⟨_, pss_cons (ps_if (pt_val (pe_callB call_isi (by rfl) T.isi (by decide +kernel) (pa_cons (pv 0) (pa_cons (pe_bltn (v := .ty "list") (by rfl) T.lst (by decide +kernel) rfl) pa_nil)))) pss_never pss_nil)
        (pss_one (ps_ret (pe_ifExp (pt_cmp (pc_isN (pv 0))) pe_int (pe_op op_add pe_int (pe_callB call_len_str (by rfl) B.len PySem.boot_len (pa_cons (pv 0) pa_nil)))))), ?_⟩
      refine ⟨_, rfl, v, .ty "list", .type (tyD d), .type "list", _, rfl, .ty _, dp_ty (dp_same sv _ _ hd), kitL d K, _, rfl, ?_⟩
      have e : (tyD d == "list") = false := by
        cases hd with
        | lst _ _ => simp [PyData.depth] at hz
        | _ => simp [tyD]
      rw [e]
      refine iteF ?_
      rcases val_leaf hd hv e with ⟨rfl, rfl⟩ | ⟨x, rfl, rfl⟩
      · exact ⟨_, rfl, _, rfl, iteT (q H (Same.refl _))⟩
      · refine ⟨_, rfl, _, rfl, iteF ⟨_, rfl, x, rfl, Nat.le_trans (show x.length ≤ 1000000 by simp only [sz] at hn; omega) (by decide), _, _, rfl, rfl, ?_⟩⟩
        have e2 : (1 : Int) + ((x.length : Nat) : Int) = ((sz (.str x) : Nat) : Int) := by simp only [sz]; omega
        show Q (.int (1 + ((x.length : Nat) : Int))) H
        rw [e2]
        exact q H (Same.refl _)
  | N + 1 => by
    have G := ok_size F T B Y b g N
    refine F.ok scSize (fun vs H Q E h => ?_) (fun cdv A outer s H vs Q E hr h => ?_)
    · obtain ⟨v, d, Hv, rfl, _⟩ := h
      rfl
    · obtain ⟨v, d, Hv, rfl, sv, hd, hv, hz, hn, q⟩ := h
      refine ⟨_, pss_cons (ps_if (pt_val (pe_callB call_isi (by rfl) T.isi (by decide +kernel) (pa_cons (pv 0) (pa_cons (pe_bltn (v := .ty "list") (by rfl) T.lst (by decide +kernel) rfl) pa_nil))))
          (pss_one (ps_ret (pe_op op_add pe_int (pe_callB (cr_sum rfl) (by rfl) Y.sum (by decide +kernel) (pa_cons (pe_lc (own := [("_law_one", 1)]) (g := gName 1) (tt := tYes) (te := tCall (spSize K N) [] E0 (tCons (tVar 1) tNil)) rfl scSize.nd (pi_list (pv 0))
            (blkOk_by (own := [("_law_one", 1)]) (N := ["_law_value_here", "_law_one"]) (sc := defScope sSize) (by decide +kernel)) (fun _ _ _ _ _ => pg_name (i := 1) scSize.nd rfl (Or.inl rfl)) (fun _ _ _ _ _ => pts_nil)
            (fun _ _ _ _ _ => pe_call G hr (by rfl) g F.kp b .nil pass0 (pa_cons (pv 1) pa_nil))) pa_nil))))) pss_nil)
        (pss_one (ps_ret (pe_ifExp (pt_cmp (pc_isN (pv 0))) pe_int (pe_op op_add pe_int (pe_callB call_len_str (by rfl) B.len PySem.boot_len (pa_cons (pv 0) pa_nil)))))), ?_⟩
      refine ⟨_, rfl, v, .ty "list", .type (tyD d), .type "list", _, rfl, .ty _, dp_ty (dp_same sv _ _ hd), kitL d K, _, rfl, ?_⟩
      by_cases e : (tyD d == "list") = true
      · rw [e]
        refine iteT ?_
        cases hd with
        | @lst a xs es h1 h2 =>
          have hl : xs.length = es.length := DpAll.length h2
          have hvs : valAll es := hv
          have hz2 : PyData.depthAll es ≤ N := by
            simp only [PyData.depth] at hz
            omega
          have hn2 : szAll es + 1 ≤ 1000000 := by simpa only [sz] using hn
          refine ⟨_, rfl, a, rfl, ⟨_, sv.seq h1⟩, fun D nD => lc_list (K := K) (a := a) (xs := xs) (fun i H' => H' D = some (.lst ((es.take i).map fun e => V.int ((sz e : Nat) : Int))) ∧ Same H H') ⟨upd_same, same_upd nD⟩ (fun i H' hi ⟨_, sm⟩ => sm.seq (sv.seq h1)) ?_ ?_⟩
          · rintro i x H' hx ⟨k1, k2⟩
            obtain ⟨ei, hei, dei⟩ := DpAll.get h2 hx
            refine ⟨rfl, x, rfl, x, ei, Hv, rfl, sv.trans k2, dei, val_get hvs hei, Nat.le_trans (depth_get hei) hz2, Nat.le_trans (sz_get hei) (by omega), fun H'' s2 => ?_⟩
            have il := (List.getElem?_eq_some_iff.mp hei).1
            have el := szAll_len es
            refine ⟨_, s2 _ _ k1, Nat.lt_of_le_of_lt (show ((es.take i).map fun e => V.int ((sz e : Nat) : Int)).length ≤ 1000000 by rw [List.length_map, List.length_take]; omega) (by decide), ?_, same_fresh nD (k2.trans s2)⟩
            rw [upd_same, List.take_add_one, hei, List.map_append]
            rfl
          · rintro H' ⟨k1, k2⟩
            rw [hl, List.take_length] at k1
            have k1' : H' D = some (.lst ((es.map fun e => ((sz e : Nat) : Int)).map V.int)) := by
              rw [k1, List.map_map]
              rfl
            refine ⟨D, _, rfl, SqL.of k1', _, _, rfl, rfl, ?_⟩
            have e2 : (1 : Int) + (es.map fun e => ((sz e : Nat) : Int)).sum = ((sz (.list es) : Nat) : Int) := by
              rw [szAll_sum, sz]
              omega
            show Q (.int (1 + (es.map fun e => ((sz e : Nat) : Int)).sum)) H'
            rw [e2]
            exact q H' k2
        | _ => simp [tyD] at e
      · have e' : (tyD d == "list") = false := by simpa using e
        rw [e']
        refine iteF ?_
        rcases val_leaf hd hv e' with ⟨rfl, rfl⟩ | ⟨x, rfl, rfl⟩
        · exact ⟨_, rfl, _, rfl, iteT (q H (Same.refl _))⟩
        · refine ⟨_, rfl, _, rfl, iteF ⟨_, rfl, x, rfl, Nat.le_trans (show x.length ≤ 1000000 by simp only [sz] at hn; omega) (by decide), _, _, rfl, rfl, ?_⟩⟩
          have e2 : (1 : Int) + ((x.length : Nat) : Int) = ((sz (.str x) : Nat) : Int) := by simp only [sz]; omega
          show Q (.int (1 + ((x.length : Nat) : Int))) H
          rw [e2]
          exact q H (Same.refl _)
end
end TX
namespace TX
open PySem PySem.Spec PyProof.Rows L2
theorem eqT {n m : Int} {A B : Prop} (h : n = m) (a : A) : if decide (V.int n = V.int m) = true then A else B := by
  rw [h, decide_eq_true rfl]
  exact iteT a
theorem eqF {n m : Int} {A B : Prop} (h : n ≠ m) (b : B) : if decide (V.int n = V.int m) = true then A else B := by
  rw [decide_eq_false fun e => h (V.int.inj e)]
  exact iteF b
theorem ltT {n m : Int} {A B : Prop} (h : n < m) (a : A) : if decide (n < m) = true then A else B := by
  rw [decide_eq_true h]
  exact iteT a
theorem ltF {n m : Int} {A B : Prop} (h : ¬ n < m) (b : B) : if decide (n < m) = true then A else B := by
  rw [decide_eq_false h]
  exact iteF b
/-! ### _law_value -/
def spValue (K : PySem.W.Frag) (N : Nat) : Sp := fun vs H Q _ => ∃ (p : Addr) (deep room : Nat), vs = [.ref p, .int deep, .int room] ∧ BagAt H p ∧ deep ≤ N ∧ 1 ≤ room ∧ room ≤ 1000 ∧
  ∀ (H' : Hp) (v : V) (d : PyData), (∀ b o, b ≠ p → H b = some o → H' b = some o) → BagAt H' p → Dp K (newp H H') v d → valD d → d.depth ≤ deep → sz d ≤ room → Q v H'
theorem szAll_snoc (ds : List PyData) (d : PyData) : szAll (ds ++ [d]) = szAll ds + sz d := by
  rw [szAll_append]
  simp [szAll]
section
variable {P : Program} {w : World} {K : PySem.W.Frag} {mg : Str → Option Value} {base : Heap}
theorem scValue : FnScope ["_law_bag_here", "_law_deep", "_law_room", "_law_pick", "_law_made", "_law_left", "_law_turn"] ["_law_bag_here", "_law_deep", "_law_room"] (defScope sValue) := ⟨rfl, rfl, rfl, by decide +kernel, rfl, by decide +kernel, by decide +kernel⟩
/-- what value calls -/
structure Vc (P : Program) (w : World) (K : PySem.W.Frag) (mg : Str → Option Value) (base : Heap) (fT fX fS : Addr) (dT dX dS : FuncData) : Prop where
  GT : FnOk P w K mg base CX0 1 fT dT ["_law_bag_here", "_law_many"] spTake
  bT : Binds K dT ["_law_bag_here", "_law_many"] []
  gT : mg "_law_take" = some (.ref fT)
  kT : PySem.W.keepIn K (.ref fT) = true
  GX : FnOk P w K mg base CX0 2 fX dX ["_law_bag_here", "_law_most"] spText
  bX : Binds K dX ["_law_bag_here", "_law_most"] []
  gX : mg "_law_text" = some (.ref fX)
  kX : PySem.W.keepIn K (.ref fX) = true
  GS : ∀ N : Nat, FnOk P w K mg base CX0 (N + 1) fS dS ["_law_value_here"] (spSize K N)
  bS : Binds K dS ["_law_value_here"] []
  gS : mg "_law_size" = some (.ref fS)
  kS : PySem.W.keepIn K (.ref fS) = true
theorem pe_ex {X : Cx} {i : Type} {e : Expr} {t : i → TE} (h : ∀ j, PE X e (t j)) : PE X e (fun σ H Q => ∃ j, t j σ H Q) := ⟨fun pins s σ H Q I ⟨j, q⟩ => (h j).run pins s σ H Q I q⟩
theorem ok_value {f fT fX fS : Addr} {fd dT dX dS : FuncData} (F : Fun K "_law_value" "_law_value" sValue f fd) (b : Binds K fd ["_law_bag_here", "_law_deep", "_law_room"] []) (g : mg "_law_value" = some (.ref f)) (Y : Nv mg) (C : Vc P w K mg base fT fX fS dT dX dS) (N : Nat)
    (G : ∀ j : { M : Nat // M + 1 = N }, FnOk P w K mg base CX0 (j.1 + 3) f fd ["_law_bag_here", "_law_deep", "_law_room"] (spValue K j.1)) : FnOk P w K mg base CX0 (N + 3) f fd ["_law_bag_here", "_law_deep", "_law_room"] (spValue K N) := by
  refine F.ok scValue (fun vs H Q E h => ?_) (fun cdv A outer s H vs Q E hr h => ?_)
  · obtain ⟨p, deep, room, rfl, _⟩ := h
    rfl
  · obtain ⟨p, deep, room, rfl, bag, hdN, hr1, hr2, q⟩ := h
    have hrT : Room 1 _ := hr.mono (by omega)
    have hrX : Room 2 _ := hr.mono (by omega)
    have hrS : Room (N + 1) _ := hr.mono (by omega)
    have hrR : ∀ j : { M : Nat // M + 1 = N }, Room (j.1 + 3) _ := fun j => hr.mono (by have := j.2; omega)
    refine ⟨_, pss_cons (ps_set (i := 3) scValue.nd rfl (.inl rfl) (pe_call C.GT hrT (by rfl) C.gT C.kT C.bT .nil pass0 (pa_cons (pv 0) (pa_cons pe_int pa_nil))))
      (pss_cons (ps_if (PW.pt (pw_or (pt_cmpR op_eq (pv 3) pe_int (nomark _)) (pw_or1 (pt_cmpR op_eq (pv 2) pe_int (nomark _)))))
        (pss_one (ps_ret (pe_ix ix_list (pe_lst (pa_cons pe_non (pa_cons pe_str (pa_cons (pe_lst pa_nil) pa_nil)))) (pe_call C.GT hrT (by rfl) C.gT C.kT C.bT .nil pass0 (pa_cons (pv 0) (pa_cons (pe_ifExp (pt_cmpR op_gt (pv 1) pe_int (nomark _)) pe_int pe_int) pa_nil))) (fun _ _ => rfl)))) pss_nil)
      (pss_cons (ps_if (PW.pt (pw_or (pt_cmpR op_eq (pv 3) pe_int (nomark _)) (pw_or1 (pt_cmpR op_eq (pv 1) pe_int (nomark _)))))
        (pss_one (ps_ret (pe_call C.GX hrX (by rfl) C.gX C.kX C.bX .nil pass0 (pa_cons (pv 0) (pa_cons (pe_callB (call_min2 rfl) (by rfl) Y.min (by decide +kernel) (pa_cons pe_int (pa_cons (pe_op op_sub (pv 2) pe_int) pa_nil))) pa_nil))))) pss_nil)
      (pss_cons (ps_par (i := 4) (j := 5) rfl scValue.nd rfl rfl (by decide) rfl rfl (pa_cons (pe_lst pa_nil) (pa_cons (pe_op op_sub (pv 2) pe_int) pa_nil)) (by rfl))
      (pss_cons (ps_for PassesOwn.never rfl (pi_range1 (by rfl) Y.range (pa_cons (pe_call C.GT hrT (by rfl) C.gT C.kT C.bT .nil pass0 (pa_cons (pv 0) (pa_cons pe_int pa_nil))) pa_nil)) (pg_name (i := 6) scValue.nd rfl (.inl rfl))
        (pss_one (ps_if (pt_cmpR op_gt (pv 5) pe_int (nomark _))
          (pss_cons (ps_expr (pe_bm PySem.F.plainAttrs_list PySem.F.slot_list_append PySem.F.type_list_append mt_append (pv 4) (pa_cons (pe_ex fun j => pe_call (G j) (hrR j) (by rfl) g F.kp b .nil pass0 (pa_cons (pv 0) (pa_cons (pe_op op_sub (pv 1) pe_int) (pa_cons (pv 5) pa_nil)))) pa_nil)))
          (pss_one (ps_set (i := 5) scValue.nd rfl (.inl rfl) (pe_op op_sub (pv 5) (pe_call (C.GS N) hrS (by rfl) C.gS C.kS C.bS .nil pass0 (pa_cons (pe_ix ix_list (pv 4) (pe_un un_neg pe_int) (fun _ _ => rfl)) pa_nil)))))) pss_nil)))
      (pss_one (ps_ret (pv 4))))))), ?_⟩
    refine ⟨_, rfl, p, 5, rfl, bag, by decide, by decide, fun x1 y1 k hk0 hk1 => ?_⟩
    have kp : ∀ b o, b ≠ p → H b = some o → upd H p (.lst [.int x1, .int y1]) b = some o := fun b o hb e => by
      rw [upd_ne hb]
      exact e
    have bag1 : BagAt (upd H p (.lst [.int x1, .int y1])) p := ⟨_, _, upd_same⟩
    have keepAll : ∀ b, H b ≠ none → upd H p (.lst [.int x1, .int y1]) b ≠ none := fun b hb => by
      by_cases e : b = p
      · rw [e, upd_same]
        exact fun z => nomatch z
      · rw [upd_ne e]
        exact hb
    have pH : H p ≠ none := by
      obtain ⟨x, y, e⟩ := bag
      rw [e]
      exact fun z => nomatch z
    generalize upd H p (.lst [.int x1, .int y1]) = G1 at kp bag1 keepAll
    have newOf : ∀ {b : Addr}, G1 b = none → H b = none := fun {b} e => Classical.byContradiction fun hb => keepAll b hb e
    -- the first return: one of three small things
    have small : (tRet (tOp (rIxL K) (tLst (tCons (tC .non) (tCons (tC (.str "")) (tCons (tLst tNil) tNil)))) (tCall spTake [] E0 (tCons (tVar 0) (tCons (tIf (tTest (tOp (rI0 fun i j => .bl (decide (j < i))) (tVar 1) (tC (.int 0)))) (tC (.int 3)) (tC (.int 2))) tNil))))) { nx := fun _ H' => Q .non H', rt := Q } [some (.ref p), some (.int deep), some (.int room), some (.int k), none, none, none] G1 := by
      refine ⟨Nat.zero_le _, fun l0 n0 => ⟨(by show 3 ≤ sizeLine; decide), fun l n => ?_⟩⟩
      have b2 : BagAt (upd (upd G1 l0 (.lst [])) l (.lst [.non, .str "", .ref l0])) p := let ⟨x, y, e⟩ := bag1; ⟨x, y, same_upd n _ _ (same_upd n0 _ _ e)⟩
      have p0 : p ≠ l0 := fun e => by
        obtain ⟨x, y, e2⟩ := bag1
        rw [← e, e2] at n0
        cases n0
      have p1 : p ≠ l := fun e => by
        obtain ⟨x, y, e2⟩ := bag1
        have e3 := same_upd n0 (o := .lst []) _ _ e2
        rw [e, n] at e3
        cases e3
      have l01 : l0 ≠ l := fun e => by
        rw [← e, upd_same] at n
        cases n
      refine ⟨_, rfl, _, rfl, _, _, rfl, rfl, _, rfl, ?_⟩
      by_cases hd0 : (0 : Int) < (deep : Int)
      · refine ltT hd0 ?_
        refine ⟨p, 3, rfl, b2, by decide, by decide, fun x2 y2 c hc0 hc1 => ?_⟩
        have hl : (upd (upd (upd G1 l0 (.lst [])) l (.lst [.non, .str "", .ref l0])) p (.lst [.int x2, .int y2])) l = some (.lst [.non, .str "", .ref l0]) := by
          rw [upd_ne p1.symm, upd_same]
        have hl0 : (upd (upd (upd G1 l0 (.lst [])) l (.lst [.non, .str "", .ref l0])) p (.lst [.int x2, .int y2])) l0 = some (.lst []) := by
          rw [upd_ne p0.symm, upd_ne l01, upd_same]
        have k2 : ∀ b o, b ≠ p → H b = some o → (upd (upd (upd G1 l0 (.lst [])) l (.lst [.non, .str "", .ref l0])) p (.lst [.int x2, .int y2])) b = some o := fun b o hb e => by
          rw [upd_ne hb]
          exact same_upd n _ _ (same_upd n0 _ _ (kp b o hb e))
        have b3 : BagAt (upd (upd (upd G1 l0 (.lst [])) l (.lst [.non, .str "", .ref l0])) p (.lst [.int x2, .int y2])) p := ⟨_, _, upd_same⟩
        obtain rfl | rfl | rfl : c = 0 ∨ c = 1 ∨ c = 2 := by omega
        · exact ⟨l, _, 0, _, rfl, rfl, SqL.of hl, atI_nat (j := 0) rfl, q _ _ .none k2 b3 .non trivial (by simp [PyData.depth]) (by simpa [sz] using hr1)⟩
        · exact ⟨l, _, 1, _, rfl, rfl, SqL.of hl, atI_nat (j := 1) rfl, q _ _ (.str "") k2 b3 (.str _) (by show Lt ""; unfold Lt; decide +kernel) (by simp [PyData.depth]) (by simp only [sz]; exact hr1)⟩
        · refine ⟨l, _, 2, _, rfl, rfl, SqL.of hl, atI_nat (j := 2) rfl, q _ _ (.list []) k2 b3 (.lst (SqL.of ?_) .nil) trivial (by simp [PyData.depth, PyData.depthAll]; omega) (by simp [sz, szAll]; exact hr1)⟩
          rw [newp_at (newOf n0)]
          exact hl0
      · refine ltF hd0 ?_
        refine ⟨p, 2, rfl, b2, by decide, by decide, fun x2 y2 c hc0 hc1 => ?_⟩
        have hl : (upd (upd (upd G1 l0 (.lst [])) l (.lst [.non, .str "", .ref l0])) p (.lst [.int x2, .int y2])) l = some (.lst [.non, .str "", .ref l0]) := by
          rw [upd_ne p1.symm, upd_same]
        have hl0 : (upd (upd (upd G1 l0 (.lst [])) l (.lst [.non, .str "", .ref l0])) p (.lst [.int x2, .int y2])) l0 = some (.lst []) := by
          rw [upd_ne p0.symm, upd_ne l01, upd_same]
        have k2 : ∀ b o, b ≠ p → H b = some o → (upd (upd (upd G1 l0 (.lst [])) l (.lst [.non, .str "", .ref l0])) p (.lst [.int x2, .int y2])) b = some o := fun b o hb e => by
          rw [upd_ne hb]
          exact same_upd n _ _ (same_upd n0 _ _ (kp b o hb e))
        have b3 : BagAt (upd (upd (upd G1 l0 (.lst [])) l (.lst [.non, .str "", .ref l0])) p (.lst [.int x2, .int y2])) p := ⟨_, _, upd_same⟩
        obtain rfl | rfl : c = 0 ∨ c = 1 := by omega
        · exact ⟨l, _, 0, _, rfl, rfl, SqL.of hl, atI_nat (j := 0) rfl, q _ _ .none k2 b3 .non trivial (by simp [PyData.depth]) (by simpa [sz] using hr1)⟩
        · exact ⟨l, _, 1, _, rfl, rfl, SqL.of hl, atI_nat (j := 1) rfl, q _ _ (.str "") k2 b3 (.str _) (by show Lt ""; unfold Lt; decide +kernel) (by simp [PyData.depth]) (by simp only [sz]; exact hr1)⟩
    refine ⟨_, rfl, rfl, _, rfl, ?_⟩
    by_cases e0 : k = 0
    · exact eqT e0 (iteT small)
    refine eqF e0 ⟨_, rfl, rfl, _, rfl, ?_⟩
    by_cases er : (room : Int) = 1
    · exact eqT er small
    refine eqF er ?_
    -- a text
    have text : (tRet (tCall spText [] E0 (tCons (tVar 0) (tCons (tCB (fun xs H Q => ∃ i j, xs = [.int i, .int j] ∧ Q (.int (if j < i then j else i)) H) (tCons (tC (.int 4)) (tCons (tOp (rI0 fun i j => .int (i - j)) (tVar 2) (tC (.int 1))) tNil))) tNil)))) { nx := fun _ H' => Q .non H', rt := Q } [some (.ref p), some (.int deep), some (.int room), some (.int k), none, none, none] G1 := by
      refine ⟨_, rfl, _, rfl, _, _, rfl, rfl, _, _, rfl, p, _, rfl, bag1, ?_, ?_, fun H' z k2 b2 lz hz => ?_⟩
      · split <;> omega
      · split <;> omega
      · refine q H' (.str z) (.str z) (fun b o hb e => k2 b o hb (kp b o hb e)) b2 (.str z) lz (by simp [PyData.depth]) ?_
        simp only [sz]
        split at hz <;> omega
    refine ⟨_, rfl, rfl, _, rfl, ?_⟩
    by_cases e1 : k = 1
    · exact eqT e1 (iteT text)
    refine eqF e1 ⟨_, rfl, rfl, _, rfl, ?_⟩
    by_cases ed : (deep : Int) = 0
    · exact eqT ed text
    refine eqF ed ?_
    clear small text
    obtain ⟨M, rfl⟩ : ∃ M, deep = M + 1 := ⟨deep - 1, by omega⟩
    -- made, left = [], room - 1
    refine ⟨Nat.zero_le _, fun m nm => ⟨_, rfl, _, _, rfl, rfl, _, _, rfl, ?_⟩⟩
    have nmH : H m = none := newOf nm
    have mp : m ≠ p := fun e => by
      rw [e] at nmH
      exact pH nmH
    have b2 : BagAt (upd G1 m (.lst [])) p := let ⟨x, y, e⟩ := bag1; ⟨x, y, same_upd nm _ _ e⟩
    refine ⟨_, rfl, p, 5, rfl, b2, by decide, by decide, fun x2 y2 c hc0 hc1 => ?_⟩
    refine ⟨c, rfl, by omega, by omega, for_range (lo := 0) (n := c.toNat) (fun i σ H2 => ∃ (left : Nat) (ws : List V) (ds : List PyData) (y6 : Option V), σ = [some (.ref p), some (.int ((M + 1 : Nat) : Int)), some (.int room), some (.int k), some (.ref m), some (.int left), y6] ∧
      (∀ b o, b ≠ p → H b = some o → H2 b = some o) ∧ BagAt H2 p ∧ H2 m = some (.lst ws) ∧ DpAll K (newB H m H2) ws ds ∧ valAll ds ∧ PyData.depthAll ds ≤ M ∧ szAll ds + left + 1 = room) ?_ ?_ ?_⟩
    · refine ⟨room - 1, [], [], none, ?_, fun b o hb e => ?_, ⟨_, _, upd_same⟩, ?_, .nil, trivial, by simp [PyData.depthAll], by simp [szAll]; omega⟩
      · have e : ((room : Int) - 1) = ((room - 1 : Nat) : Int) := by omega
        show _ = _
        rw [← e]
        rfl
      · rw [upd_ne hb]
        exact same_upd nm _ _ (kp b o hb e)
      · rw [upd_ne mp, upd_same]
    · rintro i σ H2 hi ⟨left, ws, ds, y6, rfl, k2, b2, hm2, hws, hvs, hdp, hsz⟩
      refine ⟨_, rfl, _, _, rfl, rfl, _, rfl, ?_⟩
      by_cases hl : (0 : Int) < (left : Int)
      · refine ltT hl ?_
        have em : ((M + 1 : Nat) : Int) - 1 = ((M : Nat) : Int) := by omega
        refine ⟨_, rfl, .inl ⟨rfl, _, SqL.of hm2⟩, ⟨N - 1, by omega⟩, _, rfl, _, rfl, _, _, rfl, rfl, _, rfl, p, M, left, ?_, b2, (by show M ≤ N - 1; omega), by omega, by omega, fun H3 v d k3 b3 hv vd dd ds3 => ?_⟩
        · show [V.ref p, V.int (((M + 1 : Nat) : Int) - 1), V.int left] ++ [] = _
          rw [em]
          rfl
        have hm3 : H3 m = some (.lst ws) := k3 m _ mp hm2
        have wl : ws.length ≤ 1000 := by
          have e1 := DpAll.length hws
          have e2 := szAll_len ds
          omega
        refine ⟨m, ws, v, rfl, rfl, hm3, Nat.lt_of_le_of_lt wl (by decide), ?_⟩
        have all2 : ∀ b, H b ≠ none → H2 b ≠ none := fun b hb => by
          cases e : H b with
          | none => exact absurd e hb
          | some o =>
            by_cases eb : b = p
            · rw [eb]
              obtain ⟨x, y, e2⟩ := b2
              rw [e2]
              exact fun z => nomatch z
            · rw [k2 b o eb e]
              exact fun z => nomatch z
        have old : Same (newB H m H2) (newB H m (upd H3 m (.lst (ws ++ [v])))) := fun b o e => by
          by_cases bm : b = m
          · unfold newB at e
            rw [if_pos bm] at e
            cases e
          · cases hh : H b with
            | some u =>
              unfold newB at e
              rw [if_neg bm, hh] at e
              cases e
            | none =>
              have bp : b ≠ p := fun z => by
                rw [z] at hh
                exact pH hh
              rw [newB_at hh bm] at e ⊢
              rw [upd_ne bm]
              exact k3 b o bp e
        have new : Same (newp H2 H3) (newB H m (upd H3 m (.lst (ws ++ [v])))) := fun b o e => by
          cases h2 : H2 b with
          | some u =>
            rw [newp_old h2] at e
            cases e
          | none =>
            rw [newp_at h2] at e
            have hh : H b = none := Classical.byContradiction fun z => all2 b z h2
            have bm : b ≠ m := fun z => by
              rw [z, hm2] at h2
              cases h2
            rw [newB_at hh bm, upd_ne bm]
            exact e
        have b4 : BagAt (upd H3 m (.lst (ws ++ [v]))) p := let ⟨x, y, e⟩ := b3; ⟨x, y, by rw [upd_ne mp.symm]; exact e⟩
        have k4 : ∀ b o, b ≠ p → H b = some o → (upd H3 m (.lst (ws ++ [v]))) b = some o := fun b o hb e => by
          rw [upd_ne (ne_of_none e nmH)]
          exact k3 b o hb (k2 b o hb e)
        have hm4 : (upd H3 m (.lst (ws ++ [v]))) m = some (.lst (ws ++ [v])) := upd_same
        have vnew : Dp K (newB H m (upd H3 m (.lst (ws ++ [v])))) v d := dp_same new _ _ hv
        have all4 : DpAll K (newB H m (upd H3 m (.lst (ws ++ [v])))) (ws ++ [v]) (ds ++ [d]) := DpAll.append (dpAll_same old _ _ hws) (.cons vnew .nil)
        generalize upd H3 m (.lst (ws ++ [v])) = G4 at b4 k4 hm4 vnew all4
        have sub : Same (newB H m G4) G4 := fun b o e => newp_same _ _ (newB_newp _ _ e)
        -- left = left - size(made[-1])
        refine ⟨_, rfl, _, rfl, 1, rfl, m, _, -1, v, rfl, rfl, SqL.of hm4, atI_last _ _, v, d, newB H m G4, rfl, sub, vnew, vd, by omega, by omega, fun H5 s5 => ?_⟩
        refine ⟨_, _, rfl, rfl, left - sz d, ws ++ [v], ds ++ [d], some (.int (0 + (i : Int))), ?_, fun b o hb e => s5 _ _ (k4 b o hb e), ?_, s5 _ _ hm4, dpAll_same (newB_mono fun b o _ e => s5 _ _ e) _ _ all4, (valAll_append _ _).mpr ⟨hvs, vd, trivial⟩, ?_, ?_⟩
        · have e : ((left : Int) - (sz d : Int)) = ((left - sz d : Nat) : Int) := by omega
          show _ = _
          rw [← e]
          rfl
        · obtain ⟨x, y, e⟩ := b4
          exact ⟨x, y, s5 _ _ e⟩
        · rw [depthAll_append]
          simp only [PyData.depthAll]
          omega
        · rw [szAll_snoc]
          omega
      · refine ltF hl ?_
        exact ⟨left, ws, ds, _, rfl, k2, b2, hm2, hws, hvs, hdp, hsz⟩
    · rintro σ H2 ⟨left, ws, ds, y6, rfl, k2, b2, hm2, hws, hvs, hdp, hsz⟩
      refine ⟨_, rfl, q H2 (.ref m) (.list ds) k2 b2 (.lst (SqL.of ?_) (dpAll_same newB_newp _ _ hws)) hvs ?_ ?_⟩
      · rw [newp_at nmH]
        exact hm2
      · simp only [PyData.depth]
        omega
      · simp only [sz]
        omega
end
end TX
namespace TX
open PySem PySem.Spec PyProof.Rows L2
/-! ### a text, repeated -/
theorem mem_reps {P : Nat → Prop} {x : Array Nat} (hx : ∀ c ∈ x.toList, P c) : ∀ (k : Nat) (acc : Array Nat), (∀ c ∈ acc.toList, P c) → ∀ c ∈ ((List.replicate k x).foldl (· ++ ·) acc).toList, P c
  | 0, acc, h => by simpa using h
  | k + 1, acc, h => by
    rw [List.replicate_succ, List.foldl_cons]
    refine mem_reps hx k _ fun c hc => ?_
    rw [Array.toList_append] at hc
    exact (List.mem_append.mp hc).elim (h c) (hx c)
theorem size_rep : ∀ (x : Array Nat) (k : Nat) (acc : Array Nat), ((List.replicate k x).foldl (· ++ ·) acc).size = acc.size + k * x.size
  | x, 0, acc => by simp
  | x, k + 1, acc => by
    rw [List.replicate_succ, List.foldl_cons, size_rep x k, Array.size_append, Nat.succ_mul]
    omega
theorem mul_lt {x : Str} {n : Nat} (h : Lt x) : Lt (Txt.mul x (n : Int)) ∧ (Txt.mul x (n : Int)).length ≤ n * x.length + x.length := by
  unfold Txt.mul
  split
  · refine ⟨by unfold Lt; decide +kernel, ?_⟩
    have e : Str.empty.length = 0 := rfl
    omega
  · split
    · exact ⟨h, by omega⟩
    · refine ⟨mem_reps (P := fun c => 97 ≤ c ∧ c ≤ 122) h _ _ (by simp), ?_⟩
      have e := size_rep x.cps (n : Int).toNat #[]
      have e2 : (n : Int).toNat = n := by omega
      rw [e2] at e
      show ((List.replicate (n : Int).toNat x.cps).foldl (· ++ ·) #[]).size ≤ _
      rw [e2, e]
      have e3 : x.length = x.cps.size := rfl
      rw [e3]
      simp
section
variable {X : Cx}
def rMulS : R2 := fun x y H Q => ∃ (a : Str) (n : Nat), x = .str a ∧ y = .int n ∧ n ≤ 1000 ∧ a.length ≤ 1000 ∧ Q (.str (Txt.mul a (n : Int))) H
theorem op_mulS : OpR X (binaryOp .Mult) rMulS := by
  intro pins s σ H x y v u Q I rx ry h
  obtain ⟨a, n, rfl, rfl, hn, ha, q⟩ := h
  obtain ⟨t, rfl⟩ := rx
  obtain ⟨t', rfl⟩ := ry
  refine SB.mul ⟨?_, fun h1 _ => ?_, fun h1 _ => ?_⟩ fun t' k => ⟨.str _, H, I.tok k, ⟨t', rfl⟩, q⟩
  · rw [decide_eq_false (show ¬ ((n : Int) < -(2 ^ 63 : Int)) by omega), decide_eq_false (show ¬ ((n : Int) ≥ 2 ^ 63) by omega)]
    rfl
  · have h2 : (2 ^ 63 - 1 : Int) / 1000 ≤ (2 ^ 63 - 1) / (n : Int) := by
      refine Int.le_ediv_of_mul_le (by omega) ?_
      have e : (2 ^ 63 - 1 : Int) / 1000 = 9223372036854775 := by decide
      rw [e]
      have e2 : (9223372036854775 : Int) * (n : Int) ≤ 9223372036854775 * 1000 := Int.mul_le_mul_of_nonneg_left (by omega) (by omega)
      omega
    have e : (2 ^ 63 - 1 : Int) / 1000 = 9223372036854775 := by decide
    omega
  · have e : a.length * (n : Int).toNat ≤ 1000 * 1000 := Nat.mul_le_mul ha (by omega)
    show decide (a.length * (n : Int).toNat > sizeLine) = false
    exact decide_eq_false (by have : (1000 * 1000 : Nat) ≤ sizeLine := by decide
                              omega)
end
theorem lt_cut {z : Str} {lo hi : Option Int} (h : Lt z) : Lt (cutS z lo hi) := fun c hc => h c (List.mem_of_mem_drop (List.mem_of_mem_take (by simpa [cutS] using hc)))
theorem len_cut {z : Str} {t : Nat} : (cutS z none (some (t : Int))).length ≤ t := by
  unfold cutS
  show (List.toArray _).size ≤ t
  rw [List.size_toArray, List.length_take, HT.sIx_nat, HT.sIx_none]
  omega
theorem qfit {z : Str} (h : (z.length : Int) ≤ 5) : (("q" : Str)).length + z.length ≤ sizeLine := by
  have e : (("q" : Str)).length = 1 := by decide +kernel
  exact Nat.le_trans (show (("q" : Str)).length + z.length ≤ 6 by omega) (by decide)
/-! ### lists of data, cut and repeated -/
theorem DpAll.take {K : PySem.W.Frag} {H : Hp} : ∀ {ds : List PyData} {vs : List V} (n : Nat), DpAll K H vs ds → DpAll K H (vs.take n) (ds.take n)
  | [], _, n, h => by
    cases h
    simp
    exact .nil
  | d :: ds, _, 0, h => by
    simp
    exact .nil
  | d :: ds, _, n + 1, h => by
    cases h with
    | cons h1 h2 => exact .cons h1 (DpAll.take (ds := ds) n h2)
theorem DpAll.rep {K : PySem.W.Frag} {H : Hp} {ds : List PyData} {vs : List V} (h : DpAll K H vs ds) : ∀ n : Nat, DpAll K H (List.replicate n vs).flatten (List.replicate n ds).flatten
  | 0 => .nil
  | n + 1 => by
    rw [List.replicate_succ, List.replicate_succ, List.flatten_cons, List.flatten_cons]
    exact DpAll.append h (DpAll.rep h n)
theorem val_take : ∀ {ds : List PyData} (n : Nat), valAll ds → valAll (ds.take n)
  | [], n, h => by simpa using h
  | d :: ds, 0, h => trivial
  | d :: ds, n + 1, h => ⟨h.1, val_take n h.2⟩
theorem depth_take : ∀ {ds : List PyData} (n : Nat), PyData.depthAll (ds.take n) ≤ PyData.depthAll ds
  | [], n => by simp
  | d :: ds, 0 => by simp [PyData.depthAll]
  | d :: ds, n + 1 => by
    have := depth_take (ds := ds) n
    simp only [List.take_succ_cons, PyData.depthAll]
    omega
theorem val_rep {ds : List PyData} (h : valAll ds) : ∀ n : Nat, valAll (List.replicate n ds).flatten
  | 0 => trivial
  | n + 1 => by
    rw [List.replicate_succ, List.flatten_cons]
    exact (valAll_append _ _).mpr ⟨h, val_rep h n⟩
theorem depth_rep {ds : List PyData} : ∀ n : Nat, PyData.depthAll (List.replicate n ds).flatten ≤ PyData.depthAll ds
  | 0 => by simp [PyData.depthAll]
  | n + 1 => by
    have := depth_rep (ds := ds) n
    rw [List.replicate_succ, List.flatten_cons, depthAll_append]
    omega
/-- each of the data is at most that great -/
def EachLe (c : Nat) (ds : List PyData) : Prop := ∀ d ∈ ds, sz d ≤ c
theorem each_nil {c : Nat} : EachLe c [] := fun d hd => nomatch hd
theorem each_sum {c : Nat} : ∀ {ds : List PyData}, EachLe c ds → szAll ds ≤ c * ds.length
  | [], _ => by simp [szAll]
  | d :: ds, h => by
    have h1 := h d List.mem_cons_self
    have h2 := each_sum (ds := ds) fun e he => h e (List.mem_cons_of_mem _ he)
    rw [szAll, List.length_cons, Nat.mul_succ]
    omega
/-! ### what is new stays new -/
theorem newp_mono {H H2 H3 : Hp} {p : Addr} (pH : H p ≠ none) (k : ∀ b o, b ≠ p → H2 b = some o → H3 b = some o) : Same (newp H H2) (newp H H3) := fun b o e => by
  cases h : H b with
  | some u =>
    rw [newp_old h] at e
    cases e
  | none =>
    rw [newp_at h] at e ⊢
    exact k b o (fun z => pH (z ▸ h)) e
theorem newp_sub {H H2 H3 : Hp} (k : ∀ b, H b ≠ none → H2 b ≠ none) : Same (newp H2 H3) (newp H H3) := fun b o e => by
  cases h2 : H2 b with
  | some u =>
    rw [newp_old h2] at e
    cases e
  | none =>
    rw [newp_at h2] at e
    have h : H b = none := Classical.byContradiction fun z => k b z h2
    rw [newp_at h]
    exact e
/-- the entries of H are still there -/
theorem there {H H2 : Hp} {p : Addr} (k : ∀ b o, b ≠ p → H b = some o → H2 b = some o) (b2 : BagAt H2 p) : ∀ b, H b ≠ none → H2 b ≠ none := fun b hb => by
  cases e : H b with
  | none => exact absurd e hb
  | some o =>
    by_cases eb : b = p
    · rw [eb]
      obtain ⟨x, y, e2⟩ := b2
      rw [e2]
      exact fun z => nomatch z
    · rw [k b o eb e]
      exact fun z => nomatch z
theorem bag_in {H : Hp} {p : Addr} (b : BagAt H p) : H p ≠ none := by
  obtain ⟨x, y, e⟩ := b
  rw [e]
  exact fun z => nomatch z
theorem bag_same {H H' : Hp} {p : Addr} (b : BagAt H p) (s : Same H H') : BagAt H' p := let ⟨x, y, e⟩ := b; ⟨x, y, s _ _ e⟩
/-- a list of data at m, the bag at p: one more made behind -/
theorem grow {K : PySem.W.Frag} {H H2 H3 : Hp} {p m : Addr} {ws : List V} {ds : List PyData} {v : V} {d : PyData} (pH : H p ≠ none) (nmH : H m = none) (k2 : ∀ b o, b ≠ p → H b = some o → H2 b = some o) (b2 : BagAt H2 p) (hm2 : H2 m = some (.lst ws))
    (hws : DpAll K (newB H m H2) ws ds) (k3 : ∀ b o, b ≠ p → H2 b = some o → H3 b = some o) (b3 : BagAt H3 p) (hv : Dp K (newp H2 H3) v d) :
    (∀ b o, b ≠ p → H b = some o → (upd H3 m (.lst (ws ++ [v]))) b = some o) ∧ BagAt (upd H3 m (.lst (ws ++ [v]))) p ∧ H3 m = some (.lst ws) ∧ DpAll K (newB H m (upd H3 m (.lst (ws ++ [v])))) (ws ++ [v]) (ds ++ [d]) := by
  have mp : m ≠ p := fun e => pH (e ▸ nmH)
  have all2 := there k2 b2
  have old : Same (newB H m H2) (newB H m (upd H3 m (.lst (ws ++ [v])))) := fun b o e => by
    by_cases bm : b = m
    · unfold newB at e
      rw [if_pos bm] at e
      cases e
    · cases hh : H b with
      | some u =>
        unfold newB at e
        rw [if_neg bm, hh] at e
        cases e
      | none =>
        have bp : b ≠ p := fun z => pH (z ▸ hh)
        rw [newB_at hh bm] at e ⊢
        rw [upd_ne bm]
        exact k3 b o bp e
  have new : Same (newp H2 H3) (newB H m (upd H3 m (.lst (ws ++ [v])))) := fun b o e => by
    cases h2 : H2 b with
    | some u =>
      rw [newp_old h2] at e
      cases e
    | none =>
      rw [newp_at h2] at e
      have hh : H b = none := Classical.byContradiction fun z => all2 b z h2
      have bm : b ≠ m := fun z => by
        rw [z, hm2] at h2
        cases h2
      rw [newB_at hh bm, upd_ne bm]
      exact e
  refine ⟨fun b o hb e => ?_, ?_, k3 m _ mp hm2, DpAll.append (dpAll_same old _ _ hws) (.cons (dp_same new _ _ hv) .nil)⟩
  · rw [upd_ne (ne_of_none e nmH)]
    exact k3 b o hb (k2 b o hb e)
  · obtain ⟨x, y, e⟩ := b3
    exact ⟨x, y, by rw [upd_ne mp.symm]; exact e⟩
section
variable {P : Program} {w : World} {K : PySem.W.Frag} {mg : Str → Option Value} {base : Heap}
theorem ok_values {f fT fX fS : Addr} {fd dT dX dS : FuncData} (F : Fun K "_law_value" "_law_value" sValue f fd) (b : Binds K fd ["_law_bag_here", "_law_deep", "_law_room"] []) (g : mg "_law_value" = some (.ref f)) (Y : Nv mg) (C : Vc P w K mg base fT fX fS dT dX dS) :
    ∀ N : Nat, FnOk P w K mg base CX0 (N + 3) f fd ["_law_bag_here", "_law_deep", "_law_room"] (spValue K N)
  | 0 => ok_value F b g Y C 0 fun j => absurd j.2 (by omega)
  | N + 1 => ok_value F b g Y C (N + 1) fun ⟨M, e⟩ => by
    have e2 : M = N := by omega
    subst e2
    exact ok_values F b g Y C M
/-! ### _law_great -/
def spGreat (K : PySem.W.Frag) : Sp := fun vs H Q _ => ∃ (p : Addr), vs = [.ref p] ∧ BagAt H p ∧
  ∀ (H' : Hp) (v : V) (d : PyData), (∀ b o, b ≠ p → H b = some o → H' b = some o) → BagAt H' p → Dp K (newp H H') v d → valD d → d.depth ≤ 13 → sz d ≤ 500 → Q v H'
theorem scGreat : FnScope ["_law_bag_here", "_law_pick", "_law_word", "_law_turn", "_law_small", "_law_made", "_law_k"] ["_law_bag_here"] (defScope sGreat) := ⟨rfl, rfl, rfl, by decide +kernel, rfl, by decide +kernel, by decide +kernel⟩
theorem ok_great {f fT fX fS fV : Addr} {fd dT dX dS dV : FuncData} (F : Fun K "_law_great" "_law_great" sGreat f fd) (Y : Nv mg) (C : Vc P w K mg base fT fX fS dT dX dS) (GV : FnOk P w K mg base CX0 7 fV dV ["_law_bag_here", "_law_deep", "_law_room"] (spValue K 4)) (gV : mg "_law_value" = some (.ref fV))
    (kV : PySem.W.keepIn K (.ref fV) = true) (bV : Binds K dV ["_law_bag_here", "_law_deep", "_law_room"] []) : FnOk P w K mg base CX0 8 f fd ["_law_bag_here"] (spGreat K) := by
  refine F.ok scGreat (fun vs H Q E h => ?_) (fun cdv A outer s H vs Q E hr h => ?_)
  · obtain ⟨p, rfl, _⟩ := h
    rfl
  · obtain ⟨p, rfl, bag, q⟩ := h
    have hr1 : Room 1 _ := hr.mono (by decide)
    have hr2 : Room 2 _ := hr.mono (by decide)
    refine ⟨_, pss_cons (ps_set (i := 1) scGreat.nd rfl (.inl rfl) (pe_call C.GT hr1 (by rfl) C.gT C.kT C.bT .nil pass0 (pa_cons (pv 0) (pa_cons pe_int pa_nil))))
      (pss_cons (ps_if (pt_cmpR op_gt (pv 1) pe_int (nomark _)) (pss_one (ps_ret (pe_call GV hr (by rfl) gV kV bV .nil pass0 (pa_cons (pv 0) (pa_cons pe_int (pa_cons pe_int pa_nil)))))) pss_nil)
      (pss_cons (ps_if (pt_cmpR op_eq (pv 1) pe_int (nomark _))
        (pss_cons (ps_set (i := 2) scGreat.nd rfl (.inl rfl) (pe_op op_add_str pe_str (pe_call C.GX hr2 (by rfl) C.gX C.kX C.bX .nil pass0 (pa_cons (pv 0) (pa_cons pe_int pa_nil)))))
        (pss_one (ps_ret (pe_slice sl_str (pe_op op_mulS (pv 2) pe_int) po_none (po_some (pe_call C.GT hr1 (by rfl) C.gT C.kT C.bT .nil pass0 (pa_cons (pv 0) (pa_cons pe_int pa_nil)))))))) pss_nil)
      (pss_cons (ps_if (pt_cmpR op_eq (pv 1) pe_int (nomark _))
        (pss_cons (ps_setLc (i := 4) (own := [("_law_turn", 3)]) (g := gName 3) (tt := tYes) (te := tCall (spValue K 4) [] E0 (tCons (tVar 0) (tCons (tC (.int 1)) (tCons (tC (.int 2)) tNil)))) rfl scGreat.nd rfl rfl (sw_true rfl rfl rfl (by decide +kernel))
            (pi_range1 (by rfl) Y.range (pa_cons (pe_op op_add pe_int (pe_call C.GT hr1 (by rfl) C.gT C.kT C.bT .nil pass0 (pa_cons (pv 0) (pa_cons pe_int pa_nil)))) pa_nil))
            (blkOk_by (N := ["_law_bag_here", "_law_pick", "_law_word", "_law_turn", "_law_small", "_law_made", "_law_k"]) (sc := defScope sGreat) (by decide +kernel)) (fun _ _ _ _ _ => pg_name (i := 3) scGreat.nd rfl (Or.inl rfl)) (fun _ _ _ _ _ => pts_nil)
            (fun _ _ _ _ _ => pe_call GV hr (by rfl) gV kV bV .nil pass0 (pa_cons (pv 0) (pa_cons pe_int (pa_cons pe_int pa_nil)))))
        (pss_one (ps_ret (pe_slice sl_list (pe_op op_rep (pv 4) pe_int) po_none (po_some (pe_call C.GT hr1 (by rfl) C.gT C.kT C.bT .nil pass0 (pa_cons (pv 0) (pa_cons pe_int pa_nil)))))))) pss_nil)
      (pss_cons (ps_set (i := 5) scGreat.nd rfl (.inl rfl) (pe_call GV hr (by rfl) gV kV bV .nil pass0 (pa_cons (pv 0) (pa_cons pe_int (pa_cons pe_int pa_nil)))))
      (pss_cons (ps_for PassesOwn.never rfl (pi_range1 (by rfl) Y.range (pa_cons (pe_call C.GT hr1 (by rfl) C.gT C.kT C.bT .nil pass0 (pa_cons (pv 0) (pa_cons pe_int pa_nil))) pa_nil)) (pg_name (i := 3) scGreat.nd rfl (.inl rfl))
        (pss_cons (ps_setLc (i := 4) (own := [("_law_k", 6)]) (g := gName 6) (tt := tYes) (te := tCall (spValue K 4) [] E0 (tCons (tVar 0) (tCons (tC (.int 1)) (tCons (tC (.int 3)) tNil)))) rfl scGreat.nd rfl rfl (sw_true rfl rfl rfl (by decide +kernel))
            (pi_range1 (by rfl) Y.range (pa_cons (pe_call C.GT hr1 (by rfl) C.gT C.kT C.bT .nil pass0 (pa_cons (pv 0) (pa_cons pe_int pa_nil))) pa_nil))
            (blkOk_by (N := ["_law_bag_here", "_law_pick", "_law_word", "_law_turn", "_law_small", "_law_made", "_law_k"]) (sc := defScope sGreat) (by decide +kernel)) (fun _ _ _ _ _ => pg_name (i := 6) scGreat.nd rfl (Or.inl rfl)) (fun _ _ _ _ _ => pts_nil)
            (fun _ _ _ _ _ => pe_call GV hr (by rfl) gV kV bV .nil pass0 (pa_cons (pv 0) (pa_cons pe_int (pa_cons pe_int pa_nil)))))
        (pss_one (ps_set (i := 5) scGreat.nd rfl (.inl rfl) (pe_ifExp (pt_cmpR op_eq (pe_call C.GT hr1 (by rfl) C.gT C.kT C.bT .nil pass0 (pa_cons (pv 0) (pa_cons pe_int pa_nil))) pe_int (nomark _)) (pe_op op_cat (pv 4) (pe_lst (pa_cons (pv 5) pa_nil))) (pe_op op_cat (pe_lst (pa_cons (pv 5) pa_nil)) (pv 4)))))))
      (pss_one (ps_ret (pv 5)))))))), ?_⟩
    refine ⟨_, rfl, p, 6, rfl, bag, by decide, by decide, fun x1 y1 k hk0 hk1 => ?_⟩
    have pH := bag_in bag
    have kp : ∀ b o, b ≠ p → H b = some o → upd H p (.lst [.int x1, .int y1]) b = some o := fun b o hb e => by
      rw [upd_ne hb]
      exact e
    have bag1 : BagAt (upd H p (.lst [.int x1, .int y1])) p := ⟨_, _, upd_same⟩
    generalize upd H p (.lst [.int x1, .int y1]) = G1 at kp bag1
    -- a value
    refine ⟨_, rfl, _, _, rfl, rfl, _, rfl, ?_⟩
    by_cases e3 : (2 : Int) < k
    · refine ltT e3 ?_
      exact ⟨_, rfl, p, 4, 60, rfl, bag1, by decide, by decide, by decide, fun H' v d k2 b2 hv vd dd ds => q H' v d (fun b o hb e => k2 b o hb (kp b o hb e)) b2 (dp_same (newp_sub (there kp bag1)) _ _ hv) vd (by omega) (by omega)⟩
    refine ltF e3 ?_
    -- a long text
    refine ⟨_, rfl, rfl, _, rfl, ?_⟩
    by_cases e2 : k = 2
    · refine eqT e2 ?_
      refine ⟨_, rfl, p, 5, rfl, bag1, by decide, by decide, fun H' z k2 b2 lz hz => ⟨_, _, rfl, rfl, qfit hz, ?_⟩⟩
      have lq : Lt "q" := by unfold Lt; decide +kernel
      have eq1 : (("q" : Str)).length = 1 := by decide +kernel
      have lw : Lt ("q" ++ z) := lt_append lq lz
      have ll : (("q" : Str) ++ z).length ≤ 6 := by
        rw [strLen_append]
        omega
      obtain ⟨lm, le⟩ := mul_lt (n := 399) lw
      refine ⟨_, rfl, _, 399, rfl, rfl, by decide, by omega, ?_⟩
      refine ⟨_, rfl, p, 400, rfl, b2, by decide, by decide, fun x2 y2 c hc0 hc1 => ?_⟩
      obtain ⟨j, rfl⟩ : ∃ j : Nat, c = j := ⟨c.toNat, by omega⟩
      have lj : (cutS (Txt.mul ("q" ++ z) ((399 : Nat) : Int)) none (some (j : Int))).length ≤ j := len_cut
      refine ⟨_, rfl, _, rfl, Nat.le_trans (Nat.le_trans le (show 399 * (("q" : Str) ++ z).length + (("q" : Str) ++ z).length ≤ 10000 by omega)) (by decide), ?_⟩
      refine q _ _ (.str _) (fun b o hb e => ?_) ⟨_, _, upd_same⟩ (.str _) (lt_cut lm) (by simp [PyData.depth]) ?_
      · rw [upd_ne hb]
        exact k2 b o hb (kp b o hb e)
      · simp only [sz]
        omega
    refine eqF e2 ?_
    -- a wide list
    refine ⟨_, rfl, rfl, _, rfl, ?_⟩
    by_cases e1 : k = 1
    · refine eqT e1 ?_
      refine ⟨_, rfl, p, 3, rfl, bag1, by decide, by decide, fun x2 y2 c hc0 hc1 => ⟨_, _, rfl, rfl, ?_⟩⟩
      have kp2 : ∀ b o, b ≠ p → H b = some o → upd G1 p (.lst [.int x2, .int y2]) b = some o := fun b o hb e => by
        rw [upd_ne hb]
        exact kp b o hb e
      have bag2 : BagAt (upd G1 p (.lst [.int x2, .int y2])) p := ⟨_, _, upd_same⟩
      generalize upd G1 p (.lst [.int x2, .int y2]) = G2 at kp2 bag2
      refine ⟨1 + c, rfl, by omega, by omega, fun D nD => lc_range (lo := 0) (n := (1 + c).toNat) (fun i H' => ∃ ws ds, H' D = some (.lst ws) ∧ ws.length = i ∧ DpAll K (newB H D H') ws ds ∧ valAll ds ∧ PyData.depthAll ds ≤ 1 ∧ EachLe 2 ds ∧ (∀ b o, b ≠ p → H b = some o → H' b = some o) ∧ BagAt H' p) ?_ ?_ ?_⟩
      · exact ⟨[], [], upd_same, rfl, .nil, trivial, by simp [PyData.depthAll], each_nil, fun b o hb e => same_upd nD _ _ (kp2 b o hb e), bag_same bag2 (same_upd nD)⟩
      · rintro i H' hi ⟨ws, ds, hD, wl, hws, hvs, hdp, hea, kk, bb⟩
        have nDH : H D = none := Classical.byContradiction fun z => there kp2 bag2 D z nD
        refine ⟨rfl, _, rfl, p, 1, 2, rfl, bb, by decide, by decide, by decide, fun H3 v d k3 b3 hv vd dd ds3 => ?_⟩
        obtain ⟨g1, g2, g3, g4⟩ := grow pH nDH kk bb hD hws k3 b3 hv
        refine ⟨ws, g3, Nat.lt_of_le_of_lt (show ws.length ≤ 100 by omega) (by decide), ws ++ [v], ds ++ [d], upd_same, by simp [wl], g4, (valAll_append _ _).mpr ⟨hvs, vd, trivial⟩, ?_, ?_, g1, g2⟩
        · rw [depthAll_append]
          simp only [PyData.depthAll]
          omega
        · intro x hx
          rcases List.mem_append.mp hx with h | h
          · exact hea x h
          · have e : x = d := by simpa using h
            rw [e]
            exact ds3
      · rintro H' ⟨ws, ds, hD, wl, hws, hvs, hdp, hea, kk, bb⟩
        have nDH : H D = none := Classical.byContradiction fun z => there kp2 bag2 D z nD
        have dl := DpAll.length hws
        refine ⟨_, rfl, D, 199, ws, rfl, rfl, hD, by decide, by decide, Nat.le_trans (show ws.length * 199 ≤ 1000 by omega) (by decide), fun r nr => ?_⟩
        have b4 : BagAt (upd H' r (.lst (List.replicate (199 : Int).toNat ws).flatten)) p := bag_same bb (same_upd nr)
        refine ⟨_, rfl, p, 200, rfl, b4, by decide, by decide, fun x3 y3 c2 hc2 hc3 => ?_⟩
        obtain ⟨j, rfl⟩ : ∃ j : Nat, c2 = j := ⟨c2.toNat, by omega⟩
        have rp : r ≠ p := fun e => by
          obtain ⟨x, y, e4⟩ := bb
          rw [e, e4] at nr
          cases nr
        refine ⟨_, rfl, r, _, rfl, SqL.of (by rw [upd_ne rp, upd_same]), fun s2 ns2 => ?_⟩
        have cv : cutV (List.replicate (199 : Int).toNat ws).flatten none (some (j : Int)) = ((List.replicate 199 ws).flatten).take j := by
          unfold cutV
          rw [HT.sIx_none, HT.sIx_nat, List.drop_zero, Nat.sub_zero]
          show List.take (min j (List.replicate 199 ws).flatten.length) (List.replicate 199 ws).flatten = _
          rw [← List.take_eq_take_min]
        rw [cv]
        have s2p : s2 ≠ p := fun e => by
          rw [e, upd_same] at ns2
          cases ns2
        have nH : H s2 = none := Classical.byContradiction fun z => by
          have h1 := there kk bb s2 z
          rw [upd_ne s2p] at ns2
          by_cases sr : s2 = r
          · rw [sr, upd_same] at ns2
            cases ns2
          · rw [upd_ne sr] at ns2
            exact h1 ns2
        have up : Same (newB H D H') (newp H (upd (upd (upd H' r (.lst (List.replicate (199 : Int).toNat ws).flatten)) p (.lst [.int x3, .int y3])) s2 (.lst (((List.replicate 199 ws).flatten).take j)))) := fun b o e => by
          have e5 := newB_newp b o e
          cases hh : H b with
          | some u =>
            rw [newp_old hh] at e5
            cases e5
          | none =>
            rw [newp_at hh] at e5 ⊢
            have bp : b ≠ p := fun z => pH (z ▸ hh)
            have br : b ≠ r := ne_of_none e5 nr
            have bs : b ≠ s2 := fun z => by
              rw [← z, upd_ne bp, upd_ne br, e5] at ns2
              cases ns2
            rw [upd_ne bs, upd_ne bp, upd_ne br]
            exact e5
        refine q _ (.ref s2) (.list (((List.replicate 199 ds).flatten).take j)) (fun b o hb e => ?_) ?_ (.lst (SqL.of ?_) (dpAll_same up _ _ (DpAll.take j (DpAll.rep hws 199)))) (val_take j (val_rep hvs 199)) ?_ ?_
        · have e6 := kk b o hb e
          rw [upd_ne (ne_of_none e nH), upd_ne hb, upd_ne (ne_of_none e6 nr)]
          exact e6
        · exact ⟨x3, y3, by rw [upd_ne s2p.symm, upd_same]⟩
        · rw [newp_at nH, upd_same]
        · have h1 := depth_take (ds := (List.replicate 199 ds).flatten) j
          have h2 := depth_rep (ds := ds) 199
          simp only [PyData.depth]
          omega
        · have h1 : EachLe 2 (((List.replicate 199 ds).flatten).take j) := fun x hx => by
            obtain ⟨l, hl, hx2⟩ := List.mem_flatten.mp (List.mem_of_mem_take hx)
            have e := (List.mem_replicate.mp hl).2
            rw [e] at hx2
            exact hea x hx2
          have h2 := each_sum h1
          have h3 : (((List.replicate 199 ds).flatten).take j).length ≤ j := by
            rw [List.length_take]
            omega
          simp only [sz]
          omega
    refine eqF e1 ?_
    -- a deep one
    refine ⟨_, rfl, p, 3, 20, rfl, bag1, by decide, by decide, by decide, fun G2 made d0 k2 b2 hv0 vd0 dd0 sz0 => ?_⟩
    have kp2 : ∀ b o, b ≠ p → H b = some o → G2 b = some o := fun b o hb e => k2 b o hb (kp b o hb e)
    have hv0' : Dp K (newp H G2) made d0 := dp_same (newp_sub (there kp bag1)) _ _ hv0
    refine ⟨_, rfl, p, 10, rfl, b2, by decide, by decide, fun x2 y2 c hc0 hc1 => ?_⟩
    refine ⟨c, rfl, by omega, by omega, for_range (lo := 0) (n := c.toNat) (fun i σ H2 => ∃ (v : V) (d : PyData) (y3 y4 : Option V), σ = [some (.ref p), some (.int k), none, y3, y4, some v, none] ∧ (∀ b o, b ≠ p → H b = some o → H2 b = some o) ∧ BagAt H2 p ∧
      Dp K (newp H H2) v d ∧ valD d ∧ d.depth ≤ 3 + i ∧ sz d ≤ 20 + 10 * i) ?_ ?_ ?_⟩
    · refine ⟨made, d0, none, none, rfl, fun b o hb e => ?_, ⟨_, _, upd_same⟩, dp_same (newp_mono pH fun b o hb e => ?_) _ _ hv0', vd0, by omega, by omega⟩
      · rw [upd_ne hb]
        exact kp2 b o hb e
      · rw [upd_ne hb]
        exact e
    · rintro i σ H2 hi ⟨v, d, y3, y4, rfl, kk, bb, hv, vd, dd, sd⟩
      -- small
      refine ⟨_, rfl, p, 2, rfl, bb, by decide, by decide, fun x3 y3 c2 hc2 hc3 => ?_⟩
      have kk2 : ∀ b o, b ≠ p → H b = some o → upd H2 p (.lst [.int x3, .int y3]) b = some o := fun b o hb e => by
        rw [upd_ne hb]
        exact kk b o hb e
      have bb2 : BagAt (upd H2 p (.lst [.int x3, .int y3])) p := ⟨_, _, upd_same⟩
      have hv2 : Dp K (newp H (upd H2 p (.lst [.int x3, .int y3]))) v d := dp_same (newp_mono pH fun b o hb e => by rw [upd_ne hb]; exact e) _ _ hv
      generalize upd H2 p (.lst [.int x3, .int y3]) = H3 at kk2 bb2 hv2
      refine ⟨c2, rfl, by omega, by omega, fun D nD => lc_range (lo := 0) (n := c2.toNat) (fun j H' => ∃ ws ds, H' D = some (.lst ws) ∧ ws.length = j ∧ DpAll K (newB H D H') ws ds ∧ valAll ds ∧ PyData.depthAll ds ≤ 1 ∧ EachLe 3 ds ∧ (∀ b o, b ≠ p → H b = some o → H' b = some o) ∧ BagAt H' p ∧ Dp K (newB H D H') v d) ?_ ?_ ?_⟩
      · have nDH : H D = none := Classical.byContradiction fun z => there kk2 bb2 D z nD
        refine ⟨[], [], upd_same, rfl, .nil, trivial, by simp [PyData.depthAll], each_nil, fun b o hb e => same_upd nD _ _ (kk2 b o hb e), bag_same bb2 (same_upd nD), dp_same (fun b o e => ?_) _ _ hv2⟩
        cases hh : H b with
        | some u =>
          rw [newp_old hh] at e
          cases e
        | none =>
          rw [newp_at hh] at e
          have bD : b ≠ D := ne_of_none e nD
          rw [newB_at hh bD, upd_ne bD]
          exact e
      · rintro j H' hj ⟨ws, ds, hD, wl, hws, hvs, hdp, hea, k4, b4, hvB⟩
        have nDH : H D = none := Classical.byContradiction fun z => there kk2 bb2 D z nD
        refine ⟨rfl, _, rfl, p, 1, 3, rfl, b4, by decide, by decide, by decide, fun H5 u e k5 b5 hu vu du su => ?_⟩
        obtain ⟨g1, g2, g3, g4⟩ := grow pH nDH k4 b4 hD hws k5 b5 hu
        refine ⟨ws, g3, Nat.lt_of_le_of_lt (show ws.length ≤ 100 by omega) (by decide), ws ++ [u], ds ++ [e], upd_same, by simp [wl], g4, (valAll_append _ _).mpr ⟨hvs, vu, trivial⟩, ?_, ?_, g1, g2, dp_same (fun b o eb => ?_) _ _ hvB⟩
        · rw [depthAll_append]
          simp only [PyData.depthAll]
          omega
        · intro x hx
          rcases List.mem_append.mp hx with h | h
          · exact hea x h
          · have e : x = e := by simpa using h
            rw [e]
            exact su
        · by_cases bD : b = D
          · unfold newB at eb
            rw [if_pos bD] at eb
            cases eb
          · cases hh : H b with
            | some u =>
              unfold newB at eb
              rw [if_neg bD, hh] at eb
              cases eb
            | none =>
              have bp : b ≠ p := fun z => pH (z ▸ hh)
              rw [newB_at hh bD] at eb ⊢
              rw [upd_ne bD]
              exact k5 b o bp eb
      · rintro H' ⟨ws, ds, hD, wl, hws, hvs, hdp, hea, k4, b4, hvB⟩
        have nDH : H D = none := Classical.byContradiction fun z => there kk2 bb2 D z nD
        have dl := DpAll.length hws
        have es := each_sum hea
        have wl1 : ws.length ≤ 1 := by omega
        -- made = ..
        refine ⟨_, rfl, p, 2, rfl, b4, by decide, by decide, fun x4 y4 c4 hc4 hc5 => ?_⟩
        have Dp_ : D ≠ p := fun e => pH (e ▸ nDH)
        have k6 : ∀ b o, b ≠ p → H b = some o → upd H' p (.lst [.int x4, .int y4]) b = some o := fun b o hb e => by
          rw [upd_ne hb]
          exact k4 b o hb e
        have b6 : BagAt (upd H' p (.lst [.int x4, .int y4])) p := ⟨_, _, upd_same⟩
        have hD6 : (upd H' p (.lst [.int x4, .int y4])) D = some (.lst ws) := by
          rw [upd_ne Dp_]
          exact hD
        have to6 : Same (newB H D H') (newp H (upd H' p (.lst [.int x4, .int y4]))) := fun b o e => newp_mono (H2 := H') pH (fun b o hb e => by rw [upd_ne hb]; exact e) b o (newB_newp b o e)
        generalize upd H' p (.lst [.int x4, .int y4]) = H6 at k6 b6 hD6 to6
        have hv6 := dp_same to6 _ _ hvB
        have hw6 := dpAll_same to6 _ _ hws
        have in6 : Same (newp H H6) H6 := newp_same
        -- one list more, and the two together
        have fin : ∀ (l r : Addr) (us : List V) (es2 : List PyData), H6 l = none → (upd H6 l (.lst [v])) r = none → DpAll K (newp H H6) us es2 → valAll es2 → PyData.depthAll es2 ≤ 3 + i → szAll es2 ≤ 20 + 10 * i + 3 →
            ∃ (v' : V) (d' : PyData) (y3 y4 : Option V), [some (V.ref p), some (V.int k), none, some (V.int (0 + (i : Int))), some (V.ref D), some (V.ref r), none] = [some (V.ref p), some (V.int k), none, y3, y4, some v', none] ∧ (∀ b o, b ≠ p → H b = some o → (upd (upd H6 l (.lst [v])) r (.lst us)) b = some o) ∧ BagAt (upd (upd H6 l (.lst [v])) r (.lst us)) p ∧
              Dp K (newp H (upd (upd H6 l (.lst [v])) r (.lst us))) v' d' ∧ valD d' ∧ d'.depth ≤ 3 + (i + 1) ∧ sz d' ≤ 20 + 10 * (i + 1) := by
          intro l r us es2 nl nr hus hvs2 hdp2 hsz2
          have s8 : Same H6 (upd (upd H6 l (.lst [v])) r (.lst us)) := (same_upd nl).trans (same_upd nr)
          have nrH : H r = none := Classical.byContradiction fun z => by
            have h1 := there k6 b6 r z
            by_cases rl : r = l
            · rw [rl, upd_same] at nr
              cases nr
            · rw [upd_ne rl] at nr
              exact h1 nr
          refine ⟨.ref r, .list es2, _, _, rfl, fun b o hb e => s8 _ _ (k6 b o hb e), bag_same b6 s8, .lst (SqL.of ?_) (dpAll_same (newp_mono pH fun b o _ e => s8 b o e) _ _ hus), hvs2, ?_, ?_⟩
          · rw [newp_at nrH, upd_same]
          · simp only [PyData.depth]
            omega
          · simp only [sz]
            omega
        refine ⟨rfl, _, rfl, ?_⟩
        have sB : szAll (ds ++ [d]) ≤ 20 + 10 * i + 3 ∧ szAll ([d] ++ ds) ≤ 20 + 10 * i + 3 := by
          rw [szAll_append, szAll_append]
          simp only [szAll]
          omega
        have dB : PyData.depthAll (ds ++ [d]) ≤ 3 + i ∧ PyData.depthAll ([d] ++ ds) ≤ 3 + i := by
          rw [depthAll_append, depthAll_append]
          simp only [PyData.depthAll]
          omega
        by_cases e4 : c4 = 0
        · refine eqT e4 ?_
          refine ⟨_, rfl, _, rfl, (by show 1 ≤ sizeLine; decide), fun l nl => ⟨D, l, ws, [v], rfl, rfl, same_upd nl _ _ hD6, upd_same, Nat.le_trans (show ws.length + 1 ≤ 2 by omega) (by decide), fun r nr => ?_⟩⟩
          exact fin l r (ws ++ [v]) (ds ++ [d]) nl nr (DpAll.append hw6 (.cons hv6 .nil)) ((valAll_append _ _).mpr ⟨hvs, vd, trivial⟩) dB.1 sB.1
        · refine eqF e4 ?_
          refine ⟨_, rfl, (by show 1 ≤ sizeLine; decide), fun l nl => ⟨_, rfl, l, D, [v], ws, rfl, rfl, upd_same, same_upd nl _ _ hD6, Nat.le_trans (show 1 + ws.length ≤ 2 by omega) (by decide), fun r nr => ?_⟩⟩
          exact fin l r ([v] ++ ws) ([d] ++ ds) nl nr (DpAll.append (.cons hv6 .nil) hw6) ((valAll_append _ _).mpr ⟨⟨vd, trivial⟩, hvs⟩) dB.2 sB.2
    · rintro σ H2 ⟨v, d, y3, y4, rfl, kk, bb, hv, vd, dd, sd⟩
      exact ⟨_, rfl, q H2 v d kk bb hv vd (by omega) (by omega)⟩
end
end TX
namespace TX
open PySem PySem.Spec PyProof.Rows L2
/-! ### data whose lists stand each at a place of its own: S, all of them -/
mutual
inductive Tr (H : Hp) : V → PyData → List Addr → Prop
  | non : Tr H .non .none []
  | bl (b : Bool) : Tr H (.bl b) (.bool b) []
  | int (i : Int) : Tr H (.int i) (.int i) []
  | str (x : Str) : Tr H (.str x) (.str x) []
  | lst {a : Addr} {xs : List V} {es : List PyData} {S : List Addr} : H a = some (.lst xs) → TrAll H xs es S → a ∉ S → Tr H (.ref a) (.list es) (a :: S)
  | tup {a : Addr} {xs : List V} {es : List PyData} {S : List Addr} : H a = some (.tup xs) → TrAll H xs es S → a ∉ S → Tr H (.ref a) (.tuple es) (a :: S)
inductive TrAll (H : Hp) : List V → List PyData → List Addr → Prop
  | nil : TrAll H [] [] []
  | cons {v : V} {d : PyData} {S : List Addr} {vs : List V} {ds : List PyData} {T : List Addr} : Tr H v d S → TrAll H vs ds T → (∀ b ∈ S, b ∉ T) → TrAll H (v :: vs) (d :: ds) (S ++ T)
end
theorem TrAll.length {H : Hp} : ∀ {ds : List PyData} {vs : List V} {S : List Addr}, TrAll H vs ds S → vs.length = ds.length
  | [], _, _, h => by cases h; rfl
  | _ :: _, _, _, h => by
    cases h with
    | cons _ h2 _ => exact congrArg (· + 1) (TrAll.length h2)
mutual
theorem Tr.frame {H H' : Hp} : ∀ {d : PyData} {v : V} {S : List Addr}, Tr H v d S → (∀ b ∈ S, ∀ o, H b = some o → H' b = some o) → Tr H' v d S
  | .none, _, _, h, _ => by cases h; exact .non
  | .bool b, _, _, h, _ => by cases h; exact .bl b
  | .int i, _, _, h, _ => by cases h; exact .int i
  | .str x, _, _, h, _ => by cases h; exact .str x
  | .list es, _, _, h, k => by
    cases h with
    | lst h1 h2 h3 => exact .lst (k _ List.mem_cons_self _ h1) (TrAll.frame h2 fun b hb => k b (List.mem_cons_of_mem _ hb)) h3
  | .tuple es, _, _, h, k => by
    cases h with
    | tup h1 h2 h3 => exact .tup (k _ List.mem_cons_self _ h1) (TrAll.frame h2 fun b hb => k b (List.mem_cons_of_mem _ hb)) h3
  | .dict _, _, _, h, _ => nomatch h
theorem TrAll.frame {H H' : Hp} : ∀ {ds : List PyData} {vs : List V} {S : List Addr}, TrAll H vs ds S → (∀ b ∈ S, ∀ o, H b = some o → H' b = some o) → TrAll H' vs ds S
  | [], _, _, h, _ => by cases h; exact .nil
  | d :: ds, _, _, h, k => by
    cases h with
    | cons h1 h2 h3 => exact .cons (Tr.frame h1 fun b hb => k b (List.mem_append_left _ hb)) (TrAll.frame h2 fun b hb => k b (List.mem_append_right _ hb)) h3
end
mutual
theorem Tr.dp {K : PySem.W.Frag} {H : Hp} : ∀ {d : PyData} {v : V} {S : List Addr}, Tr H v d S → Dp K H v d
  | .none, _, _, h => by cases h; exact .non
  | .bool b, _, _, h => by cases h; exact .bl b
  | .int i, _, _, h => by cases h; exact .int i
  | .str x, _, _, h => by cases h; exact .str x
  | .list es, _, _, h => by
    cases h with
    | lst h1 h2 h3 => exact .lst (SqL.of h1) (TrAll.dp h2)
  | .tuple es, _, _, h => by
    cases h with
    | tup h1 h2 h3 => exact .tup (SqT.of h1) (TrAll.dp h2)
  | .dict _, _, _, h => nomatch h
theorem TrAll.dp {K : PySem.W.Frag} {H : Hp} : ∀ {ds : List PyData} {vs : List V} {S : List Addr}, TrAll H vs ds S → DpAll K H vs ds
  | [], _, _, h => by cases h; exact .nil
  | d :: ds, _, _, h => by
    cases h with
    | cons h1 h2 h3 => exact .cons (Tr.dp h1) (TrAll.dp h2)
end
mutual
theorem Tr.there {H : Hp} : ∀ {d : PyData} {v : V} {S : List Addr}, Tr H v d S → ∀ b ∈ S, H b ≠ none
  | .none, _, _, h => by cases h; exact fun b hb => nomatch hb
  | .bool b, _, _, h => by cases h; exact fun b hb => nomatch hb
  | .int i, _, _, h => by cases h; exact fun b hb => nomatch hb
  | .str x, _, _, h => by cases h; exact fun b hb => nomatch hb
  | .list es, _, _, h => by
    cases h with
    | lst h1 h2 h3 =>
      intro b hb
      rcases List.mem_cons.mp hb with e | e
      · rw [e, h1]
        exact fun z => nomatch z
      · exact TrAll.there h2 b e
  | .tuple es, _, _, h => by
    cases h with
    | tup h1 h2 h3 =>
      intro b hb
      rcases List.mem_cons.mp hb with e | e
      · rw [e, h1]
        exact fun z => nomatch z
      · exact TrAll.there h2 b e
  | .dict _, _, _, h => nomatch h
theorem TrAll.there {H : Hp} : ∀ {ds : List PyData} {vs : List V} {S : List Addr}, TrAll H vs ds S → ∀ b ∈ S, H b ≠ none
  | [], _, _, h => by cases h; exact fun b hb => nomatch hb
  | d :: ds, _, _, h => by
    cases h with
    | cons h1 h2 h3 =>
      intro b hb
      rcases List.mem_append.mp hb with e | e
      · exact Tr.there h1 b e
      · exact TrAll.there h2 b e
end
theorem TrAll.split {H : Hp} : ∀ {ds es : List PyData} {vs : List V} {S : List Addr}, TrAll H vs (ds ++ es) S → ∃ a b A B, vs = a ++ b ∧ S = A ++ B ∧ TrAll H a ds A ∧ TrAll H b es B ∧ ∀ x ∈ A, x ∉ B
  | [], _, vs, S, h => ⟨[], vs, [], S, rfl, rfl, .nil, h, fun _ z => nomatch z⟩
  | d :: ds, es, _, _, h => by
    cases h with
    | @cons v _ S1 _ _ T h1 h2 h3 =>
      obtain ⟨a, b, A, B, rfl, rfl, ha, hb, hd⟩ := TrAll.split (ds := ds) (es := es) h2
      refine ⟨v :: a, b, S1 ++ A, B, rfl, (List.append_assoc ..).symm, .cons h1 ha (fun x hx hA => h3 x hx (List.mem_append_left _ hA)), hb, fun x hx hB => ?_⟩
      rcases List.mem_append.mp hx with e | e
      · exact h3 x e (List.mem_append_right _ hB)
      · exact hd x e hB
theorem tr_leaf {K : PySem.W.Frag} {H H' : Hp} {v : V} {d : PyData} (h : Dp K H v d) (e : (tyD d == "list" || tyD d == "tuple") = false) : Tr H' v d [] := by
  cases h with
  | non => exact .non
  | bl b => exact .bl b
  | int i => exact .int i
  | str x => exact .str x
  | lst _ _ => simp [tyD] at e
  | tup _ _ => simp [tyD] at e
def spCopyT (K : PySem.W.Frag) : Sp := fun vs H Q _ => ∃ (v : V) (d : PyData) (Hv : Hp), vs = [v] ∧ Same Hv H ∧ Dp K Hv v d ∧ nd d ≤ 1000000 ∧
  ∀ (H' : Hp) (v' : V) (S : List Addr), Same H H' → Tr H' v' d S → (∀ b ∈ S, H b = none) → Q v' H'
section
variable {P : Program} {w : World} {K : PySem.W.Frag} {mg : Str → Option Value} {base : Heap}
theorem ok_copyT {f fP : Addr} {fd fdP : FuncData} {k : Nat} (F : Fun K "copy_of" "copy_of" sCopy f fd) (T : Nm mg) (FP : Fun K "all_parts" "all_parts" sParts fP fdP) (bP : Binds K fdP ["thing"] []) (gP : mg "all_parts" = some (.ref fP)) :
    FnOk P w K mg base CX0 (k + 2) f fd ["thing"] (spCopyT K) := by
  have GP : FnOk P w K mg base CX0 (k + 1) fP fdP ["thing"] (spParts K) := ok_parts FP T
  refine F.ok scCopy (fun vs H Q E h => ?_) (fun cdv A outer s H vs Q E hr h => ?_)
  · obtain ⟨v, d, Hv, rfl, _⟩ := h
    rfl
  · obtain ⟨v, d, Hv, rfl, sv, hd, hn, q⟩ := h
    refine ⟨_, pss_cons (ps_if (pt_not (pt_val (pe_callB call_isiT (by rfl) T.isi (by decide +kernel) (pa_cons (pv 0) (pa_cons (pe_tup (pa_cons (pe_bltn (v := .ty "list") (by rfl) T.lst (by decide +kernel) rfl) (pa_cons (pe_bltn (v := .ty "tuple") (by rfl) T.tpl (by decide +kernel) rfl) pa_nil))) pa_nil))))) (pss_one (ps_ret (pv 0))) pss_nil) <| pss_cons (ps_set (i := 1) scCopy.nd rfl (.inr rfl) (pe_lst pa_nil))
      (pss_cons (ps_for PassesOwn.never rfl (pi_list (pe_revL (pe_call GP hr (by rfl) gP FP.kp bP .nil pass0 (pa_cons (pv 0) pa_nil)))) (pg_name (i := 2) scCopy.nd rfl (.inl rfl))
        (pss_cons (ps_set (i := 3) scCopy.nd rfl (.inl rfl) (pv 2))
        (pss_cons (ps_if (pt_val (pe_callB call_isiT (by rfl) T.isi (by decide +kernel) (pa_cons (pv 2) (pa_cons (pe_tup (pa_cons (pe_bltn (v := .ty "list") (by rfl) T.lst (by decide +kernel) rfl) (pa_cons (pe_bltn (v := .ty "tuple") (by rfl) T.tpl (by decide +kernel) rfl) pa_nil))) pa_nil))))
          (pss_one (ps_alt
            (ps_setLc (i := 3) (own := [("_", 4)]) (g := gName 4) (tt := tYes) (te := tBM0 K "list" rPop (tVar 1)) rfl scCopy.nd rfl rfl (sw_true rfl rfl rfl (by decide +kernel)) (pi_list (pv 2)) (blkOk_by (N := ["thing", "done", "part", "made", "_"]) (sc := defScope sCopy) (by decide +kernel))
              (fun _ _ _ _ _ => pg_name (i := 4) scCopy.nd rfl (Or.inl rfl)) (fun _ _ _ _ _ => pts_nil) (fun _ _ _ _ _ => pe_bm0 PySem.F.plainAttrs_list PySem.F.slot_list_pop PySem.F.type_list_pop mt_pop (pv 1)))
            (ps_setLc (i := 3) (own := [("_", 4)]) (g := gName 4) (tt := tYes) (te := tBM0 K "list" rPop (tVar 1)) rfl scCopy.nd rfl rfl (sw_true rfl rfl rfl (by decide +kernel)) (pi_tup (pv 2)) (blkOk_by (N := ["thing", "done", "part", "made", "_"]) (sc := defScope sCopy) (by decide +kernel))
              (fun _ _ _ _ _ => pg_name (i := 4) scCopy.nd rfl (Or.inl rfl)) (fun _ _ _ _ _ => pts_nil) (fun _ _ _ _ _ => pe_bm0 PySem.F.plainAttrs_list PySem.F.slot_list_pop PySem.F.type_list_pop mt_pop (pv 1)))))
          pss_nil)
        (pss_cons (ps_if (pt_val (pe_callB call_isi (by rfl) T.isi (by decide +kernel) (pa_cons (pv 2) (pa_cons (pe_bltn (v := .ty "tuple") (by rfl) T.tpl (by decide +kernel) rfl) pa_nil))))
          (pss_one (ps_set (i := 3) scCopy.nd rfl (.inl rfl) (pe_callTy call_tuple_of (by rfl) T.tpl (by decide +kernel) (pa_cons (pv 3) pa_nil))))
          pss_nil)
        (pss_one (ps_expr (pe_bm PySem.F.plainAttrs_list PySem.F.slot_list_append PySem.F.type_list_append mt_append (pv 1) (pa_cons (pv 3) pa_nil))))))))
      (pss_one (ps_ret (pe_ix ix_list (pv 1) pe_int (fun _ _ => rfl))))), ?_⟩
    refine ⟨_, rfl, by decide, fun tp0 ntp0 => ?_⟩
    refine ⟨v, tp0, _, .type (tyD d), [.type "list", .type "tuple"], _, rfl, upd_same, .cons (.ty _) (.cons (.ty _) .nil), dp_ty (dp_same (sv.trans (same_upd ntp0)) _ _ hd), isLT d K, _, rfl, ?_⟩
    have q2 : ∀ (H' : Hp) (v' : V) (S : List Addr), Same (upd H tp0 (.tup [.ty "list", .ty "tuple"])) H' → Tr H' v' d S → (∀ b ∈ S, (upd H tp0 (.tup [.ty "list", .ty "tuple"])) b = none) → Q v' H' := fun H' v' S e1 e2 e3 => q H' v' S ((same_upd ntp0).trans e1) e2 (fun b hb => (same_upd ntp0).free (e3 b hb))
    have sv2 : Same Hv (upd H tp0 (.tup [.ty "list", .ty "tuple"])) := sv.trans (same_upd ntp0)
    cases hlt : (tyD d == "list" || tyD d == "tuple") with
    | false =>
      exact iteT ⟨_, rfl, q2 _ _ [] (fun _ _ e => e) (tr_leaf hd hlt) (fun _ z => nomatch z)⟩
    | true =>
    refine iteF ?_
    generalize upd H tp0 (.tup [.ty "list", .ty "tuple"]) = H at sv2 q2
    clear q sv ntp0 tp0
    have sv := sv2
    have q := q2
    refine ⟨by decide, fun da nda => ?_⟩
    -- all_parts(thing)[::-1]
    refine ⟨_, rfl, v, d, Hv, rfl, sv.trans (same_upd nda), hd, hn, fun H1 p rs sm1 np hp hP hlen => ?_⟩
    have hda1 : H1 da = some (.lst []) := sm1 _ _ upd_same
    refine ⟨p, _, rfl, SqL.of hp, fun r nr => ?_⟩
    rw [List.reverse_reverse]
    have rda : da ≠ r := ne_of_none hda1 nr
    have s0 : Same H (upd H1 r (.lst rs)) := ((same_upd nda).trans sm1).trans (same_upd nr)
    have hr0 : H r = none := ((same_upd nda).trans sm1).free nr
    have nda0 : H da = none := nda
    refine ⟨r, rfl, ⟨_, SqL.of upd_same⟩, for_list (K := K) (a := r) (xs := rs) (fun i σ H2 => ∃ (S : List V × List PyData) (cs : List V) (y2 y3 : Option V), σ = [some v, some (.ref da), y2, y3, none] ∧ Same H H2 ∧ H2 r = some (.lst rs) ∧
      Path K Hv ([v], [d]) (rs.drop i) S ∧ H2 da = some (.lst cs.reverse) ∧ ∃ A, TrAll H2 cs S.2 A ∧ ∀ b ∈ A, H b = none ∧ b ≠ da) ?_ ?_ ?_ ?_⟩
    · exact ⟨([], []), [], none, none, rfl, s0, upd_same, hP, by rw [upd_ne rda]; exact hda1, [], .nil, fun b hb => nomatch hb⟩
    · rintro i σ H2 hi ⟨S, cs, y2, y3, rfl, _, g, _⟩
      exact SqL.of g
    · rintro i x σ H2 hx ⟨S, cs, y2, y3, rfl, sm, hrs, hPi, hda, Ar, hcs, hAr⟩
      have edrop : rs.drop i = x :: rs.drop (i + 1) := by
        obtain ⟨hj, e⟩ := List.getElem?_eq_some_iff.mp hx
        rw [List.drop_eq_getElem_cons hj, e]
      rw [edrop] at hPi
      cases hPi with
      | @cons _ S1 _ _ hP1 hst =>
      have cnt := path_count (.cons hP1 hst)
      have cnt0 : ndAll ([d] : List PyData) = nd d := by simp [ndAll]
      have lcs : cs.length ≤ 1000000 := by
        have e1 := TrAll.length hcs
        have e2 := ndAll_len S.2
        have e3 : ndAll (([v], [d]) : List V × List PyData).2 = nd d := cnt0
        omega
      -- the part's data
      obtain ⟨dx, hdx⟩ : ∃ dx, Dp K Hv x dx ∧ ((∃ r1 rd1, S1 = (x :: r1, dx :: rd1) ∧ S = (r1, rd1) ∧ (tyD dx == "list" || tyD dx == "tuple") = false) ∨
          (∃ a xs es r1 rd1, x = .ref a ∧ dx = .list es ∧ SqL K Hv a xs ∧ DpAll K Hv xs es ∧ S1 = (x :: r1, .list es :: rd1) ∧ S = (xs ++ r1, es ++ rd1)) ∨
          (∃ a xs es r1 rd1, x = .ref a ∧ dx = .tuple es ∧ SqT K Hv a xs ∧ DpAll K Hv xs es ∧ S1 = (x :: r1, .tuple es :: rd1) ∧ S = (xs ++ r1, es ++ rd1))) := by
        cases hst with
        | leaf h e => exact ⟨_, h, .inl ⟨_, _, rfl, rfl, e⟩⟩
        | lst h g => exact ⟨_, .lst h g, .inr (.inl ⟨_, _, _, _, _, rfl, rfl, h, g, rfl, rfl⟩)⟩
        | tup h g => exact ⟨_, .tup h g, .inr (.inr ⟨_, _, _, _, _, rfl, rfl, h, g, rfl, rfl⟩)⟩
      obtain ⟨hx1, hcase⟩ := hdx
      -- made = part; isinstance(part, (list, tuple))
      refine ⟨_, rfl, _, rfl, by decide, fun tp ntp => ?_⟩
      have sm3 : Same H (upd H2 tp (.tup [.ty "list", .ty "tuple"])) := sm.trans (same_upd ntp)
      have hda3 : (upd H2 tp (.tup [.ty "list", .ty "tuple"])) da = some (.lst cs.reverse) := same_upd ntp _ _ hda
      have hrs3 : (upd H2 tp (.tup [.ty "list", .ty "tuple"])) r = some (.lst rs) := same_upd ntp _ _ hrs
      have hcs3 : TrAll (upd H2 tp (.tup [.ty "list", .ty "tuple"])) cs S.2 Ar := TrAll.frame hcs fun b _ o e => same_upd ntp b o e
      refine ⟨x, tp, _, .type (tyD dx), [.type "list", .type "tuple"], _, rfl, upd_same, .cons (.ty _) (.cons (.ty _) .nil), dp_ty (dp_same (sv.trans sm3) _ _ hx1), isLT dx K, _, rfl, ?_⟩
      generalize upd H2 tp (.tup [.ty "list", .ty "tuple"]) = G at sm3 hda3 hrs3 hcs3
      rcases hcase with ⟨r1, rd1, rfl, rfl, e⟩ | ⟨a, xs, es, r1, rd1, rfl, rfl, g1, g2, rfl, rfl⟩ | ⟨a, xs, es, r1, rd1, rfl, rfl, g1, g2, rfl, rfl⟩
      · rw [e]
        refine iteF ?_
        have e2 : (tyD dx == "tuple") = false := (Bool.or_eq_false_iff.mp e).2
        refine ⟨_, rfl, x, .ty "tuple", .type (tyD dx), .type "tuple", _, rfl, .ty _, dp_ty (dp_leaf hx1 e), kit1 dx K, _, rfl, ?_⟩
        rw [e2]
        refine iteF ?_
        refine ⟨_, rfl, .inl ⟨rfl, _, SqL.of hda3⟩, _, rfl, da, _, _, rfl, rfl, hda3, Nat.lt_of_le_of_lt (by simpa using lcs) (by decide), ?_⟩
        refine ⟨_, x :: cs, _, _, rfl, same_fresh nda0 sm3, by rw [upd_ne rda.symm]; exact hrs3, hP1, ?_, ?_⟩
        · rw [upd_same]
          simp
        · exact ⟨[] ++ Ar, .cons (tr_leaf hx1 e) (TrAll.frame hcs3 fun b hb o e => by rw [upd_ne (hAr b hb).2]; exact e) (fun b hb => nomatch hb), hAr⟩
      · obtain ⟨c1, c2, A1, A2, rfl, rfl, hc1, hc2, dis⟩ := TrAll.split hcs3
        have hxl : xs.length = c1.length := (DpAll.length g2).trans (TrAll.length hc1).symm
        refine iteT (.inl ?_)
        refine ⟨_, rfl, a, rfl, ⟨_, (sv.trans sm3).seq g1⟩, fun D nD => lc_list (K := K) (a := a) (xs := xs) (fun j H4 => H4 da = some (.lst (c2.reverse ++ (c1.drop j).reverse)) ∧ H4 D = some (.lst (c1.take j)) ∧ ∀ b o, b ≠ da → b ≠ D → G b = some o → H4 b = some o) ?_ ?_ ?_ ?_⟩
        · have ne : da ≠ D := ne_of_none hda3 nD
          refine ⟨?_, upd_same, fun b o _ hb e => by rw [upd_ne hb]; exact e⟩
          rw [upd_ne ne, hda3]
          simp
        · rintro j H4 hj ⟨_, _, kp⟩
          have nDH : H D = none := sm3.free nD
          exact Same.seq (fun b o e => kp b o (ne_of_none e nda0) (ne_of_none e nDH) (sm3 b o e)) (sv.seq g1)
        · rintro j y H4 hy ⟨k1, k2, kp⟩
          have ne : da ≠ D := ne_of_none hda3 nD
          have hjl : j < c1.length := by
            have := (List.getElem?_eq_some_iff.mp hy).1
            omega
          have hcj : c1[j]? = some c1[j] := List.getElem?_eq_getElem hjl
          rw [rev_drop hcj, ← List.append_assoc] at k1
          refine ⟨rfl, .ref da, rfl, .inl ⟨rfl, _, SqL.of k1⟩, da, _, c1[j], rfl, rfl, k1, by simp, ?_⟩
          rw [List.dropLast_concat]
          refine ⟨c1.take j, by rw [upd_ne ne.symm]; exact k2, ?_, ?_, ?_, fun b o h1 h2 e => ?_⟩
          · refine Nat.lt_of_le_of_lt (show (c1.take j).length ≤ 1000000 from ?_) (by decide)
            rw [List.length_append] at lcs
            have := List.length_take_le j c1
            omega
          · rw [upd_ne ne, upd_same]
          · rw [upd_same, List.take_add_one, hcj]
            rfl
          · rw [upd_ne h2, upd_ne h1]
            exact kp b o h1 h2 e
        · rintro H4 ⟨k1, k2, kp⟩
          have ne : da ≠ D := ne_of_none hda3 nD
          have nDH : H D = none := sm3.free nD
          have sm4 : Same H H4 := fun b o e => kp b o (ne_of_none e nda0) (ne_of_none e nDH) (sm3 b o e)
          have rD : r ≠ D := ne_of_none hrs3 nD
          have hr4 : H4 r = some (.lst rs) := kp r _ rda.symm rD hrs3
          rw [hxl] at k1 k2
          rw [List.drop_length, List.reverse_nil, List.append_nil] at k1
          rw [List.take_length] at k2
          have at4 : ∀ b ∈ A1 ++ A2, ∀ o, G b = some o → H4 b = some o := fun b hb o e => kp b o (hAr b hb).2 (ne_of_none e nD) e
          have hd4 : TrAll H4 c1 es A1 := TrAll.frame hc1 fun b hb o e => at4 b (List.mem_append_left _ hb) o e
          have hd5 : TrAll H4 c2 rd1 A2 := TrAll.frame hc2 fun b hb o e => at4 b (List.mem_append_right _ hb) o e
          have nD1 : D ∉ A1 := fun hb => TrAll.there hc1 D hb nD
          have nD2 : D ∉ A2 := fun hb => TrAll.there hc2 D hb nD
          have hc1l : c1.length ≤ 1000000 ∧ c2.length ≤ 1000000 := by
            rw [List.length_append] at lcs
            omega
          refine ⟨_, rfl, .ref a, .ty "tuple", .type "list", .type "tuple", _, rfl, .ty _, dp_ty (d := .list es) (.lst (Same.seq sm4 (sv.seq g1)) (dpAll_same (sv.trans sm4) _ _ g2)), kit1 (.list es) K, _, rfl, ?_⟩
          refine iteF ?_
          refine ⟨_, rfl, .inl ⟨rfl, _, SqL.of k1⟩, _, rfl, da, _, _, rfl, rfl, k1, Nat.lt_of_le_of_lt (by simpa using hc1l.2) (by decide), ?_⟩
          refine ⟨_, .ref D :: c2, _, _, rfl, same_fresh nda0 sm4, by rw [upd_ne rda.symm]; exact hr4, hP1, ?_, ?_⟩
          · rw [upd_same]
            simp
          · refine ⟨(D :: A1) ++ A2, .cons (.lst (by rw [upd_ne ne.symm]; exact k2) (TrAll.frame hd4 fun b hb o e => by rw [upd_ne (hAr b (List.mem_append_left _ hb)).2]; exact e) nD1) (TrAll.frame hd5 fun b hb o e => by rw [upd_ne (hAr b (List.mem_append_right _ hb)).2]; exact e) fun b hb h2 => ?_, fun b hb => ?_⟩
            · rcases List.mem_cons.mp hb with z | z
              · exact nD2 (z ▸ h2)
              · exact dis b z h2
            · rcases List.mem_append.mp hb with z | z
              · rcases List.mem_cons.mp z with y | y
                · exact y ▸ ⟨nDH, ne.symm⟩
                · exact hAr b (List.mem_append_left _ y)
              · exact hAr b (List.mem_append_right _ z)
      · obtain ⟨c1, c2, A1, A2, rfl, rfl, hc1, hc2, dis⟩ := TrAll.split hcs3
        have hxl : xs.length = c1.length := (DpAll.length g2).trans (TrAll.length hc1).symm
        refine iteT (.inr ?_)
        refine ⟨_, rfl, a, rfl, ⟨_, same_sqt (sv.trans sm3) g1⟩, fun D nD => lc_tup (K := K) (a := a) (xs := xs) (fun j H4 => H4 da = some (.lst (c2.reverse ++ (c1.drop j).reverse)) ∧ H4 D = some (.lst (c1.take j)) ∧ ∀ b o, b ≠ da → b ≠ D → G b = some o → H4 b = some o) ?_ ?_ ?_ ?_⟩
        · have ne : da ≠ D := ne_of_none hda3 nD
          refine ⟨?_, upd_same, fun b o _ hb e => by rw [upd_ne hb]; exact e⟩
          rw [upd_ne ne, hda3]
          simp
        · rintro j H4 hj ⟨_, _, kp⟩
          have nDH : H D = none := sm3.free nD
          exact same_sqt (fun b o e => kp b o (ne_of_none e nda0) (ne_of_none e nDH) (sm3 b o e)) (same_sqt sv g1)
        · rintro j y H4 hy ⟨k1, k2, kp⟩
          have ne : da ≠ D := ne_of_none hda3 nD
          have hjl : j < c1.length := by
            have := (List.getElem?_eq_some_iff.mp hy).1
            omega
          have hcj : c1[j]? = some c1[j] := List.getElem?_eq_getElem hjl
          rw [rev_drop hcj, ← List.append_assoc] at k1
          refine ⟨rfl, .ref da, rfl, .inl ⟨rfl, _, SqL.of k1⟩, da, _, c1[j], rfl, rfl, k1, by simp, ?_⟩
          rw [List.dropLast_concat]
          refine ⟨c1.take j, by rw [upd_ne ne.symm]; exact k2, ?_, ?_, ?_, fun b o h1 h2 e => ?_⟩
          · refine Nat.lt_of_le_of_lt (show (c1.take j).length ≤ 1000000 from ?_) (by decide)
            rw [List.length_append] at lcs
            have := List.length_take_le j c1
            omega
          · rw [upd_ne ne, upd_same]
          · rw [upd_same, List.take_add_one, hcj]
            rfl
          · rw [upd_ne h2, upd_ne h1]
            exact kp b o h1 h2 e
        · rintro H4 ⟨k1, k2, kp⟩
          have ne : da ≠ D := ne_of_none hda3 nD
          have nDH : H D = none := sm3.free nD
          have sm4 : Same H H4 := fun b o e => kp b o (ne_of_none e nda0) (ne_of_none e nDH) (sm3 b o e)
          have rD : r ≠ D := ne_of_none hrs3 nD
          have hr4 : H4 r = some (.lst rs) := kp r _ rda.symm rD hrs3
          rw [hxl] at k1 k2
          rw [List.drop_length, List.reverse_nil, List.append_nil] at k1
          rw [List.take_length] at k2
          have at4 : ∀ b ∈ A1 ++ A2, ∀ o, G b = some o → H4 b = some o := fun b hb o e => kp b o (hAr b hb).2 (ne_of_none e nD) e
          have hd4 : TrAll H4 c1 es A1 := TrAll.frame hc1 fun b hb o e => at4 b (List.mem_append_left _ hb) o e
          have hd5 : TrAll H4 c2 rd1 A2 := TrAll.frame hc2 fun b hb o e => at4 b (List.mem_append_right _ hb) o e
          have nD1 : D ∉ A1 := fun hb => TrAll.there hc1 D hb nD
          have nD2 : D ∉ A2 := fun hb => TrAll.there hc2 D hb nD
          have hc1l : c1.length ≤ 1000000 ∧ c2.length ≤ 1000000 := by
            rw [List.length_append] at lcs
            omega
          refine ⟨_, rfl, .ref a, .ty "tuple", .type "tuple", .type "tuple", _, rfl, .ty _, dp_ty (d := .tuple es) (.tup (same_sqt sm4 (same_sqt sv g1)) (dpAll_same (sv.trans sm4) _ _ g2)), kit1 (.tuple es) K, _, rfl, ?_⟩
          refine iteT ?_
          -- made = tuple(made)
          refine ⟨_, rfl, D, c1, rfl, .inl ⟨SqL.of k2, fun tq ntq => ?_⟩⟩
          have nq : H tq = none := sm4.free ntq
          have dq : da ≠ tq := ne_of_none k1 ntq
          have rq : r ≠ tq := ne_of_none hr4 ntq
          have k5 : (upd H4 tq (.tup c1)) da = some (.lst c2.reverse) := by
            rw [upd_ne dq]
            exact k1
          refine ⟨_, rfl, .inl ⟨rfl, _, SqL.of k5⟩, _, rfl, da, _, _, rfl, rfl, k5, Nat.lt_of_le_of_lt (by simpa using hc1l.2) (by decide), ?_⟩
          refine ⟨_, .ref tq :: c2, _, _, rfl, same_fresh nda0 (sm4.trans (same_upd ntq)), by rw [upd_ne rda.symm, upd_ne rq]; exact hr4, hP1, ?_, ?_⟩
          · rw [upd_same]
            simp
          · have nq1 : tq ∉ A1 := fun hb => TrAll.there hd4 tq hb ntq
            have nq2 : tq ∉ A2 := fun hb => TrAll.there hd5 tq hb ntq
            have up : ∀ b ∈ A1 ++ A2, ∀ o, H4 b = some o → (upd (upd H4 tq (.tup c1)) da (.lst (c2.reverse ++ [.ref tq]))) b = some o := fun b hb o e => by
              rw [upd_ne (hAr b hb).2, upd_ne (ne_of_none e ntq)]
              exact e
            refine ⟨(tq :: A1) ++ A2, .cons (.tup (by rw [upd_ne dq.symm, upd_same]) (TrAll.frame hd4 fun b hb o e => up b (List.mem_append_left _ hb) o e) nq1) (TrAll.frame hd5 fun b hb o e => up b (List.mem_append_right _ hb) o e) fun b hb h2 => ?_, fun b hb => ?_⟩
            · rcases List.mem_cons.mp hb with z | z
              · exact nq2 (z ▸ h2)
              · exact dis b z h2
            · rcases List.mem_append.mp hb with z | z
              · rcases List.mem_cons.mp z with y | y
                · exact y ▸ ⟨nq, dq.symm⟩
                · exact hAr b (List.mem_append_left _ y)
              · exact hAr b (List.mem_append_right _ z)
    · rintro σ H2 ⟨S, cs, y2, y3, rfl, sm, hrs, hPi, hda, Ar, hcs, hAr⟩
      rw [List.drop_length] at hPi
      cases hPi
      cases hcs with
      | @cons c1 d1 A0 vs0 ds0 T0 h1 h2 hdis =>
        cases h2
        refine ⟨_, rfl, da, [c1], 0, c1, rfl, rfl, SqL.of hda, atI_nat (j := 0) rfl, ?_⟩
        exact q H2 c1 A0 sm h1 fun b hb => (hAr b (List.mem_append_left _ hb)).1
end
end TX
namespace TX
open PySem PySem.Spec PyProof.Rows L2
structure Nk (mg : Str → Option Value) : Prop where
  str : mg "str" = none
/-! ### texts -/
def alphaS : Str := "abcdefghijklmnopqrstuvwxyz"
def ltC (c : Nat) : Bool := decide (97 ≤ c ∧ c ≤ 122)
def ltB (x : Str) : Bool := x.cps.toList.all ltC
def isT : PyData → Bool
  | .str x => ltB x
  | _ => false
theorem alpha_has (c : Nat) : alphaS.cps.contains c = ltC c := by
  have e : alphaS.cps.toList = (List.range 26).map (· + 97) := by decide +kernel
  have e2 : alphaS.cps.contains c = alphaS.cps.toList.contains c := by simp
  rw [e2, e]
  unfold ltC
  by_cases h : 97 ≤ c ∧ c ≤ 122
  · rw [decide_eq_true h, List.contains_iff_mem, List.mem_map]
    exact ⟨c - 97, List.mem_range.mpr (by omega), by omega⟩
  · rw [decide_eq_false h]
    refine Bool.eq_false_iff.mpr fun z => h ?_
    obtain ⟨y, hy, rfl⟩ := List.mem_map.mp (List.contains_iff_mem.mp z)
    have := List.mem_range.mp hy
    omega
theorem tw_all {p : Nat → Bool} : ∀ l : List Nat, l.all p = true → l.takeWhile p = l
  | [], _ => rfl
  | c :: r, h => by
    rw [List.all_cons, Bool.and_eq_true] at h
    rw [List.takeWhile_cons, if_pos h.1, tw_all r h.2]
theorem tw_lt {p : Nat → Bool} : ∀ l : List Nat, l.all p = false → (l.takeWhile p).length < l.length ∧ (l.drop (l.takeWhile p).length).all p = false
  | [], h => by simp at h
  | c :: r, h => by
    by_cases hc : p c = true
    · have hr : r.all p = false := by simpa [hc] using h
      obtain ⟨h1, h2⟩ := tw_lt r hr
      rw [List.takeWhile_cons, if_pos hc]
      exact ⟨by simpa using h1, by simpa using h2⟩
    · rw [List.takeWhile_cons, if_neg hc]
      exact ⟨by simp, h⟩
theorem strip_len (x : Str) : ((Txt.stripChars x alphaS).length == 0) = ltB x := by
  have fn : alphaS.cps.contains = ltC := funext alpha_has
  unfold Txt.stripChars Txt.stripBy
  rw [fn]
  have xl : x.length = x.cps.toList.length := by simp [Str.length]
  by_cases h : ltB x = true
  · rw [h]
    have h1 : x.cps.toList.takeWhile ltC = x.cps.toList := tw_all _ h
    have lo : stripLo ltC true x = x.length := by
      unfold stripLo
      rw [if_pos rfl, h1, xl]
    have hi : stripHi ltC true x x.length = x.length := by
      unfold stripHi
      rw [if_pos rfl, xl, List.drop_length]
      simp
    by_cases h0 : stripSame ltC true true x = true
    · rw [if_pos h0]
      unfold stripSame at h0
      rw [lo] at h0
      rw [Bool.and_eq_true] at h0
      exact h0.1
    · rw [if_neg h0]
      unfold stripped
      rw [lo, hi, size_strSub _ _ _ (Nat.le_refl _)]
      simp
  · have h' : ltB x = false := by simpa using h
    rw [h']
    obtain ⟨l1, l2⟩ := tw_lt x.cps.toList h'
    have lo : stripLo ltC true x < x.length := by
      unfold stripLo
      rw [if_pos rfl, xl]
      exact l1
    have el : stripLo ltC true x = (x.cps.toList.takeWhile ltC).length := by
      unfold stripLo
      rw [if_pos rfl]
    have hi : stripLo ltC true x < stripHi ltC true x (stripLo ltC true x) ∧ stripHi ltC true x (stripLo ltC true x) ≤ x.length := by
      unfold stripHi
      rw [if_pos rfl]
      have r1 : (x.cps.toList.drop (stripLo ltC true x)).reverse.all ltC = false := by
        rw [List.all_reverse, el]
        exact l2
      have r2 := (tw_lt _ r1).1
      rw [List.length_reverse, List.length_drop, ← xl] at r2
      omega
    by_cases h0 : stripSame ltC true true x = true
    · rw [if_pos h0]
      refine beq_eq_false_iff_ne.mpr ?_
      omega
    · rw [if_neg h0]
      unfold stripped
      rw [size_strSub _ _ _ hi.2]
      refine beq_eq_false_iff_ne.mpr ?_
      omega
theorem fits_any (x : Str) : (Txt.stripChars x alphaS).length ≤ x.length := by
  unfold Txt.stripChars Txt.stripBy
  by_cases h : stripSame alphaS.cps.contains true true x = true
  · rw [if_pos h]
    exact Nat.le_refl _
  · rw [if_neg h]
    exact le_strSub _ _ _
def spIsText (K : PySem.W.Frag) : Sp := fun vs H Q _ => ∃ (v : V) (d : PyData) (Hv : Hp), vs = [v] ∧ Same Hv H ∧ Dp K Hv v d ∧ sz d ≤ 100000 ∧ Q (.bl (isT d)) H
section
variable {P : Program} {w : World} {K : PySem.W.Frag} {mg : Str → Option Value} {base : Heap}
theorem scIsText : FnScope ["thing"] ["thing"] (defScope s_is_text) := ⟨rfl, rfl, rfl, by decide +kernel, rfl, by decide +kernel, by decide +kernel⟩
theorem ok_isText {f : Addr} {fd : FuncData} {tA : Tok} (F : Fun K "is_text" "is_text" s_is_text f fd) (T : Nm mg) (k : Nk mg) (gA : mg "ALPHABET" = some (.str alphaS tA)) : FnOk P w K mg base CX0 1 f fd ["thing"] (spIsText K) := by
  refine F.ok scIsText (fun vs H Q E h => ?_) (fun cdv A outer s H vs Q E hr h => ?_)
  · obtain ⟨v, d, Hv, rfl, _⟩ := h
    rfl
  · obtain ⟨v, d, Hv, rfl, sv, hd, hz, q⟩ := h
    refine ⟨_, pss_one (ps_ret (pe_and (pe_callB call_isi (by rfl) T.isi (by decide +kernel) (pa_cons (pv 0) (pa_cons (pe_bltn (v := .ty "str") (by rfl) k.str (by decide +kernel) rfl) pa_nil)))
      (pe_one (pe_notT (pe_bm PySem.F.plainAttrs_str PySem.F.slot_str_strip PySem.F.type_str_strip mt_stripChars (pv 0) (pa_cons (pe_glob (v := .str alphaS) (by rfl) gA ⟨_, rfl⟩) pa_nil)))))), ?_⟩
    have ty := dp_ty (dp_same sv _ _ hd)
    have is : ∀ b, (tyD d == "str") = b → PySem.W.kitOne K (.type (tyD d)) (.type "str") = some b := fun b e => e ▸ kitS d K
    refine ⟨_, rfl, v, .ty "str", _, .type "str", (tyD d == "str"), rfl, .ty _, ty, is _ rfl, _, rfl, ?_⟩
    have no : (tyD d == "str") = false → isT d = false := by
      intro e
      cases d with
      | str x => simp [tyD] at e
      | _ => rfl
    by_cases e : (tyD d == "str") = true
    · rw [e]
      refine iteT ?_
      cases hd with
      | str x =>
        have hx : x.length ≤ 100000 := by
          simp only [sz] at hz
          omega
        have hs := strip_len x
        refine ⟨_, rfl, rfl, x, alphaS, rfl, rfl, Nat.le_trans hx (by decide), ltB x |>.not, ⟨?_, ?_⟩, ?_⟩
        · exact Nat.le_trans (fits_any x) (Nat.le_trans hx (by decide))
        · rw [← hs]
          cases e2 : (Txt.stripChars x alphaS).length == 0 with
          | true =>
            have := eq_of_beq e2
            rw [this]
            rfl
          | false =>
            have h0 := beq_eq_false_iff_ne.mp e2
            exact (bne_iff_ne.mpr (by omega)).symm
        · show Q (.bl (!(!ltB x))) H
          rw [Bool.not_not]
          exact q
      | _ => simp [tyD] at e
    · have e' : (tyD d == "str") = false := by simpa using e
      rw [e']
      rw [no e'] at q
      exact iteF q
end
end TX
namespace TX
open PySem PySem.Spec PyProof.Rows L2
/-! ### steps: from where each part was reached -/
def natV (p : List Nat) : List V := p.map fun i => V.int ((i : Nat) : Int)
def StepsOk (H : Hp) (xs : List V) (pl : List (List Nat)) : Prop := xs.length = pl.length ∧
  ∀ (n : Nat) (p : List Nat), pl[n]? = some p → ∃ (t : Addr) (a i : Nat), xs[n]? = some (.ref t) ∧ H t = some (.tup [.int ((a : Nat) : Int), .int ((i : Nat) : Int)]) ∧ (n = 0 → p = []) ∧ (0 < n → a < n ∧ ∃ q, pl[a]? = some q ∧ p = q ++ [i])
theorem StepsOk.same {H H' : Hp} {xs : List V} {pl : List (List Nat)} (h : StepsOk H xs pl) (s : Same H H') : StepsOk H' xs pl :=
  ⟨h.1, fun n p e => let ⟨t, a, i, h1, h2, h3, h4⟩ := h.2 n p e; ⟨t, a, i, h1, s _ _ h2, h3, h4⟩⟩
def spLast (K : PySem.W.Frag) : Sp := fun vs H Q _ => ∃ (s : Addr) (xs : List V) (pl : List (List Nat)) (m : Nat) (p : List Nat), vs = [.ref s] ∧ SqL K H s xs ∧ StepsOk H xs pl ∧ pl.length = m + 1 ∧ m ≤ 100000 ∧ pl[m]? = some p ∧
  ∀ (H' : Hp) (t : Addr), Same H H' → H t = none → H' t = some (.tup (natV p)) → Q (.ref t) H'
section
variable {P : Program} {w : World} {K : PySem.W.Frag} {mg : Str → Option Value} {base : Heap}
theorem scLast : FnScope ["steps", "place", "number", "at"] ["steps"] (defScope s_place_of_last) := ⟨rfl, rfl, rfl, by decide +kernel, rfl, by decide +kernel, by decide +kernel⟩
theorem ok_last {f : Addr} {fd : FuncData} (F : Fun K "place_of_last" "place_of_last" s_place_of_last f fd) (T : Nm mg) (B : Nb mg) : FnOk P w K mg base CX0 1 f fd ["steps"] (spLast K) := by
  refine F.ok scLast (fun vs H Q E h => ?_) (fun cdv A outer s H vs Q E hr h => ?_)
  · obtain ⟨s, xs, pl, m, p, rfl, _⟩ := h
    rfl
  · obtain ⟨sa, xs, pl, m, p, rfl, hS, hT, hm, hb, hp, q⟩ := h
    refine ⟨_, pss_cons (ps_set (i := 1) scLast.nd rfl (.inl rfl) (pe_lst pa_nil)) <|
      pss_cons (ps_set (i := 2) scLast.nd rfl (.inl rfl) (pe_op op_sub (pe_callB call_len_seq (by rfl) B.len PySem.boot_len (pa_cons (pv 0) pa_nil)) pe_int)) <|
      pss_cons (ps_while PassesOwn.never (pt_cmpR op_gt (pv 2) pe_int (nomark _)) (
        pss_cons (ps_asg (pe_ix ix_list (pv 0) (pv 2) (fun _ _ => rfl)) (pg_tup rfl (pgs_cons (pg_name (i := 2) scLast.nd rfl (.inl rfl)) (pgs_cons (pg_name (i := 3) scLast.nd rfl (.inl rfl)) pgs_nil)))) <|
        pss_one (ps_expr (pe_bm PySem.F.plainAttrs_list PySem.F.slot_list_append PySem.F.type_list_append mt_append (pv 1) (pa_cons (pv 3) pa_nil))))) <|
      pss_one (ps_ret (pe_callTy call_tuple_of (by rfl) T.tpl (by decide +kernel) (pa_cons (pe_revL (pv 1)) pa_nil))), ?_⟩
    have xl : xs.length = m + 1 := hT.1.trans hm
    refine ⟨by decide, fun da nda => ⟨_, rfl, sa, xs, rfl, .inl ((same_upd nda).seq hS), _, _, rfl, rfl, ?_⟩⟩
    refine ⟨fun n σ H1 => ∃ (acc q' : List Nat) (y : Option V), σ = [some (.ref sa), some (.ref da), some (.int ((n : Nat) : Int)), y] ∧ Same H H1 ∧ H1 da = some (.lst (natV acc)) ∧ pl[n]? = some q' ∧ p = q' ++ acc.reverse ∧ acc.length + n ≤ m, ⟨m, [], p, none, ?_, same_upd nda, upd_same, hp, by simp, by simp⟩, ?_⟩
    · have e : ((xs.length : Nat) : Int) - 1 = ((m : Nat) : Int) := by omega
      show [some (V.ref sa), some (V.ref da), some (V.int (((xs.length : Nat) : Int) - 1)), none] = _
      rw [e]
    rintro n σ H1 ⟨acc, q', y, rfl, sm, hd, hq, ep, hl⟩
    obtain ⟨t, a, i, h1, h2, h3, h4⟩ := hT.2 n q' hq
    refine ⟨_, rfl, _, _, rfl, rfl, _, rfl, ?_⟩
    by_cases hn : n = 0
    · rw [decide_eq_false (by omega)]
      refine iteF ?_
      subst hn
      have e0 := h3 rfl
      subst e0
      refine ⟨_, rfl, da, _, rfl, SqL.of hd, fun r nr => ⟨r, _, rfl, .inl ⟨SqL.of upd_same, fun t2 nt2 => ?_⟩⟩⟩
      refine q _ t2 ((sm.trans (same_upd nr)).trans (same_upd nt2)) ((sm.trans (same_upd nr)).free nt2) ?_
      rw [upd_same, ep]
      unfold natV
      rw [List.map_append, List.map_reverse]
      rfl
    · rw [decide_eq_true (by omega)]
      refine iteT ?_
      obtain ⟨ha, q2, hq2, eq2⟩ := h4 (by omega)
      have s0 : Same H (upd H da (.lst [])) := same_upd nda
      refine ⟨fun σ' H2 => ∃ (acc q' : List Nat), σ' = [some (.ref sa), some (.ref da), some (.int ((a : Nat) : Int)), some (.int ((i : Nat) : Int))] ∧ Same H H2 ∧ H2 da = some (.lst (natV acc)) ∧ pl[a]? = some q' ∧ p = q' ++ acc.reverse ∧ acc.length + a ≤ m, ?_, ?_⟩
      · rintro σ' H2 ⟨acc', q3, rfl, g1, g2, g3, g4, g5⟩
        exact ⟨a, ha, acc', q3, _, rfl, g1, g2, g3, g4, g5⟩
      refine ⟨_, rfl, _, rfl, sa, xs, _, _, rfl, rfl, sm.seq hS, atI_nat h1, ?_⟩
      refine ⟨t, _, rfl, SqT.of (sm _ _ h2), rfl, _, _, rfl, _, _, rfl, rfl, ?_⟩
      refine ⟨_, rfl, .inl ⟨rfl, _, SqL.of hd⟩, _, rfl, da, _, _, rfl, rfl, hd, Nat.lt_of_le_of_lt (show (natV acc).length ≤ 100000 by unfold natV; rw [List.length_map]; omega) (by decide), ?_⟩
      refine ⟨acc ++ [i], q2, rfl, same_fresh nda sm, ?_, hq2, ?_, ?_⟩
      · rw [upd_same]
        unfold natV
        rw [List.map_append]
        rfl
      · rw [ep, eq2]
        simp
      · rw [List.length_append]
        show acc.length + 1 + a ≤ m
        omega
end
end TX
namespace TX
open PySem PySem.Spec PyProof.Rows L2
/-! ### the first fault of data, by the rules -/
mutual
def faultD : PyData → Option (List Nat)
  | .list es => faultAll 0 es
  | .none => none
  | .str x => if ltB x = true then none else some []
  | _ => some []
def faultAll (k : Nat) : List PyData → Option (List Nat)
  | [] => none
  | d :: ds => match faultD d with
    | some p => some (k :: p)
    | none => faultAll (k + 1) ds
end
def faultP : List (PyData × List Nat) → Option (List Nat)
  | [] => none
  | (d, p) :: r => match faultD d with
    | some q => some (p ++ q)
    | none => faultP r
def kids (k : Nat) : List PyData → List Nat → List (PyData × List Nat)
  | [], _ => []
  | d :: ds, p => (d, p ++ [k]) :: kids (k + 1) ds p
theorem faultP_kids (p : List Nat) (r : List (PyData × List Nat)) : ∀ (es : List PyData) (k : Nat), faultP (kids k es p ++ r) = match faultAll k es with
    | some q => some (p ++ q)
    | none => faultP r
  | [], k => by simp [kids, faultAll]
  | d :: ds, k => by
    have ih := faultP_kids p r ds (k + 1)
    simp only [kids, List.cons_append, faultP, faultAll]
    cases h : faultD d with
    | some q => simp
    | none => simpa using ih
/-- the parts that wait, with their places -/
def Lk (pl : List (List Nat)) (a i : Nat) (p : List Nat) : Prop := (pl = [] → p = []) ∧ (pl ≠ [] → ∃ q, pl[a]? = some q ∧ p = q ++ [i])
inductive PendOk (K : PySem.W.Frag) (Hv H : Hp) (pl : List (List Nat)) : List V → List (PyData × List Nat) → Prop
  | nil : PendOk K Hv H pl [] []
  | cons {t : Addr} {v : V} {d : PyData} {a i : Nat} {p : List Nat} {xs : List V} {ps : List (PyData × List Nat)} : H t = some (.tup [v, .int ((a : Nat) : Int), .int ((i : Nat) : Int)]) → Dp K Hv v d → Lk pl a i p → PendOk K Hv H pl xs ps → PendOk K Hv H pl (.ref t :: xs) ((d, p) :: ps)
theorem PendOk.len {K : PySem.W.Frag} {Hv H : Hp} {pl : List (List Nat)} : ∀ {xs : List V} {ps : List (PyData × List Nat)}, PendOk K Hv H pl xs ps → xs.length = ps.length
  | _, _, .nil => rfl
  | _, _, .cons _ _ _ h => congrArg (· + 1) h.len
theorem PendOk.same {K : PySem.W.Frag} {Hv H H' : Hp} {pl : List (List Nat)} : ∀ {xs : List V} {ps : List (PyData × List Nat)}, PendOk K Hv H pl xs ps → (∀ t o, H t = some (.tup o) → H' t = some (.tup o)) → PendOk K Hv H' pl xs ps
  | _, _, .nil, _ => .nil
  | _, _, .cons h1 h2 h3 h, s => .cons (s _ _ h1) h2 h3 (h.same s)
theorem PendOk.more {K : PySem.W.Frag} {Hv H : Hp} {pl : List (List Nat)} (hn : pl ≠ []) (p : List Nat) : ∀ {xs : List V} {ps : List (PyData × List Nat)}, PendOk K Hv H pl xs ps → PendOk K Hv H (pl ++ [p]) xs ps
  | _, _, .nil => .nil
  | _, _, .cons h1 h2 h3 h => .cons h1 h2 ⟨fun z => by simp at z, fun _ => by
      obtain ⟨q, e1, e2⟩ := h3.2 hn
      exact ⟨q, by rw [List.getElem?_append_left (List.getElem?_eq_some_iff.mp e1).1]; exact e1, e2⟩⟩ (h.more hn p)
theorem PendOk.append {K : PySem.W.Frag} {Hv H : Hp} {pl : List (List Nat)} : ∀ {xs ys : List V} {ps qs : List (PyData × List Nat)}, PendOk K Hv H pl xs ps → PendOk K Hv H pl ys qs → PendOk K Hv H pl (xs ++ ys) (ps ++ qs)
  | _, _, _, _, .nil, h => h
  | _, _, _, _, .cons h1 h2 h3 h, g => .cons h1 h2 h3 (h.append g)
def szP (ps : List (PyData × List Nat)) : Nat := szAll (ps.map (·.1))
theorem szP_kids (p : List Nat) : ∀ (es : List PyData) (k : Nat), szP (kids k es p) = szAll es
  | [], _ => rfl
  | d :: ds, k => by
    have := szP_kids p ds (k + 1)
    simp only [szP, kids, List.map_cons, szAll] at this ⊢
    omega
end TX
namespace TX
open PySem PySem.Spec PyProof.Rows L2
def spFault (K : PySem.W.Frag) : Sp := fun vs H Q _ => ∃ (v : V) (d : PyData) (Hv : Hp), vs = [v] ∧ Same Hv H ∧ Dp K Hv v d ∧ sz d ≤ 10000 ∧
  (faultD d = none → ∀ H', Same H H' → Q .non H') ∧ (∀ p, faultD d = some p → ∀ (H' : Hp) (t : Addr), Same H H' → H t = none → H' t = some (.tup (natV p)) → p.length ≤ 10000 → Q (.ref t) H')
mutual
theorem fault_len : ∀ (d : PyData) (p : List Nat), faultD d = some p → p.length ≤ sz d
  | .list es, p, h => by
    have := faultAll_len es 0 p (by simpa only [faultD] using h)
    simp only [sz]
    omega
  | .none, p, h => by simp [faultD] at h
  | .str x, p, h => by
    simp only [faultD] at h
    split at h
    · cases h
    · cases h
      simp
  | .bool _, p, h => by
    simp only [faultD] at h
    cases h
    simp
  | .int _, p, h => by
    simp only [faultD] at h
    cases h
    simp
  | .tuple _, p, h => by
    simp only [faultD] at h
    cases h
    simp
  | .dict _, p, h => by
    simp only [faultD] at h
    cases h
    simp
theorem faultAll_len : ∀ (es : List PyData) (k : Nat) (p : List Nat), faultAll k es = some p → p.length ≤ szAll es + 1
  | [], k, p, h => by simp [faultAll] at h
  | d :: ds, k, p, h => by
    simp only [faultAll] at h
    cases e : faultD d with
    | some q =>
      rw [e] at h
      have h1 := fault_len d q e
      cases h
      simp only [szAll, List.length_cons]
      omega
    | none =>
      rw [e] at h
      have := faultAll_len ds (k + 1) p h
      simp only [szAll]
      omega
end
theorem fault_leaf {d : PyData} (hl : (tyD d == "list") = false) (hn : d ≠ .none) : faultD d = if isT d = true then none else some [] := by
  cases d with
  | list es => simp [tyD] at hl
  | none => exact absurd rfl hn
  | str x => rfl
  | bool _ => rfl
  | int _ => rfl
  | tuple _ => rfl
  | dict _ => rfl
theorem StepsOk.snoc {H : Hp} {ys : List V} {pl : List (List Nat)} {tp : Addr} {a i : Nat} {p : List Nat} (h : StepsOk H ys pl) (ht : H tp = some (.tup [.int ((a : Nat) : Int), .int ((i : Nat) : Int)])) (l : Lk pl a i p) : StepsOk H (ys ++ [.ref tp]) (pl ++ [p]) := by
  refine ⟨by simp [h.1], fun n p' e => ?_⟩
  rcases Nat.lt_trichotomy n pl.length with c | c | c
  · rw [List.getElem?_append_left c] at e
    obtain ⟨t, a', i', h1, h2, h3, h4⟩ := h.2 n p' e
    refine ⟨t, a', i', by rw [List.getElem?_append_left (by rw [h.1]; exact c)]; exact h1, h2, h3, fun z => ?_⟩
    obtain ⟨g1, q, g2, g3⟩ := h4 z
    exact ⟨g1, q, by rw [List.getElem?_append_left (List.getElem?_eq_some_iff.mp g2).1]; exact g2, g3⟩
  · subst c
    have e1 : (pl ++ [p])[pl.length]? = some p := by simp
    rw [e1] at e
    cases e
    refine ⟨tp, a, i, by rw [← h.1]; simp, ht, fun z => l.1 (List.length_eq_zero_iff.mp z), fun z => ?_⟩
    obtain ⟨q, g1, g2⟩ := l.2 (fun y => by rw [y] at z; simp at z)
    have g3 := (List.getElem?_eq_some_iff.mp g1).1
    exact ⟨g3, q, by rw [List.getElem?_append_left g3]; exact g1, g2⟩
  · have := (List.getElem?_eq_some_iff.mp e).1
    simp at this
    omega
theorem iteNN {c A B : Prop} [Decidable c] (hc : ¬ c) (h : A) : if (!decide c) = true then A else B := by
  rw [decide_eq_false hc]
  exact iteT h
theorem szP_cons (d : PyData) (p : List Nat) (ps : List (PyData × List Nat)) : szP ((d, p) :: ps) = sz d + szP ps := rfl
theorem szP_append (a b : List (PyData × List Nat)) : szP (a ++ b) = szP a + szP b := by
  unfold szP
  rw [List.map_append, szAll_append]
theorem sz_pos (d : PyData) : 1 ≤ sz d := by
  cases d <;> simp [sz]
theorem szP_len (ps : List (PyData × List Nat)) : ps.length ≤ szP ps := by
  have := szAll_len (ps.map (·.1))
  unfold szP
  simpa using this
theorem kids_drop (p : List Nat) (k : Nat) : ∀ (es : List PyData) (d : PyData) (j : Nat), es[j]? = some d → kids (k + j) (es.drop j) p = (d, p ++ [k + j]) :: kids (k + j + 1) (es.drop (j + 1)) p := by
  intro es d j h
  obtain ⟨hj, e⟩ := List.getElem?_eq_some_iff.mp h
  rw [List.drop_eq_getElem_cons hj, e]
  rfl
section
variable {P : Program} {w : World} {K : PySem.W.Frag} {mg : Str → Option Value} {base : Heap}
theorem scFault : FnScope ["thing", "waiting", "steps", "part", "above", "at", "number", "k"] ["thing"] (defScope s_first_fault) := ⟨rfl, rfl, rfl, by decide +kernel, rfl, by decide +kernel, by decide +kernel⟩
theorem ok_fault {f fI fL : Addr} {fd dI dL : FuncData} (F : Fun K "first_fault" "first_fault" s_first_fault f fd) (T : Nm mg) (B : Nb mg) (Y : Nv mg)
    (GI : FnOk P w K mg base CX0 1 fI dI ["thing"] (spIsText K)) (gI : mg "is_text" = some (.ref fI)) (kI : PySem.W.keepIn K (.ref fI) = true) (bI : Binds K dI ["thing"] [])
    (GL : FnOk P w K mg base CX0 1 fL dL ["steps"] (spLast K)) (gL : mg "place_of_last" = some (.ref fL)) (kL : PySem.W.keepIn K (.ref fL) = true) (bL : Binds K dL ["steps"] []) : FnOk P w K mg base CX0 2 f fd ["thing"] (spFault K) := by
  refine F.ok scFault (fun vs H Q E h => ?_) (fun cdv A outer s H vs Q E hr h => ?_)
  · obtain ⟨v, d, Hv, rfl, _⟩ := h
    rfl
  · obtain ⟨v, d, Hv, rfl, sv, hd, hz, q1, q2⟩ := h
    refine ⟨_, pss_cons (ps_set (i := 1) scFault.nd rfl (.inl rfl) (pe_lst (pa_cons (pe_tup (pa_cons (pv 0) (pa_cons pe_int (pa_cons pe_int pa_nil)))) pa_nil))) <|
      pss_cons (ps_set (i := 2) scFault.nd rfl (.inl rfl) (pe_lst pa_nil)) <|
      pss_cons (ps_while PassesOwn.never (pt_truth (pv 1) (by intro _; rfl)) (
        pss_cons (ps_asg (pe_bm0 PySem.F.plainAttrs_list PySem.F.slot_list_pop PySem.F.type_list_pop mt_pop (pv 1)) (pg_tup rfl (pgs_cons (pg_name (i := 3) scFault.nd rfl (.inr rfl)) (pgs_cons (pg_name (i := 4) scFault.nd rfl (.inl rfl)) (pgs_cons (pg_name (i := 5) scFault.nd rfl (.inl rfl)) pgs_nil))))) <|
        pss_cons (ps_set (i := 6) scFault.nd rfl (.inr rfl) (pe_callB call_len_seq (by rfl) B.len PySem.boot_len (pa_cons (pv 2) pa_nil))) <|
        pss_cons (ps_expr (pe_bm PySem.F.plainAttrs_list PySem.F.slot_list_append PySem.F.type_list_append mt_append (pv 2) (pa_cons (pe_tup (pa_cons (pv 4) (pa_cons (pv 5) pa_nil))) pa_nil))) <|
        pss_one (ps_if (pt_val (pe_callB call_isi (by rfl) T.isi (by decide +kernel) (pa_cons (pv 3) (pa_cons (pe_bltn (v := .ty "list") (by rfl) T.lst (by decide +kernel) rfl) pa_nil))))
          (pss_one (ps_expr (pe_bm PySem.F.plainAttrs_list PySem.F.slot_list_extend PySem.F.type_list_extend mt_extend (pv 1) (pa_cons (pe_lc (own := [("k", 7)]) (g := gName 7) (tt := tYes)
            (te := tTup (tCons (tOp (rIxL K) (tVar 3) (tVar 7)) (tCons (tVar 6) (tCons (tVar 7) tNil)))) rfl scFault.nd
            (pi_range3 (by rfl) Y.range (pa_cons (pe_op op_sub (pe_callB call_len_seq (by rfl) B.len PySem.boot_len (pa_cons (pv 3) pa_nil)) pe_int) (pa_cons (pe_un un_neg pe_int) (pa_cons (pe_un un_neg pe_int) pa_nil))))
            (blkOk_by (own := [("k", 7)]) (N := ["thing", "waiting", "steps", "part", "above", "at", "number", "k"]) (sc := defScope s_first_fault) (by decide +kernel)) (fun _ _ _ _ _ => pg_name (i := 7) scFault.nd rfl (Or.inl rfl)) (fun _ _ _ _ _ => pts_nil)
            (fun _ _ _ _ _ => pe_tup (pa_cons (pe_ix ix_list (pv 3) (pv 7) (fun _ _ => rfl)) (pa_cons (pv 6) (pa_cons (pv 7) pa_nil))))) pa_nil))))
          (pss_one (ps_if (PW.pt (pw_and (pt_cmp (pc_notN (pv 3))) (pw_and1 (pt_not (pt_val (pe_call GI (hr.mono (by decide)) (by rfl) gI kI bI .nil pass0 (pa_cons (pv 3) pa_nil)))))))
            (pss_one (ps_ret (pe_call GL (hr.mono (by decide)) (by rfl) gL kL bL .nil pass0 (pa_cons (pv 2) pa_nil)))) pss_nil))))) <|
      pss_one (ps_ret pe_non), ?_⟩
    refine ⟨_, rfl, (by show 3 ≤ sizeLine; decide), fun t0 nt0 => ⟨(by show 1 ≤ sizeLine; decide), fun wa nwa => ⟨by decide, fun sa nsa => ?_⟩⟩⟩
    have sm0 : Same H (upd (upd (upd H t0 (.tup [v, .int 0, .int 0])) wa (.lst [.ref t0])) sa (.lst [])) := ((same_upd nt0).trans (same_upd nwa)).trans (same_upd nsa)
    have nwaH : H wa = none := (same_upd nt0).free nwa
    have nsaH : H sa = none := ((same_upd nt0).trans (same_upd nwa)).free nsa
    have wt : wa ≠ t0 := fun e => by
      rw [e, upd_same] at nwa
      cases nwa
    have st : sa ≠ t0 := fun e => by
      rw [e, upd_ne wt.symm, upd_same] at nsa
      cases nsa
    have sw : sa ≠ wa := fun e => by
      rw [e, upd_same] at nsa
      cases nsa
    refine ⟨fun m σ H1 => ∃ (xs : List V) (ps : List (PyData × List Nat)) (ys : List V) (pl : List (List Nat)) (z3 z4 z5 z6 : Option V), σ = [some v, some (.ref wa), some (.ref sa), z3, z4, z5, z6, none] ∧ Same H H1 ∧ H1 wa = some (.lst xs.reverse) ∧ H1 sa = some (.lst ys) ∧
      PendOk K Hv H1 pl xs ps ∧ StepsOk H1 ys pl ∧ (pl = [] → ps.length ≤ 1) ∧ faultP ps = faultD d ∧ pl.length + szP ps ≤ 10000 ∧ m = szP ps,
      ⟨_, [.ref t0], [(d, [])], [], [], none, none, none, none, rfl, sm0, ?_, upd_same, .cons (a := 0) (i := 0) ?_ hd ⟨fun _ => rfl, fun z => absurd rfl z⟩ .nil, ⟨rfl, fun n p e => by simp at e⟩, fun _ => Nat.le_refl 1, ?_, ?_, rfl⟩, ?_⟩
    · rw [upd_ne sw.symm, upd_same]
      rfl
    · rw [upd_ne st.symm, upd_ne wt.symm, upd_same]
      rfl
    · simp only [faultP]
      cases faultD d <;> rfl
    · simpa [szP, szAll] using hz
    rintro m σ H1 ⟨xs, ps, ys, pl, z3, z4, z5, z6, rfl, sm, hw, hs, hP, hS, h1l, hf, hb, rfl⟩
    refine ⟨_, rfl, _, .inl ⟨_, SqL.of hw, rfl⟩, ?_⟩
    cases hP with
    | nil => exact iteF (q1 (by rw [← hf]; rfl) H1 sm)
    | @cons t v1 d1 a i p1 xs' ps' ht hd1 hl hP' =>
      have hne : (!((V.ref t :: xs').reverse).isEmpty) = true := by simp
      rw [hne]
      refine iteT ?_
      rw [List.reverse_cons] at hw
      rw [szP_cons] at hb
      have pl1 := sz_pos d1
      refine ⟨fun σ' H2 => ∃ (xs2 : List V) (ps2 : List (PyData × List Nat)) (ys2 : List V) (pl2 : List (List Nat)) (z3 z4 z5 z6 : Option V), σ' = [some v, some (.ref wa), some (.ref sa), z3, z4, z5, z6, none] ∧ Same H H2 ∧ H2 wa = some (.lst xs2.reverse) ∧ H2 sa = some (.lst ys2) ∧
        PendOk K Hv H2 pl2 xs2 ps2 ∧ StepsOk H2 ys2 pl2 ∧ (pl2 = [] → ps2.length ≤ 1) ∧ faultP ps2 = faultD d ∧ pl2.length + szP ps2 ≤ 10000 ∧ szP ps2 < szP ((d1, p1) :: ps'), ?_, ?_⟩
      · rintro σ' H2 ⟨xs2, ps2, ys2, pl2, y3, y4, y5, y6, e, g1, g2, g3, g4, g5, g6, g7, g8, g9⟩
        exact ⟨_, g9, xs2, ps2, ys2, pl2, y3, y4, y5, y6, e, g1, g2, g3, g4, g5, g6, g7, g8, rfl⟩
      -- part, above, at = waiting.pop()
      have tw : t ≠ wa := fun e => by
        rw [e, hw] at ht
        cases ht
      refine ⟨_, rfl, .inl ⟨rfl, _, SqL.of hw⟩, wa, _, .ref t, rfl, rfl, hw, by simp, ?_⟩
      rw [List.dropLast_concat]
      refine ⟨t, _, rfl, SqT.of ((upd_ne tw).trans ht), rfl, _, _, rfl, _, _, rfl, _, _, rfl, rfl, ?_⟩
      have hs2 : (upd H1 wa (.lst xs'.reverse)) sa = some (.lst ys) := (upd_ne sw).trans hs
      refine ⟨_, rfl, sa, ys, rfl, .inl (SqL.of hs2), ?_⟩
      refine ⟨_, rfl, .inl ⟨rfl, _, SqL.of hs2⟩, _, rfl, _, rfl, (by show 2 ≤ sizeLine; decide), fun tp ntp => ⟨sa, _, _, rfl, rfl, same_upd ntp _ _ hs2, Nat.lt_of_le_of_lt (show ys.length ≤ 10000 by rw [hS.1]; omega) (by decide), ?_⟩⟩
      have tpw : wa ≠ tp := fun e => by
        rw [← e, upd_same] at ntp
        cases ntp
      have tps : sa ≠ tp := fun e => by
        rw [← e, hs2] at ntp
        cases ntp
      have tpH1 : H1 tp = none := by rw [upd_ne tpw.symm] at ntp; exact ntp
      have smG : Same H (upd (upd (upd H1 wa (.lst xs'.reverse)) tp (.tup [.int ((a : Nat) : Int), .int ((i : Nat) : Int)])) sa (.lst (ys ++ [.ref tp]))) := same_fresh nsaH (fun b o e => same_upd ntp _ _ (same_fresh nwaH sm b o e))
      have hwG : (upd (upd (upd H1 wa (.lst xs'.reverse)) tp (.tup [.int ((a : Nat) : Int), .int ((i : Nat) : Int)])) sa (.lst (ys ++ [.ref tp]))) wa = some (.lst xs'.reverse) := by
        rw [upd_ne sw.symm, upd_ne tpw, upd_same]
      have tpG : (upd (upd (upd H1 wa (.lst xs'.reverse)) tp (.tup [.int ((a : Nat) : Int), .int ((i : Nat) : Int)])) sa (.lst (ys ++ [.ref tp]))) tp = some (.tup [.int ((a : Nat) : Int), .int ((i : Nat) : Int)]) := by
        rw [upd_ne tps.symm, upd_same]
      have hsG : (upd (upd (upd H1 wa (.lst xs'.reverse)) tp (.tup [.int ((a : Nat) : Int), .int ((i : Nat) : Int)])) sa (.lst (ys ++ [.ref tp]))) sa = some (.lst (ys ++ [.ref tp])) := upd_same
      have keep : ∀ b o, H1 b = some (.tup o) → (upd (upd (upd H1 wa (.lst xs'.reverse)) tp (.tup [.int ((a : Nat) : Int), .int ((i : Nat) : Int)])) sa (.lst (ys ++ [.ref tp]))) b = some (.tup o) := by
        intro b o e
        have b1 : b ≠ wa := fun z => by rw [z, hw] at e; cases e
        have b2 : b ≠ sa := fun z => by rw [z, hs] at e; cases e
        have b3 : b ≠ tp := fun z => by rw [z, tpH1] at e; cases e
        rw [upd_ne b2, upd_ne b3, upd_ne b1]
        exact e
      generalize upd (upd (upd H1 wa (.lst xs'.reverse)) tp (.tup [.int ((a : Nat) : Int), .int ((i : Nat) : Int)])) sa (.lst (ys ++ [.ref tp])) = G at smG hwG tpG hsG keep
      have hSG : StepsOk G (ys ++ [.ref tp]) (pl ++ [p1]) := StepsOk.snoc ⟨hS.1, fun n p e => let ⟨t, a, i, g1, g2, g3, g4⟩ := hS.2 n p e; ⟨t, a, i, g1, keep _ _ g2, g3, g4⟩⟩ tpG hl
      have hPG : PendOk K Hv G (pl ++ [p1]) xs' ps' := by
        by_cases e : pl = []
        · have := h1l e
          have e2 : ps' = [] := List.length_eq_zero_iff.mp (by simpa using this)
          subst e2
          cases hP'
          exact .nil
        · exact (hP'.more e p1).same keep
      have svG : Same Hv G := sv.trans smG
      have nonil : pl ++ [p1] ≠ [] := by simp
      have next : ∀ z3 z4 z5 z6, faultD d1 = none → ∃ (xs2 : List V) (ps2 : List (PyData × List Nat)) (ys2 : List V) (pl2 : List (List Nat)) (y3 y4 y5 y6 : Option V), [some v, some (.ref wa), some (.ref sa), z3, z4, z5, z6, none] = [some v, some (.ref wa), some (.ref sa), y3, y4, y5, y6, none] ∧ Same H G ∧ G wa = some (.lst xs2.reverse) ∧ G sa = some (.lst ys2) ∧
          PendOk K Hv G pl2 xs2 ps2 ∧ StepsOk G ys2 pl2 ∧ (pl2 = [] → ps2.length ≤ 1) ∧ faultP ps2 = faultD d ∧ pl2.length + szP ps2 ≤ 10000 ∧ szP ps2 < szP ((d1, p1) :: ps') := by
        intro z3 z4 z5 z6 e
        refine ⟨xs', ps', _, _, _, _, _, _, rfl, smG, hwG, hsG, hPG, hSG, fun z => absurd z nonil, ?_, ?_, ?_⟩
        · rw [← hf]
          simp only [faultP, e]
        · rw [List.length_append]
          show pl.length + 1 + _ ≤ _
          omega
        · rw [szP_cons]
          omega
      refine ⟨_, rfl, v1, .ty "list", .type (tyD d1), .type "list", _, rfl, .ty _, dp_ty (dp_same svG _ _ hd1), kitL d1 K, _, rfl, ?_⟩
      by_cases el : (tyD d1 == "list") = true
      · rw [el]
        refine iteT ?_
        cases hd1 with
        | @lst b xs1 es hb1 hes =>
          have hbG : SqL K G b xs1 := svG.seq hb1
          have hlen : xs1.length = es.length := DpAll.length hes
          have esz := szAll_len es
          have hz1 : szAll es + 1 + (pl.length + szP ps') ≤ 10000 := by
            simp only [sz] at hb
            omega
          have wlen : xs'.length ≤ 10000 := by
            have e1 := hP'.len
            have e2 := szP_len ps'
            omega
          refine ⟨_, rfl, .inl ⟨rfl, _, SqL.of hwG⟩, _, rfl, b, xs1, rfl, .inl hbG, _, _, rfl, rfl, _, rfl, _, rfl, _, _, _, xs1.length, rfl, ?_, fun D nD => lc_it walk_rangeC (fun k H' => ∃ ws, H' D = some (.lst ws) ∧ ws.length = k ∧ Same G H' ∧ PendOk K Hv H' (pl ++ [p1]) ws.reverse (kids (xs1.length - k) (es.drop (xs1.length - k)) p1)) ?_ (fun _ _ _ _ => trivial) ?_ ?_⟩
          · have e : (((xs1.length : Nat) : Int) - 1 - -1).toNat = xs1.length := by omega
            have big : xs1.length ≤ 10000 := by omega
            have g := RgC.neg (i := ((xs1.length : Nat) : Int) - 1) (j := -1) (by omega) (by omega) (by decide) (by decide)
            rw [e] at g
            exact g
          · refine ⟨[], upd_same, rfl, same_upd nD, ?_⟩
            rw [Nat.sub_zero, hlen, List.drop_length]
            exact .nil
          · rintro k x H2 _ hk ⟨ws, h1, h2, h3, h4⟩ ⟨rfl, hx⟩
            have hx' : x = .int ((xs1.length - 1 - k : Nat) : Int) := by
              rw [hx]
              show V.int (((xs1.length : Nat) : Int) - 1 + ((k : Nat) : Int) * -1) = _
              have : ((xs1.length : Nat) : Int) - 1 + ((k : Nat) : Int) * -1 = ((xs1.length - 1 - k : Nat) : Int) := by omega
              rw [this]
            subst hx'
            obtain ⟨j, hj⟩ : ∃ j, j = xs1.length - 1 - k := ⟨_, rfl⟩
            rw [← hj]
            have hjx : xs1[j]? = some xs1[j] := List.getElem?_eq_getElem (by omega)
            obtain ⟨e, he, hde⟩ := DpAll.get hes hjx
            refine ⟨rfl, _, rfl, _, rfl, b, xs1, _, _, rfl, rfl, h3.seq hbG, atI_nat hjx, _, rfl, _, rfl, (by show 3 ≤ sizeLine; decide), fun T nT => ⟨ws, same_upd nT _ _ h1, Nat.lt_of_le_of_lt (show ws.length ≤ 10000 by omega) (by decide), ws ++ [.ref T], upd_same, by simp [h2], same_fresh nD (h3.trans (same_upd nT)), ?_⟩⟩
            have TD : T ≠ D := fun z => by rw [z, h1] at nT; cases nT
            have ek : xs1.length - (k + 1) = j := by omega
            have ek2 : xs1.length - k = j + 1 := by omega
            rw [ek2] at h4
            have kd := kids_drop p1 0 es e j he
            rw [Nat.zero_add] at kd
            rw [ek, kd, List.reverse_append]
            refine .cons (t := T) (a := ys.length) (i := j) ?_ hde ⟨fun z => absurd z nonil, fun _ => ⟨p1, by rw [hS.1]; simp, rfl⟩⟩ (h4.same fun c o ec => ?_)
            · rw [upd_ne TD, upd_same]
            · have c1 : c ≠ D := fun z => by rw [z, h1] at ec; cases ec
              have c2 : c ≠ T := fun z => by rw [z, nT] at ec; cases ec
              rw [upd_ne c1, upd_ne c2]
              exact ec
          · rintro H2 ⟨ws, h1, h2, h3, h4⟩
            rw [Nat.sub_self] at h4
            have wl : ws.length ≤ 10000 := by omega
            refine ⟨wa, D, _, ws, rfl, rfl, h3 _ _ hwG, h1, Nat.le_trans (show xs'.reverse.length + ws.length ≤ 20000 by rw [List.length_reverse]; omega) (by decide), ?_⟩
            have kp : ∀ c o, H2 c = some (.tup o) → (upd H2 wa (.lst (xs'.reverse ++ ws))) c = some (.tup o) := fun c o ec => by
              have c1 : c ≠ wa := fun z => by rw [z, h3 _ _ hwG] at ec; cases ec
              rw [upd_ne c1]
              exact ec
            refine ⟨ws.reverse ++ xs', kids 0 es p1 ++ ps', ys ++ [.ref tp], pl ++ [p1], _, _, _, _, rfl, same_fresh nwaH (smG.trans h3), ?_, ?_, ?_, ?_, fun z => absurd z nonil, ?_, ?_, ?_⟩
            · rw [upd_same]
              simp
            · rw [upd_ne sw]
              exact h3 _ _ hsG
            · exact (PendOk.append h4 (hPG.same fun c o ec => h3 _ _ ec)).same kp
            · exact ⟨hSG.1, fun n p e => let ⟨t, a, i, g1, g2, g3, g4⟩ := hSG.2 n p e; ⟨t, a, i, g1, kp _ _ (h3 _ _ g2), g3, g4⟩⟩
            · rw [faultP_kids, ← hf]
              simp only [faultP, faultD]
            · rw [szP_append, szP_kids, List.length_append]
              show pl.length + 1 + _ ≤ _
              omega
            · rw [szP_append, szP_kids, szP_cons]
              simp only [sz]
              omega
        | _ => simp [tyD] at el
      · have el' : (tyD d1 == "list") = false := by simpa using el
        rw [el']
        refine iteF ?_
        by_cases en : d1 = .none
        · subst en
          cases hd1
          refine ⟨_, rfl, _, rfl, ?_⟩
          exact iteF (iteF (next _ _ _ _ rfl))
        · have nv : v1 ≠ .non := by
            intro z
            subst z
            cases hd1
            exact en rfl
          have ef := fault_leaf el' en
          refine ⟨_, rfl, _, rfl, iteNN nv ?_⟩
          refine ⟨_, rfl, v1, d1, Hv, rfl, svG, hd1, by omega, _, rfl, ?_⟩
          by_cases ei : isT d1 = true
          · rw [ei] at ef ⊢
            exact iteF (next _ _ _ _ ef)
          · have ei' : isT d1 = false := by simpa using ei
            rw [ei'] at ef ⊢
            refine iteT ?_
            have ef2 : faultD d1 = some [] := ef
            have ed : faultD d = some p1 := by
              rw [← hf]
              simp [faultP, ef2]
            refine ⟨_, rfl, sa, _, pl ++ [p1], pl.length, p1, rfl, SqL.of hsG, hSG, by simp, by omega, by simp, fun H' t2 s2 nt2 ht2 => ?_⟩
            exact q2 p1 ed H' t2 (smG.trans s2) (smG.free nt2) ht2 (Nat.le_trans (fault_len _ _ ed) hz)
end
end TX
namespace TX
open PySem PySem.Spec PyProof.Rows L2
structure Cl (K : PySem.W.Frag) (mg : Str → Option Value) (TE : Addr) (nm : Str) (C : Addr) : Prop where
  mgC : mg nm = some (.ref C)
  ox : OexC K C
  ec : ExcC K C
  xf : XfC K C
  ty : PySem.W.typeIn K (.ref C) = some (.type "type")
  mro : ∃ cd, PySem.W.clsIn K C = some cd ∧ cd.mro = [.ref C, .ref TE, .type "ValueError", .type "Exception", .type "BaseException", .type "object"]
theorem mro_is {K : PySem.W.Frag} {C : Addr} {cd : ClassData} {l : List Value} {b : Value} (h : PySem.W.clsIn K C = some cd) (e : cd.mro = l) (hl : l.isEmpty = false) : PySem.W.mroIn K C b = some (l.contains b) := by
  unfold PySem.W.mroIn
  rw [h]
  show (if cd.mro.isEmpty = true then none else some (cd.mro.contains b)) = _
  rw [e, hl, if_neg Bool.false_ne_true]
theorem ref_beq (a b : Addr) : (Value.ref a == Value.ref b) = decide (a = b) := by
  by_cases h : a = b
  · rw [h, decide_eq_true rfl]
    exact beq_self_eq_true _
  · rw [decide_eq_false h]
    exact beq_eq_false_iff_ne.mpr fun e => h (Value.ref.inj e)
section
variable {K : PySem.W.Frag} {mg : Str → Option Value} {TE C D : Addr} {nm nm' : Str}
theorem kit_same (c : Cl K mg TE nm C) : PySem.W.kitOne K (.ref C) (.ref C) = some true := by
  unfold PySem.W.kitOne
  rw [beq_self_eq_true, if_pos rfl]
theorem kit_cls (c : Cl K mg TE nm C) {cd : ClassData} (hd : PySem.W.clsIn K D = some cd) (ht : PySem.W.typeIn K (.ref D) = some (.type "type")) (hne : C ≠ D) : PySem.W.kitOne K (.ref C) (.ref D) = some (decide (D = TE)) := by
  obtain ⟨c1, h1, h2⟩ := c.mro
  have e1 : (Value.ref C == Value.ref D) = false := by
    rw [ref_beq]
    exact decide_eq_false hne
  have e2 : ((PySem.W.clsIn K D).isSome && PySem.W.typeIn K (.ref D) == some (.type "type")) = true := by
    rw [hd, ht]
    rfl
  unfold PySem.W.kitOne
  rw [e1, if_neg Bool.false_ne_true]
  show (if ((PySem.W.clsIn K D).isSome && PySem.W.typeIn K (.ref D) == some (.type "type")) = true then PySem.W.mroIn K C (.ref D) else none) = _
  rw [if_pos e2, mro_is h1 h2 rfl]
  have e3 : (Value.ref D == Value.ref C) = false := by
    rw [ref_beq]
    exact decide_eq_false (Ne.symm hne)
  simp only [List.contains_cons, e3, ref_beq, Bool.false_or]
  have f1 : (Value.ref D == Value.type "ValueError") = false := rfl
  have f2 : (Value.ref D == Value.type "Exception") = false := rfl
  have f3 : (Value.ref D == Value.type "BaseException") = false := rfl
  have f4 : (Value.ref D == Value.type "object") = false := rfl
  simp [f1, f2, f3, f4]
theorem kit_ve (c : Cl K mg TE nm C) : PySem.W.kitOne K (.ref C) (.type "ValueError") = some true := by
  obtain ⟨c1, h1, h2⟩ := c.mro
  unfold PySem.W.kitOne
  rw [show (Value.ref C == Value.type "ValueError") = false from rfl, if_neg Bool.false_ne_true]
  show (if PySem.W.kitMeta "ValueError" = true then PySem.W.mroIn K C (.type "ValueError") else none) = _
  rw [if_pos (by decide +kernel), mro_is h1 h2 rfl]
  have f0 : (Value.type "ValueError" == Value.ref C) = false := rfl
  have f1 : (Value.type "ValueError" == Value.ref TE) = false := rfl
  have f2 : (Value.type "ValueError" == Value.type "ValueError") = true := by decide +kernel
  simp only [List.contains_cons, f0, f1, f2, Bool.true_or, Bool.or_true]
/-- what «except TextorlistError» takes -/
theorem exm_te (c : Cl K mg TE nm C) (hs : PySem.W.subIn K (.ref TE) (.type "BaseException") = some true) (hd : PySem.W.hasDictIn K TE = true) (ht : PySem.W.typeIn K (.ref TE) = some (.type "type")) : PySem.W.exmOne K (.ref C) (.ref TE) = some true := by
  obtain ⟨c1, h1, h2⟩ := c.mro
  refine PySem.W.exm_ref hs hd ht ?_
  show PySem.W.mroIn K C (.ref TE) = _
  rw [mro_is h1 h2 rfl]
  have f1 : (Value.ref TE == Value.ref TE) = true := beq_self_eq_true _
  simp only [List.contains_cons, f1, Bool.true_or, Bool.or_true]
end
def rIsE3 (K : PySem.W.Frag) (a : Addr) (cls : Value) (d : Option Addr) : List V → Hp → VK → Prop := fun xs H Q => ∃ (D : Addr) (c : V) (cv : Value) (b : Bool), cls = .ref D ∧ ExcC K D ∧ xs = [.ref a, c] ∧ ClsV c cv ∧ PySem.W.kitOne K (.ref D) cv = some b ∧ (∀ dd, d = some dd → ∃ fs, H dd = some (.xd fs)) ∧ Q (.bl b) H
theorem call_isE3 {X : Cx} {a : Addr} {oe : Obj} {cls : Value} {d : Option Addr} {pn : List (Addr × Obj)} (hz : Zc cls d oe) (hf : ∃ vs, oe.data = .fields vs) : CallR (X.suite a ((a, oe) :: pn)) (.builtin "isinstance") (rIsE3 X.K a cls d) := by
  intro pins s σ H xs us Q I r h
  obtain ⟨D, c, cv, b, rfl, C, h1, h2, h3, h4, q⟩ := h
  exact call_isE2 C hz hf pins s σ H xs us Q I r ⟨c, cv, b, h1, h2, h3, h4, q⟩
theorem take0 {X : Cx} : Takes X (fun _ _ _ _ => False) := fun _ _ ⟨_, _, _, _, _, _, _, _, _, _, _, _, _, _, _, _, z⟩ => z.elim
/-- what the top's row of facts says of an error's class -/
theorem cl_of {K : PySem.W.Frag} {mg : Str → Option Value} {TE C : Addr} {x nm q : Str} {N : Addr} {bs : List Value} {sn : List Str} {sub : List Value} {ab : Bool} {col : Option Bool} {dd : Option Addr} {m0 m1 m2 m3 m5 : Option Value}
    (g : mg x = some (.ref C)) (l : K.lookup C = some (excClassObj nm q C N bs [.ref TE, .type "ValueError", .type "Exception", .type "BaseException", .type "object"] true sn sub ab col dd m0 m1 m2 m3 m5 "ValueError.__new__"))
    (sa : PySem.W.findIn K (.ref C) "__setattr__" = some (some (.builtin "object.__setattr__"))) (ga : PySem.W.findIn K (.ref C) "__getattribute__" = some (some (.builtin "BaseException.__getattribute__"))) (gg : PySem.W.findIn K (.ref C) "__getattr__" = some none)
    (ha : PySem.W.findIn K (.ref C) "__class__" = some (some (.builtin "object.__class__"))) (hn : PySem.W.specialIn K (.builtin "object.__class__") "__get__" = some (some (.builtin "getset_descriptor.__get__"))) (ht : PySem.W.takesIn K (.builtin "object.__class__") = some true)
    (kc : PySem.W.keepIn K (.ref C) = true) : Cl K mg TE x C := by
  have hc : ∃ cd, PySem.W.clsIn K C = some cd ∧ cd.mro = [.ref C, .ref TE, .type "ValueError", .type "Exception", .type "BaseException", .type "object"] ∧ cd.hasDict = true := by
    refine ⟨{ name := nm, bases := bs, mro := [.ref C, .ref TE, .type "ValueError", .type "Exception", .type "BaseException", .type "object"], ns := N, qualname := q, hasDict := true, slotNames := sn, subclasses := sub, abstract := ab, collection := col, hasDel := false }, ?_, ?_, ?_⟩
    · unfold PySem.W.clsIn
      rw [l] <;> rfl
    · rfl
    · rfl
  obtain ⟨cd, h1, h2, h3⟩ := hc
  have has : ∀ T : String, PySem.W.mroIn K C (.type T) = some ((Value.type T == Value.type "ValueError") || ((Value.type T == Value.type "Exception") || ((Value.type T == Value.type "BaseException") || ((Value.type T == Value.type "object") || false)))) := by
    intro T
    rw [mro_is h1 h2 rfl]
    have f0 : (Value.type T == Value.ref C) = false := rfl
    have f1 : (Value.type T == Value.ref TE) = false := rfl
    simp only [List.contains_cons, f0, f1, Bool.false_or, List.contains_nil]
  have sB : PySem.W.subIn K (.ref C) (.type "BaseException") = some true := (has "BaseException").trans (by decide +kernel)
  have sO : PySem.W.mroIn K C (.type "object") = some true := (has "object").trans (by decide +kernel)
  have hd : PySem.W.hasDictIn K C = true := by
    unfold PySem.W.hasDictIn
    rw [h1]
    exact h3
  have ty : PySem.W.typeIn K (.ref C) = some (.type "type") := by
    show (K.lookup C).map (·.cls) = _
    rw [l] <;> rfl
  exact ⟨g, ⟨⟨nm, q, N, bs, _, sn, sub, ab, col, dd, m0, m1, m2, m3, m5, l, rfl⟩, sa, sB, ty, kc⟩, ⟨ga, gg, sB, hd, ha, hn, ht, sO⟩, ⟨ga, gg, sB, hd⟩, ty, cd, h1, h2⟩
theorem passF {X : Cx} : Passes (L2.CX X.prog X.w) X (fun _ _ _ => False) := fun _ _ _ _ _ _ _ ⟨_, _, _, _, _, _, _, _, _, _, _, _, z⟩ => z.elim
/-- behind an __init__ of the fields fs: the error at a, its dict at dx -/
structure Made (K : PySem.W.Frag) (H : Hp) (a C dx : Addr) (fs : List (Str × V)) (H2 : Hp) (ws : List V) (ds : List PyData) : Prop where
  ea : H2 a = some (exo a C (some dx))
  ed : H2 dx = some (exd dx fs)
  new : H dx = none
  ne : dx ≠ a
  keep : ∀ b o, b ≠ a → H b = some o → H2 b = some o
  dat : DpAll K (del (del H2 a) dx) ws ds
def spIn1 (K : PySem.W.Frag) (C : Addr) (fld : Str) : Sp := fun vs H Q _ => ∃ (a : Addr) (v : V) (d : PyData) (Hv : Hp), vs = [.ref a, v] ∧ OexC K C ∧ PySem.W.findIn K (.ref C) fld = some none ∧ H a = some (exo a C none) ∧ Same Hv H ∧ Dp K Hv v d ∧ nd d ≤ 1000000 ∧
  ∀ (H2 : Hp) (dx : Addr) (w : V), Made K H a C dx [(fld, w)] H2 [w] [d] → Q .non H2
theorem cut_same {H H' : Hp} {a dx : Addr} {o : HO} {u u' : HO} (ha : H a = some o) (hd : H' dx = none) : Same (newp H H') (del (del (upd (upd H' dx u) a u') a) dx) := fun b x e => by
  cases h : H b with
  | some y =>
    rw [newp_old h] at e
    cases e
  | none =>
    rw [newp_at h] at e
    have ba : b ≠ a := fun z => by
      rw [z, ha] at h
      cases h
    have bd : b ≠ dx := fun z => by
      rw [z, hd] at e
      cases e
    rw [del_ne bd, del_ne ba, upd_ne ba, upd_ne bd]
    exact e
theorem made_same {K : PySem.W.Frag} {H H2 : Hp} {a C dx : Addr} {fs fs' : List (Str × V)} {ws : List V} {ds : List PyData} (na : H a = none) (M : Made K (upd H a (exo a C none)) a C dx fs H2 ws ds) :
    Same H (upd (del H2 a) dx (.xd fs')) ∧ H dx = none ∧ DpAll K (upd (del H2 a) dx (.xd fs')) ws ds := by
  have hd : H dx = none := by
    have e := M.new
    rw [upd_ne M.ne] at e
    exact e
  refine ⟨fun b o e => ?_, hd, dpAll_same (fun b o e => ?_) _ _ M.dat⟩
  · have ba := ne_of_none e na
    rw [upd_ne (ne_of_none e hd), del_ne ba]
    exact M.keep b o ba (by rw [upd_ne ba]; exact e)
  · by_cases hb : b = dx
    · rw [hb, del_same] at e
      cases e
    · rw [upd_ne hb]
      rw [del_ne hb] at e
      exact e
def tFe (K : PySem.W.Frag) (a : Addr) (cls : Value) (d : Option Addr) (f : Str) (te : TE) : TE := fun σ H Q => ∃ C, cls = .ref C ∧ XfC K C ∧ PySem.W.findIn K (.ref C) f = some none ∧ tXf a cls d C f te σ H Q
theorem pe_fe {X : Cx} {a : Addr} {oe : Obj} {cls : Value} {d : Option Addr} {pn : List (Addr × Obj)} {e : Expr} {te : TE} {pos : Pos} {n : Str} (hz : Zc cls d oe) (hf : ∃ vs, oe.data = .fields vs) (he : PE (X.suite a ((a, oe) :: pn)) e te)
    (hb : attributeBase e n X.env (eval e X.env) = eval e X.env := by rfl) : PE (X.suite a ((a, oe) :: pn)) (.Attribute e n pos) (tFe X.K a cls d n te) := by
  refine ⟨fun pins s σ H Q I h => ?_⟩
  obtain ⟨C, _, T, hno, h⟩ := h
  exact (pe_xf T hno hz hf he hb).run pins s σ H Q I h

def natD (p : List Nat) : List PyData := p.map fun i => PyData.int ((i : Nat) : Int)
theorem dp_nats {K : PySem.W.Frag} {H : Hp} : ∀ p : List Nat, DpAll K H (natV p) (natD p)
  | [] => .nil
  | i :: p => .cons (.int _) (dp_nats p)
theorem nd_nats : ∀ p : List Nat, ndAll (natD p) = p.length
  | [] => rfl
  | i :: p => by
    have := nd_nats p
    simp only [natD, List.map_cons, ndAll, nd, List.length_cons] at this ⊢
    omega
def spCheck (K : PySem.W.Frag) (BV : Addr) : Sp := fun vs H Q E => ∃ (v : V) (d : PyData) (Hv : Hp), vs = [v] ∧ Same Hv H ∧ Dp K Hv v d ∧ sz d ≤ 10000 ∧
  (faultD d = none → ∀ H', Same H H' → Q .non H') ∧ (∀ p, faultD d = some p → ∀ (H3 : Hp) (dx : Addr) (w : V), Same H H3 → H3 dx = some (.xd [("place", w)]) → Dp K H3 w (.tuple (natD p)) → E (.ref BV) (some dx) H3)
def spIsValue (K : PySem.W.Frag) : Sp := fun vs H Q _ => ∃ (v : V) (d : PyData) (Hv : Hp), vs = [v] ∧ Same Hv H ∧ Dp K Hv v d ∧ sz d ≤ 10000 ∧ ∀ H', Same H H' → Q (.bl (faultD d).isNone) H'
section
variable {P : Program} {w : World} {K : PySem.W.Frag} {mg : Str → Option Value} {base : Heap} {fC : Addr} {fdC : FuncData} {TE BV : Addr}
theorem scBv : FnScope ["self", "place"] ["self", "place"] (defScope mBadValue_init) := ⟨rfl, rfl, rfl, by decide +kernel, rfl, by decide +kernel, by decide +kernel⟩
theorem ok_inBv {f C : Addr} {fd : FuncData} (F : Fun K "__init__" "BadValue.__init__" mBadValue_init f fd) (GC : FnOk P w K mg base CX0 2 fC fdC ["thing"] (spCopy K)) (gC : mg "copy_of" = some (.ref fC)) (kC : PySem.W.keepIn K (.ref fC) = true) (bC : Binds K fdC ["thing"] []) :
    FnOk P w K mg base CX0 3 f fd ["self", "place"] (spIn1 K C "place") := by
  refine F.ok scBv (fun vs H Q E h => ?_) (fun cdv A outer s H vs Q E hr h => ?_)
  · obtain ⟨a, v, d, Hv, rfl, _⟩ := h
    rfl
  · obtain ⟨a, v, d, Hv, rfl, ox, no, ha, sv, hd, hn, q⟩ := h
    refine ⟨_, pss_one (ps_ost (pv 0) (pe_call GC hr (by rfl) gC kC bC .nil pass0 (pa_cons (pv 1) pa_nil))), ?_⟩
    refine ⟨_, rfl, v, d, Hv, rfl, sv, hd, hn, fun H' v' sm hv' => ⟨_, rfl, a, C, rfl, ox, no, .inl ⟨sm _ _ ha, fun dx ndx hne => ?_⟩⟩⟩
    refine q _ dx v' ⟨upd_same, by rw [upd_ne hne, upd_same], sm.free ndx, hne, fun b o hb e => ?_, .cons (dp_same (cut_same ha ndx) _ _ hv') .nil⟩
    rw [upd_ne hb, upd_ne (ne_of_none (sm _ _ e) ndx)]
    exact sm _ _ e
theorem scCheck : FnScope ["thing", "place"] ["thing"] (defScope s_check_value) := ⟨rfl, rfl, rfl, by decide +kernel, rfl, by decide +kernel, by decide +kernel⟩
theorem ok_check {f fF fI : Addr} {fd dF dI : FuncData} (F : Fun K "check_value" "check_value" s_check_value f fd) (c : Cl K mg TE "BadValue" BV) (iC : PySem.W.findIn K (.ref BV) "__init__" = some (some (.ref fI))) (tI : PySem.W.typeIn K (.ref fI) = some (.type "function")) (nP : PySem.W.findIn K (.ref BV) "place" = some none)
    (GI : FnOk P w K mg base CX0 3 fI dI ["self", "place"] (spIn1 K BV "place")) (bI : Binds K dI ["self", "place"] []) (GF : FnOk P w K mg base CX0 2 fF dF ["thing"] (spFault K)) (gF : mg "first_fault" = some (.ref fF)) (kF : PySem.W.keepIn K (.ref fF) = true) (bF : Binds K dF ["thing"] []) :
    FnOk P w K mg base (L2.CX P w) 5 f fd ["thing"] (spCheck K BV) := by
  refine F.okX scCheck (fun vs H Q E h => ?_) (fun cdv A outer s H vs Q E hr h => ?_)
  · obtain ⟨v, d, Hv, rfl, _⟩ := h
    rfl
  · obtain ⟨v, d, Hv, rfl, sv, hd, hz, q1, q2⟩ := h
    refine ⟨_, pss_cons (ps_set (i := 1) scCheck.nd rfl (.inl rfl) (pe_call GF (hr.mono (by decide)) (by rfl) gF kF bF .nil pass0 (pa_cons (pv 0) pa_nil))) <|
      pss_one (ps_if (pt_cmp (pc_notN (pv 1))) (pss_one (ps_raise rfl (takes_of rfl rfl rfl rfl) (by exact (pmk_oex c.ox iC tI GI hr bI .nil pass0 (by rfl) c.mgC (pa_cons (pv 1) pa_nil))))) pss_nil), ?_⟩
    refine ⟨_, rfl, v, d, Hv, rfl, sv, hd, hz, fun e H' sm => ?_, fun p e H' t sm nt ht hp => ?_⟩
    · exact ⟨_, rfl, _, rfl, iteNS rfl (q1 e H' sm)⟩
    · refine ⟨_, rfl, _, rfl, iteNN (fun z => nomatch z) ?_⟩
      refine ⟨_, rfl, (by show 1 ≤ 1000; decide), fun a na => ⟨a, .ref t, .tuple (natD p), H', rfl, c.ox, nP, upd_same, same_upd na, .tup (SqT.of ht) (dp_nats p), ?_, fun H2 dx w M => ?_⟩⟩
      · simp only [nd, nd_nats]
        omega
      · obtain ⟨s2, nx, hw⟩ := made_same (fs' := [("place", w)]) na M
        cases hw with
        | cons hw _ => exact ⟨rfl, dx, _, M.ea, M.ed, nx, q2 p e _ dx w (sm.trans s2) upd_same hw⟩
theorem scIsVal : FnScope ["thing"] ["thing"] (defScope s_is_value) := ⟨rfl, rfl, rfl, by decide +kernel, rfl, by decide +kernel, by decide +kernel⟩
theorem ok_isValue {f fF : Addr} {fd dF : FuncData} (F : Fun K "is_value" "is_value" s_is_value f fd) (GF : FnOk P w K mg base CX0 2 fF dF ["thing"] (spFault K)) (gF : mg "first_fault" = some (.ref fF)) (kF : PySem.W.keepIn K (.ref fF) = true) (bF : Binds K dF ["thing"] []) :
    FnOk P w K mg base CX0 3 f fd ["thing"] (spIsValue K) := by
  refine F.ok scIsVal (fun vs H Q E h => ?_) (fun cdv A outer s H vs Q E hr h => ?_)
  · obtain ⟨v, d, Hv, rfl, _⟩ := h
    rfl
  · obtain ⟨v, d, Hv, rfl, sv, hd, hz, q⟩ := h
    refine ⟨_, pss_one (ps_ret (pe_cmp (pc_isN (pe_call GF hr (by rfl) gF kF bF .nil pass0 (pa_cons (pv 0) pa_nil))))), ?_⟩
    refine ⟨_, rfl, v, d, Hv, rfl, sv, hd, hz, fun e H' sm => ?_, fun p e H' t sm nt ht hp => ?_⟩
    · have := q H' sm
      rw [e] at this
      exact this
    · have := q H' sm
      rw [e] at this
      exact this
end
end TX
namespace TX
open PySem PySem.Spec PyProof.Rows L2
/-! ### list(text) -/
def signV (z : Str) : List V := z.cps.toList.map fun c => V.str ⟨#[c]⟩
def signD (z : Str) : List PyData := z.cps.toList.map fun c => PyData.str ⟨#[c]⟩
theorem vals_get : ∀ (l : List V) (m : List Value), l.length = m.length → (∀ (j : Nat) v u, l[j]? = some v → m[j]? = some u → RelV v u) → Vals l m
  | [], [], _, _ => .nil
  | v :: l, u :: m, e, h => .cons (h 0 v u rfl rfl) (vals_get l m (by simpa using e) fun j a b ha hb => h (j + 1) a b (by simpa using ha) (by simpa using hb))
theorem call_list_s {X : Cx} (hc : X.calm = true) : CallR X (.type "list") (fun xs H Q => ∃ z : Str, xs = [.str z] ∧ z.length ≤ sizeLine ∧ ∀ l, H l = none → Q (.ref l) (upd H l (.lst (signV z)))) := by
  intro pins s σ H xs us Q I r h
  obtain ⟨z, rfl, hz, q⟩ := h
  obtain ⟨u, rfl, t, rfl⟩ := vals1 r
  have nf : H s.heap.objs.size = none := I.hok.fresh (Nat.le_refl _)
  refine call_list_str (I.ok.hd hc) z t (hn := hz) fun h' tk acc c' hk hS hacc => ⟨.ref _, _, I.laid (t' := tk) (o := .lst (signV z)) hk (Nat.le_refl _) ⟨?_, acc.toList, c', ?_, ?_⟩, rfl, q _ nf⟩
  · unfold signV
    rw [List.length_map]
    exact hz
  · refine vals_get _ _ ?_ fun j v u hv hu => ?_
    · unfold signV
      rw [List.length_map]
      have e := hacc.1
      simp only [Array.length_toList]
      omega
    · obtain ⟨c, t2, hc2, rfl⟩ := hacc.2 j u (by simpa using hu)
      have e : (signV z)[j]? = some (V.str ⟨#[c]⟩) := by
        unfold signV
        rw [List.getElem?_map]
        have e2 : z.cps.toList[j]? = some c := by simpa using hc2
        rw [e2]
        rfl
      rw [e] at hv
      cases hv
      exact ⟨t2, rfl⟩
  · simpa using hS
theorem dp_signs {K : PySem.W.Frag} {H : Hp} (z : Str) : DpAll K H (signV z) (signD z) := by
  unfold signV signD
  induction z.cps.toList with
  | nil => exact .nil
  | cons c l ih => exact .cons (.str _) ih

theorem in_alpha (c : Nat) : inV (.str ⟨#[c]⟩) (signV alphaS) = ltC c := by
  have e : signV alphaS = (List.range 26).map fun i => V.str ⟨#[i + 97]⟩ := by decide +kernel
  unfold inV
  rw [e, List.any_map]
  have f : ∀ i : Nat, ((fun y => eqV y (V.str ⟨#[c]⟩)) ∘ fun i => V.str ⟨#[i + 97]⟩) i = decide (i + 97 = c) := by
    intro i
    show ((⟨#[i + 97]⟩ : Str) == ⟨#[c]⟩) = _
    by_cases h : i + 97 = c
    · subst h
      rw [decide_eq_true rfl]
      exact beq_self_eq_true _
    · rw [decide_eq_false h]
      refine beq_eq_false_iff_ne.mpr fun z => h ?_
      have := congrArg (fun s : Str => s.cps.toList) z
      simpa using this
  unfold ltC
  by_cases h : 97 ≤ c ∧ c ≤ 122
  · rw [decide_eq_true h, List.any_eq_true]
    exact ⟨c - 97, List.mem_range.mpr (by omega), by rw [f]; exact decide_eq_true (by omega)⟩
  · rw [decide_eq_false h]
    refine Bool.eq_false_iff.mpr fun z => h ?_
    obtain ⟨i, hi, e2⟩ := List.any_eq_true.mp z
    rw [f] at e2
    have e3 := of_decide_eq_true e2
    have := List.mem_range.mp hi
    omega
def wrongD (d : PyData) : PyData := match faultD d with
  | none => .list []
  | some p => .list [.tuple (natD p)]
def spWrong (K : PySem.W.Frag) (N : Nat) : Sp := fun vs H Q _ => ∃ (v : V) (d : PyData) (Hv : Hp), vs = [v] ∧ Same Hv H ∧ Dp K Hv v d ∧ sz d ≤ 10000 ∧ d.depth ≤ N ∧
  (faultD d = none → ∀ H' l, Same H H' → H' l = some (.lst []) → Q (.ref l) H') ∧
  (∀ p, faultD d = some p → ∀ H' l t, Same H H' → H' l = some (.lst [.ref t]) → H' t = some (.tup (natV p)) → Q (.ref l) H')
theorem lay_nats : ∀ p : List Nat, PyData.canLayAll0 (natD p) = true
  | [] => rfl
  | i :: p => by
    have := lay_nats p
    simp only [natD, List.map_cons, PyData.canLayAll0, PyData.canLay0, Bool.true_and] at this ⊢
    exact this
theorem dep_nats : ∀ p : List Nat, PyData.depthAll (natD p) = 0
  | [] => rfl
  | i :: p => by
    have := dep_nats p
    simp only [natD, List.map_cons, PyData.depthAll, PyData.depth] at this ⊢
    omega
theorem shaped_wrong (p : List Nat) : SeqAt.shaped (.list [.tuple (natD p)]) = true := by
  unfold SeqAt.shaped
  rw [Bool.and_eq_true]
  refine ⟨?_, decide_eq_true ?_⟩
  · simp only [PyData.canLay0, PyData.canLayAll0, lay_nats, Bool.and_self]
  · simp only [PyData.depth, PyData.depthAll, dep_nats]
    omega
theorem drop_at {es : List PyData} {i : Nat} {e : PyData} (h : es[i]? = some e) : es.drop i = e :: es.drop (i + 1) := by
  obtain ⟨hj, e1⟩ := List.getElem?_eq_some_iff.mp h
  rw [List.drop_eq_getElem_cons hj, e1]
section
variable {P : Program} {w : World} {K : PySem.W.Frag} {mg : Str → Option Value} {base : Heap}
theorem scWrong : FnScope ["_law_thing", "_law_at", "_law_one", "_law_found", "_law_is_word", "_law_sign"] ["_law_thing"] (defScope s__law_wrong) := ⟨rfl, rfl, rfl, by decide +kernel, rfl, by decide +kernel, by decide +kernel⟩
theorem ok_wrong1 {f : Addr} {fd : FuncData} (F : Fun K "_law_wrong" "_law_wrong" s__law_wrong f fd) (T : Nm mg) (k : Nk mg) (B : Nb mg) (al : mg "all" = none) (b : Binds K fd ["_law_thing"] []) (g : mg "_law_wrong" = some (.ref f)) (N : Nat) (G : ∀ j : { M : Nat // M + 1 = N }, FnOk P w K mg base CX0 (j.1 + 1) f fd ["_law_thing"] (spWrong K j.1)) :
    FnOk P w K mg base CX0 (N + 1) f fd ["_law_thing"] (spWrong K N) := by
  refine F.ok scWrong (fun vs H Q E h => ?_) (fun cdv A outer s H vs Q E hr h => ?_)
  · obtain ⟨v, d, Hv, rfl, _⟩ := h
    rfl
  · obtain ⟨v, d, Hv, rfl, sv, hd, hz, hn, q1, q2⟩ := h
    have hrR : ∀ j : { M : Nat // M + 1 = N }, Room (j.1 + 1) _ := fun j => hr.mono (by have := j.2; omega)
    refine ⟨_, pss_cons (ps_if (pt_val (pe_callB call_isi (by rfl) T.isi (by decide +kernel) (pa_cons (pv 0) (pa_cons (pe_bltn (v := .ty "list") (by rfl) T.lst (by decide +kernel) rfl) pa_nil)))) (
        pss_cons (ps_for PassesOwn.never rfl (pi_enum (by rfl) B.enum (pa_cons (pv 0) pa_nil)) (pg_tup rfl (pgs_cons (pg_name (i := 1) scWrong.nd rfl (.inl rfl)) (pgs_cons (pg_name (i := 2) scWrong.nd rfl (.inl rfl)) pgs_nil))) (
          pss_cons (ps_set (i := 3) scWrong.nd rfl (.inl rfl) (pe_ex fun j => pe_call (G j) (hrR j) (by rfl) g F.kp b .nil pass0 (pa_cons (pv 2) pa_nil))) <|
          pss_one (ps_if (pt_cmpR (op_neD hr.units) (pv 3) (pe_lst pa_nil) (nomark _))
            (pss_one (ps_ret (pe_lst (pa_cons (pe_op op_catT (pe_tup (pa_cons (pv 1) pa_nil)) (pe_ix ix_list (pv 3) pe_int (fun _ _ => rfl))) pa_nil)))) pss_nil))) <|
        pss_one (ps_ret (pe_lst pa_nil))) pss_nil) <|
      pss_cons (ps_if (pt_cmp (pc_isN (pv 0))) (pss_one (ps_ret (pe_lst pa_nil))) pss_nil) <|
      pss_cons (ps_set (i := 4) scWrong.nd rfl (.inl rfl) (pe_and (pe_callB call_isi (by rfl) T.isi (by decide +kernel) (pa_cons (pv 0) (pa_cons (pe_bltn (v := .ty "str") (by rfl) k.str (by decide +kernel) rfl) pa_nil)))
        (pe_one (pe_callB (cr_all rfl) (by rfl) al (by decide +kernel) (pa_cons (pe_lc (own := [("_law_sign", 5)]) (g := gName 5) (tt := tYes)
          (te := tOp (rIn K false) (tVar 5) (tCB (fun xs H Q => ∃ z : Str, xs = [.str z] ∧ z.length ≤ sizeLine ∧ ∀ l, H l = none → Q (.ref l) (upd H l (.lst (signV z)))) (tCons (tC (.str alphaS)) tNil)))
          rfl scWrong.nd (pi_str (pv 0)) (blkOk_by (own := [("_law_sign", 5)]) (N := ["_law_thing", "_law_at", "_law_one", "_law_found", "_law_is_word", "_law_sign"]) (sc := defScope s__law_wrong) (by decide +kernel)) (fun _ _ _ _ _ => pg_name (i := 5) scWrong.nd rfl (Or.inl rfl)) (fun _ _ _ _ _ => pts_nil)
          (fun _ _ _ _ _ => pe_cmpR op_in_seq (pv 5) (pe_callTy (call_list_s rfl) (by rfl) T.lst (by decide +kernel) (pa_cons pe_str pa_nil)) (by rfl))) pa_nil))))) <|
      pss_one (ps_ret (pe_ifExp (pt_val (pv 4)) (pe_lst pa_nil) (pe_lst (pa_cons (pe_tup pa_nil) pa_nil)))), ?_⟩
    have ty : ∀ {G : Hp}, Same H G → TyX K G v (.type (tyD d)) := fun sm => dp_ty (dp_same (sv.trans sm) _ _ hd)
    refine ⟨_, rfl, v, .ty "list", .type (tyD d), .type "list", _, rfl, .ty _, ty (Same.refl _), kitL d K, _, rfl, ?_⟩
    by_cases el : (tyD d == "list") = true
    · rw [el]
      refine iteT ?_
      cases hd with
      | @lst b xs es h1 h2 =>
        have hl : xs.length = es.length := DpAll.length h2
        have hz2 : PyData.depthAll es + 1 ≤ N := by
          simp only [PyData.depth] at hn
          omega
        have hn2 : szAll es + 1 ≤ 10000 := by simpa only [sz] using hz
        have ef : faultD (.list es) = faultAll 0 es := by simp only [faultD]
        refine ⟨_, rfl, b, xs, rfl, sv.seq h1, for_it (walk_enum (K := K) (a := b) (xs := xs)) (fun i σ H1 => ∃ y1 y2 y3, σ = [some (.ref b), y1, y2, y3, none, none] ∧ Same H H1 ∧ faultAll i (es.drop i) = faultAll 0 es) ⟨_, _, _, rfl, Same.refl _, rfl⟩ (fun i σ H1 hi ⟨_, _, _, _, sm, _⟩ => (sv.trans sm).seq h1) ?_ ?_⟩
        · rintro i x σ H1 H1' hi ⟨y1, y2, y3, rfl, sm, hf⟩ ⟨T0, a0, b0, rfl, nT, rfl, ea, eb⟩
          cases ea
          obtain ⟨e, he, hde⟩ := DpAll.get h2 eb
          have smT : Same H (upd H1 T0 (.tup [.int ((i : Nat) : Int), b0])) := sm.trans (same_upd nT)
          have hT0 : (upd H1 T0 (.tup [.int ((i : Nat) : Int), b0])) T0 = some (.tup [.int ((i : Nat) : Int), b0]) := upd_same
          generalize upd H1 T0 (.tup [.int ((i : Nat) : Int), b0]) = G1 at smT hT0
          rw [drop_at he] at hf
          refine ⟨T0, _, rfl, SqT.of hT0, rfl, _, _, rfl, _, _, rfl, rfl, ?_⟩
          refine ⟨⟨N - 1, by omega⟩, _, rfl, b0, e, Hv, rfl, sv.trans smT, hde, Nat.le_trans (sz_get he) (by omega), Nat.le_trans (depth_get he) (by show _ ≤ N - 1; omega), fun en H2 l sm2 hl2 => ?_, fun p en H2 l t sm2 hl2 ht => ?_⟩
          · refine ⟨_, rfl, by decide, fun l2 nl2 => ?_⟩
            refine ⟨.list [], .list [], .lst (SqL.of (same_upd nl2 _ _ hl2)) .nil, .lst (SqL.of upd_same) .nil, by decide +kernel, by decide +kernel, _, rfl, ?_⟩
            have e0 : PyData.eqv (.list []) (.list []) = true := by decide +kernel
            rw [e0]
            refine iteF ⟨_, _, _, rfl, (smT.trans sm2).trans (same_upd nl2), ?_⟩
            rw [← hf]
            simp only [faultAll, en]
          · refine ⟨_, rfl, by decide, fun l2 nl2 => ?_⟩
            refine ⟨.list [.tuple (natD p)], .list [], .lst (SqL.of (same_upd nl2 _ _ hl2)) (.cons (.tup (SqT.of (same_upd nl2 _ _ ht)) (dp_nats p)) .nil), .lst (SqL.of upd_same) .nil, shaped_wrong p, by decide +kernel, _, rfl, ?_⟩
            have e0 : PyData.eqv (.list [.tuple (natD p)]) (.list []) = false := by simp [PyData.eqv, PyData.eqvAll]
            rw [e0]
            refine iteT ?_
            have hl3 := same_upd (o := .lst []) nl2 _ _ hl2
            have ht3 := same_upd (o := .lst []) nl2 _ _ ht
            have sm3 : Same H (upd H2 l2 (.lst [])) := (smT.trans sm2).trans (same_upd nl2)
            generalize upd H2 l2 (.lst []) = G2 at hl3 ht3 sm3
            have fin : faultD (.list es) = some (i :: p) := by
              rw [ef, ← hf]
              simp only [faultAll, en]
            have pl : p.length ≤ 10000 := by
              have := fault_len _ _ fin
              simp only [List.length_cons] at this
              omega
            refine ⟨_, rfl, (by show 1 ≤ sizeLine; decide), fun T2 nT2 => ⟨_, rfl, l, _, _, _, rfl, rfl, SqL.of (same_upd nT2 _ _ hl3), atI_nat (j := 0) rfl, T2, t, _, natV p, rfl, rfl, SqT.of upd_same, SqT.of (same_upd nT2 _ _ ht3), by simp, ?_, fun z => ?_, fun z T3 nT3 => ?_⟩⟩
            · unfold natV
              rw [List.length_map]
              exact Nat.le_trans (show 1 + p.length ≤ 10001 by omega) (by decide)
            · refine ⟨(by show 1 ≤ sizeLine; decide), fun l3 nl3 => ?_⟩
              have p0 : p = [] := by
                unfold natV at z
                exact List.map_eq_nil_iff.mp z
              subst p0
              exact q2 [i] fin _ l3 T2 ((sm3.trans (same_upd nT2)).trans (same_upd nl3)) upd_same (same_upd nl3 _ _ upd_same)
            · refine ⟨(by show 1 ≤ sizeLine; decide), fun l3 nl3 => ?_⟩
              exact q2 (i :: p) fin _ l3 T3 (((sm3.trans (same_upd nT2)).trans (same_upd nT3)).trans (same_upd nl3)) upd_same (same_upd nl3 _ _ upd_same)
        · rintro σ H1 ⟨y1, y2, y3, rfl, sm, hf⟩
          refine ⟨by decide, fun l nl => q1 ?_ _ l (sm.trans (same_upd nl)) upd_same⟩
          rw [ef, ← hf, hl, List.drop_length]
          rfl
      | _ => simp [tyD] at el
    · have el' : (tyD d == "list") = false := by simpa using el
      rw [el']
      refine iteF ?_
      by_cases en : d = .none
      · subst en
        cases hd
        refine ⟨_, rfl, _, rfl, iteT ⟨by decide, fun l nl => q1 rfl _ l (same_upd nl) upd_same⟩⟩
      · have nv : v ≠ .non := by
          intro z
          subst z
          cases hd
          exact en rfl
        have ef := fault_leaf el' en
        refine ⟨_, rfl, _, rfl, ?_⟩
        rw [decide_eq_false nv]
        refine iteF ?_
        -- is it a word
        have last : ∀ (G : Hp) y5, Same H G → tRet (tIf (tB (tVar 4)) (tLst tNil) (tLst (tCons (tTup tNil) tNil))) { nx := fun _ H' => Q .non H', rt := Q } [some v, none, none, none, some (.bl (isT d)), y5] G := by
          intro G y5 sm
          refine ⟨_, rfl, _, rfl, ?_⟩
          by_cases ei : isT d = true
          · rw [ei] at ef ⊢
            exact iteT ⟨by decide, fun l nl => q1 ef _ l (sm.trans (same_upd nl)) upd_same⟩
          · have ei' : isT d = false := by simpa using ei
            rw [ei'] at ef ⊢
            exact iteF ⟨by decide, fun T0 nT => ⟨(by show 1 ≤ sizeLine; decide), fun l nl => q2 [] ef _ l T0 ((sm.trans (same_upd nT)).trans (same_upd nl)) upd_same (same_upd nl _ _ upd_same)⟩⟩
        refine ⟨_, rfl, v, .ty "str", .type (tyD d), .type "str", _, rfl, .ty _, ty (Same.refl _), kitS d K, _, rfl, ?_⟩
        by_cases es : (tyD d == "str") = true
        · rw [es]
          refine iteT ?_
          cases hd with
          | str x =>
            have hx : x.length ≤ 10000 := by
              simp only [sz] at hz
              omega
            have xl : x.cps.size = x.length := rfl
            refine ⟨_, rfl, x, rfl, fun D nD => lc_it (walk_str (z := x)) (fun n H' => H' D = some (.lst (((x.cps.toList.take n).map ltC).map V.bl)) ∧ Same H H') ⟨upd_same, same_upd nD⟩ (fun _ _ _ _ => trivial) ?_ ?_⟩
            · rintro n v H1 _ hn ⟨k1, k2⟩ ⟨rfl, c, hc, rfl⟩
              refine ⟨rfl, _, rfl, alphaS, rfl, (by show 26 ≤ sizeLine; decide), fun l nl => ⟨l, _, rfl, .inl (SqL.of upd_same), rfl, by decide +kernel, _, same_upd nl _ _ k1, Nat.lt_of_le_of_lt (show (((x.cps.toList.take n).map ltC).map V.bl).length ≤ 10000 by rw [List.length_map, List.length_map, List.length_take]; omega) (by decide), ?_, same_fresh nD (k2.trans (same_upd nl))⟩⟩
              have hc2 : x.cps.toList[n]? = some c := by simpa using hc
              rw [upd_same, List.take_add_one, hc2, List.map_append, List.map_append]
              show some (HO.lst (_ ++ [V.bl (inV (.str ⟨#[c]⟩) (signV alphaS))])) = _
              rw [in_alpha]
              rfl
            · rintro H1 ⟨k1, k2⟩
              have et : x.cps.toList.take x.cps.size = x.cps.toList := List.take_of_length_le (by simp)
              rw [et] at k1
              refine ⟨D, _, rfl, SqL.of k1, ?_⟩
              have ea : ((x.cps.toList.map ltC).all id) = isT (.str x) := by
                show _ = x.cps.toList.all ltC
                rw [List.all_map]
                rfl
              rw [ea]
              exact last H1 _ k2
          | _ => simp [tyD] at es
        · have es' : (tyD d == "str") = false := by simpa using es
          rw [es']
          refine iteF ?_
          have no : isT d = false := by
            cases d with
            | str x => simp [tyD] at es'
            | _ => rfl
          have := last H none (Same.refl _)
          rw [no] at this
          exact this
theorem ok_wrong {f : Addr} {fd : FuncData} (F : Fun K "_law_wrong" "_law_wrong" s__law_wrong f fd) (T : Nm mg) (k : Nk mg) (B : Nb mg) (al : mg "all" = none) (b : Binds K fd ["_law_thing"] []) (g : mg "_law_wrong" = some (.ref f)) : ∀ N : Nat, FnOk P w K mg base CX0 (N + 1) f fd ["_law_thing"] (spWrong K N)
  | 0 => ok_wrong1 F T k B al b g 0 fun j => absurd j.2 (by omega)
  | N + 1 => ok_wrong1 F T k B al b g (N + 1) fun ⟨M, e⟩ => by
    have e2 : M = N := by omega
    subst e2
    exact ok_wrong F T k B al b g M
end
end TX
namespace TX
open PySem PySem.Spec PyProof.Rows L2
def rIsT3 (K : PySem.W.Frag) (a : Addr) (cls : Value) (d : Option Addr) : List V → Hp → VK → Prop := fun xs H Q => ∃ (D : Addr), cls = .ref D ∧ ExcC K D ∧ rIsET K D a d xs H Q
theorem call_isT3 {X : Cx} {a : Addr} {oe : Obj} {cls : Value} {d : Option Addr} {pn : List (Addr × Obj)} (hz : Zc cls d oe) (hf : ∃ vs, oe.data = .fields vs) : CallR (X.suite a ((a, oe) :: pn)) (.builtin "isinstance") (rIsT3 X.K a cls d) := by
  intro pins s σ H xs us Q I r h
  obtain ⟨D, rfl, C, h⟩ := h
  exact call_isET C hz hf pins s σ H xs us Q I r h
theorem kit_two {K : PySem.W.Frag} {t a b : Value} (h1 : PySem.W.kitOne K t a = some false) (h2 : PySem.W.kitOne K t b = some false) : PySem.W.kitAny K t [a, b] = some false := by
  unfold PySem.W.kitAny
  rw [h1]
  show PySem.W.kitAny K t [b] = _
  unfold PySem.W.kitAny
  rw [h2]
  rfl
structure Nt (mg : Str → Option Value) : Prop where
  ve : mg "ValueError" = none
def spTold (K : PySem.W.Frag) : Sp := fun vs H Q _ => ∃ (v : V) (d : PyData) (Hv : Hp), vs = [v] ∧ Same Hv H ∧ Dp K Hv v d ∧ sz d ≤ 10000 ∧ ∀ H' l, Same H H' → Dp K H' (.ref l) (wrongD d) → Q (.ref l) H'
def tSuiteT (K : PySem.W.Frag) (TE NP BP : Addr) : Addr → Value → Option Addr → TS := fun a cls d =>
  tSeq (tAsg (tAndV (tCB (rIsE3 K a cls d) (tCons (tVar 2) (tCons (tC (.ref TE)) tNil))) (tCB (rIsE3 K a cls d) (tCons (tVar 2) (tCons (tC (.ty "ValueError")) tNil)))) (gName 3))
    (tRet (tIf (tAnd (tB (tVar 3)) (tNot (tB (tCB (rIsT3 K a cls d) (tCons (tVar 2) (tCons (tTup (tCons (tC (.ref NP)) (tCons (tC (.ref BP)) tNil))) tNil)))))) (tLst (tCons (tFe K a cls d "place" (tVar 2)) tNil)) (tLst (tCons (tC (.str "class")) tNil))))
section
variable {P : Program} {w : World} {K : PySem.W.Frag} {mg : Str → Option Value} {base : Heap} {TE BV NP BP : Addr}
theorem scTold : FnScope ["_law_thing", "_law_answer", "e", "_law_is_right"] ["_law_thing"] (defScope sTold) := ⟨rfl, rfl, rfl, by decide +kernel, rfl, by decide +kernel, by decide +kernel⟩
theorem ok_told {f fO : Addr} {fd fdO : FuncData} (F : Fun K "_law_told" "_law_told" sTold f fd) (T : Nm mg) (Z : Nt mg) (c : Cl K mg TE "BadValue" BV) (c1 : Cl K mg TE "NoPlace" NP) (c2 : Cl K mg TE "BadProgram" BP) (nP : PySem.W.findIn K (.ref BV) "place" = some none) (gTE : mg "TextorlistError" = some (.ref TE)) {cdT : ClassData} (hT : PySem.W.clsIn K TE = some cdT) (tT : PySem.W.typeIn K (.ref TE) = some (.type "type"))
    (n0 : BV ≠ TE) (n1 : BV ≠ NP) (n2 : BV ≠ BP) (m1 : NP ≠ TE) (m2 : BP ≠ TE) (GO : FnOk P w K mg base (L2.CX P w) 5 fO fdO ["thing"] (spCheck K BV)) (gO : mg "check_value" = some (.ref fO)) (kO : PySem.W.keepIn K (.ref fO) = true) (bO : Binds K fdO ["thing"] []) : FnOk P w K mg base CX0 6 f fd ["_law_thing"] (spTold K) := by
  refine F.ok scTold (fun vs H Q E h => ?_) (fun cdv A outer s H vs Q E hr h => ?_)
  · obtain ⟨v, d, Hv, rfl, _⟩ := h
    rfl
  · obtain ⟨v, d, Hv, rfl, sv, hd, hz, q⟩ := h
    refine ⟨_, pss_cons (ps_try_as (i := 2) (tb := fun W => tAsg (tCallS (spCheck K BV) (WE W) (tCons (tVar 0) tNil)) (gName 1)) (ts := tSuiteT K TE NP BP) (Wout := fun _ _ _ _ => False) rfl rfl scTold.nd rfl rfl ⟨rfl, by decide, Or.inl c.mgC⟩ take0
        (fun W pn xe tk _ => pss_one (ps_set (i := 1) scTold.nd rfl (.inl rfl) (by exact (pe_callS GO hr rfl gO kO bO (fun σ => passAt tk σ) (by exact (pa_cons (pv 0) pa_nil))))))
        (fun a oe cls d pn hz hf => pss_cons (ps_set (i := 3) scTold.nd rfl (.inl rfl) (pe_and (pe_callB (call_isE3 hz hf) (by rfl) T.isi (by decide +kernel) (pa_cons (pv 2) (pa_cons (pe_glob (v := .ref TE) (by rfl) gTE rfl) pa_nil)))
            (pe_one (pe_callB (call_isE3 hz hf) (by rfl) T.isi (by decide +kernel) (pa_cons (pv 2) (pa_cons (pe_bltn (v := .ty "ValueError") (by rfl) Z.ve (by decide +kernel) rfl) pa_nil))))))
          (pss_one (ps_ret (pe_ifExp (PW.pt (pw_and (pt_val (pv 3)) (pw_and1 (pt_not (pt_val (pe_callB (call_isT3 hz hf) (by rfl) T.isi (by decide +kernel) (pa_cons (pv 2) (pa_cons (pe_tup (pa_cons (pe_glob (v := .ref NP) (by rfl) c1.mgC rfl) (pa_cons (pe_glob (v := .ref BP) (by rfl) c2.mgC rfl) pa_nil))) pa_nil))))))))
            (pe_lst (pa_cons (pe_fe hz hf (pv 2)) pa_nil)) (pe_lst (pa_cons pe_str pa_nil)))))))
      (pss_one (ps_ret (pe_ifExp (pt_cmp (pc_isN (pv 1))) (pe_lst pa_nil) (pe_lst (pa_cons pe_str pa_nil))))), ?_⟩
    obtain ⟨cd1, hc1, hm1⟩ := c1.mro
    obtain ⟨cd2, hc2, hm2⟩ := c2.mro
    have kT : PySem.W.kitOne K (.ref BV) (.ref TE) = some true := (kit_cls c hT tT n0).trans (by rw [decide_eq_true rfl])
    have kN : PySem.W.kitOne K (.ref BV) (.ref NP) = some false := (kit_cls c hc1 c1.ty n1).trans (by rw [decide_eq_false m1])
    have kB : PySem.W.kitOne K (.ref BV) (.ref BP) = some false := (kit_cls c hc2 c2.ty n2).trans (by rw [decide_eq_false m2])
    have self : PySem.W.exmOne K (.ref BV) (.ref BV) = some true := by
      refine PySem.W.exm_ref c.ec.hs c.ec.hd c.ty ?_
      obtain ⟨cd, hc, hm⟩ := c.mro
      show PySem.W.mroIn K BV (.ref BV) = _
      rw [mro_is hc hm rfl]
      have f1 : (Value.ref BV == Value.ref BV) = true := beq_self_eq_true _
      simp only [List.contains_cons, f1, Bool.true_or]
    refine ⟨_, rfl, v, d, Hv, rfl, sv, hd, hz, fun e H' sm => ?_, fun p e H3 dx w3 sm hx hw => ?_⟩
    · refine ⟨_, rfl, _, rfl, iteT ⟨by decide, fun l nl => q _ l (sm.trans (same_upd nl)) ?_⟩⟩
      unfold wrongD
      rw [e]
      exact .lst (SqL.of upd_same) .nil
    · refine ⟨true, self, fun _ a na => ?_, fun z => nomatch z⟩
      have xd : ∀ {G : Hp}, Same H3 G → ∀ dd, some dx = some dd → ∃ fs, G dd = some (.xd fs) := fun sm dd z => ⟨_, Option.some.inj z ▸ sm _ _ hx⟩
      refine ⟨_, rfl, BV, _, _, _, rfl, c.ec, rfl, .own _, kT, xd (Same.refl _), _, rfl, iteT ⟨_, rfl, BV, _, _, _, rfl, c.ec, rfl, .ty _, kit_ve c, xd (Same.refl _), ?_⟩⟩
      refine ⟨_, rfl, _, rfl, iteT ?_⟩
      refine ⟨_, rfl, (by show 2 ≤ sizeLine; decide), fun t nt => ⟨BV, rfl, c.ec, t, _, _, false, rfl, upd_same, .cons (.own _) (.cons (.own _) .nil), kit_two kN kB, xd (same_upd nt), _, rfl, iteT ?_⟩⟩
      refine ⟨BV, rfl, c.xf, nP, _, rfl, rfl, rfl, dx, _, w3, rfl, same_upd nt _ _ hx, rfl, (by show 1 ≤ sizeLine; decide), fun l nl => q _ l ((sm.trans (same_upd nt)).trans (same_upd nl)) ?_⟩
      unfold wrongD
      rw [e]
      exact .lst (SqL.of upd_same) (.cons (dp_same ((same_upd nt).trans (same_upd nl)) _ _ hw) .nil)
end
end TX
namespace TX
open PySem PySem.Spec PyProof.Rows L2
mutual
def spotsD : PyData → List (List Nat)
  | .list es => [] :: spotsAll 0 es
  | _ => [[]]
def spotsAll (k : Nat) : List PyData → List (List Nat)
  | [] => []
  | d :: ds => (spotsD d).map (k :: ·) ++ spotsAll (k + 1) ds
end
mutual
theorem spots_len : ∀ d : PyData, (spotsD d).length ≤ sz d
  | .list es => by
    have := spotsAll_len es 0
    simp only [spotsD, sz, List.length_cons]
    omega
  | .none => by simp [spotsD, sz]
  | .str x => by simp [spotsD, sz]
  | .bool _ => by simp [spotsD, sz]
  | .int _ => by simp [spotsD, sz]
  | .tuple _ => by simp [spotsD, sz]
  | .dict _ => by simp [spotsD, sz]
theorem spotsAll_len : ∀ (es : List PyData) (k : Nat), (spotsAll k es).length ≤ szAll es
  | [], k => by simp [spotsAll]
  | d :: ds, k => by
    have h1 := spots_len d
    have h2 := spotsAll_len ds (k + 1)
    simp only [spotsAll, szAll, List.length_append, List.length_map]
    omega
end
theorem spotsAll_snoc (e : PyData) : ∀ (a : List PyData) (k : Nat), spotsAll k (a ++ [e]) = spotsAll k a ++ (spotsD e).map ((k + a.length) :: ·)
  | [], k => by simp [spotsAll]
  | d :: a, k => by
    have ih := spotsAll_snoc e a (k + 1)
    have e1 : k + 1 + a.length = k + (d :: a).length := by
      rw [List.length_cons]
      omega
    simp only [List.cons_append, spotsAll, ih, List.append_assoc, e1]
mutual
theorem spots_deep : ∀ (d : PyData) (p : List Nat), p ∈ spotsD d → p.length ≤ d.depth
  | .list es, p, h => by
    simp only [spotsD, List.mem_cons] at h
    rcases h with h | h
    · rw [h]
      simp
    · have := spotsAll_deep es 0 p h
      simp only [PyData.depth]
      omega
  | .none, p, h => by simp [spotsD] at h; simp [h]
  | .str x, p, h => by simp [spotsD] at h; simp [h]
  | .bool _, p, h => by simp [spotsD] at h; simp [h]
  | .int _, p, h => by simp [spotsD] at h; simp [h]
  | .tuple _, p, h => by simp [spotsD] at h; simp [h]
  | .dict _, p, h => by simp [spotsD] at h; simp [h]
theorem spotsAll_deep : ∀ (es : List PyData) (k : Nat) (p : List Nat), p ∈ spotsAll k es → p.length ≤ PyData.depthAll es + 1
  | [], k, p, h => by simp [spotsAll] at h
  | d :: ds, k, p, h => by
    simp only [spotsAll, List.mem_append, List.mem_map] at h
    rcases h with ⟨q, hq, rfl⟩ | h
    · have := spots_deep d q hq
      simp only [PyData.depthAll, List.length_cons]
      omega
    · have := spotsAll_deep ds (k + 1) p h
      simp only [PyData.depthAll]
      omega
end
mutual
theorem spots_short : ∀ (d : PyData) (p : List Nat), p ∈ spotsD d → p.length ≤ sz d
  | .list es, p, h => by
    simp only [spotsD, List.mem_cons] at h
    rcases h with h | h
    · rw [h]
      simp
    · have := spotsAll_short es 0 p h
      simp only [sz]
      omega
  | .none, p, h => by simp [spotsD] at h; simp [h]
  | .str x, p, h => by simp [spotsD] at h; simp [h]
  | .bool _, p, h => by simp [spotsD] at h; simp [h]
  | .int _, p, h => by simp [spotsD] at h; simp [h]
  | .tuple _, p, h => by simp [spotsD] at h; simp [h]
  | .dict _, p, h => by simp [spotsD] at h; simp [h]
theorem spotsAll_short : ∀ (es : List PyData) (k : Nat) (p : List Nat), p ∈ spotsAll k es → p.length ≤ szAll es + 1
  | [], k, p, h => by simp [spotsAll] at h
  | d :: ds, k, p, h => by
    simp only [spotsAll, List.mem_append, List.mem_map] at h
    rcases h with ⟨q, hq, rfl⟩ | h
    · have := spots_short d q hq
      simp only [szAll, List.length_cons]
      omega
    · have := spotsAll_short ds (k + 1) p h
      simp only [szAll]
      omega
end
/-- places on the heap -/
inductive Tups (H : Hp) : List V → List (List Nat) → Prop
  | nil : Tups H [] []
  | cons {t : Addr} {p : List Nat} {xs : List V} {ps : List (List Nat)} : H t = some (.tup (natV p)) → Tups H xs ps → Tups H (.ref t :: xs) (p :: ps)
theorem Tups.same {H H' : Hp} (s : Same H H') : ∀ {xs : List V} {ps : List (List Nat)}, Tups H xs ps → Tups H' xs ps
  | _, _, .nil => .nil
  | _, _, .cons h1 h2 => .cons (s _ _ h1) (h2.same s)
theorem Tups.keep {H H' : Hp} (s : ∀ t o, H t = some (.tup o) → H' t = some (.tup o)) : ∀ {xs : List V} {ps : List (List Nat)}, Tups H xs ps → Tups H' xs ps
  | _, _, .nil => .nil
  | _, _, .cons h1 h2 => .cons (s _ _ h1) (h2.keep s)
theorem Tups.len {H : Hp} : ∀ {xs : List V} {ps : List (List Nat)}, Tups H xs ps → xs.length = ps.length
  | _, _, .nil => rfl
  | _, _, .cons _ h => congrArg (· + 1) h.len
theorem Tups.append {H : Hp} : ∀ {xs ys : List V} {ps qs : List (List Nat)}, Tups H xs ps → Tups H ys qs → Tups H (xs ++ ys) (ps ++ qs)
  | _, _, _, _, .nil, g => g
  | _, _, _, _, .cons h1 h2, g => .cons h1 (h2.append g)
theorem Tups.get {H : Hp} : ∀ {xs : List V} {ps : List (List Nat)} {i : Nat} {x : V}, Tups H xs ps → xs[i]? = some x → ∃ t p, x = .ref t ∧ ps[i]? = some p ∧ H t = some (.tup (natV p))
  | _, _, i, x, .nil, e => by simp at e
  | _, _, 0, x, .cons h1 h2, e => by
    simp at e
    subst e
    exact ⟨_, _, rfl, rfl, h1⟩
  | _, _, i + 1, x, .cons h1 h2, e => by
    have := h2.get (i := i) (x := x) (by simpa using e)
    simpa using this
def spSpots (K : PySem.W.Frag) (N : Nat) : Sp := fun vs H Q _ => ∃ (v : V) (d : PyData) (Hv : Hp), vs = [v] ∧ Same Hv H ∧ Dp K Hv v d ∧ sz d ≤ 10000 ∧ d.depth ≤ N ∧
  ∀ H' l xs, Same H H' → H' l = some (.lst xs) → Tups H' xs (spotsD d) → Q (.ref l) H'
section
variable {P : Program} {w : World} {K : PySem.W.Frag} {mg : Str → Option Value} {base : Heap}
theorem scSpots : FnScope ["_law_value_here", "_law_found", "_law_at", "_law_one", "_law_place"] ["_law_value_here"] (defScope s__law_spots) := ⟨rfl, rfl, rfl, by decide +kernel, rfl, by decide +kernel, by decide +kernel⟩
theorem ok_spots1 {f : Addr} {fd : FuncData} (F : Fun K "_law_spots" "_law_spots" s__law_spots f fd) (T : Nm mg) (B : Nb mg) (b : Binds K fd ["_law_value_here"] []) (g : mg "_law_spots" = some (.ref f)) (N : Nat) (G : ∀ j : { M : Nat // M + 1 = N }, FnOk P w K mg base CX0 (j.1 + 1) f fd ["_law_value_here"] (spSpots K j.1)) :
    FnOk P w K mg base CX0 (N + 1) f fd ["_law_value_here"] (spSpots K N) := by
  refine F.ok scSpots (fun vs H Q E h => ?_) (fun cdv A outer s H vs Q E hr h => ?_)
  · obtain ⟨v, d, Hv, rfl, _⟩ := h
    rfl
  · obtain ⟨v, d, Hv, rfl, sv, hd, hz, hn, q⟩ := h
    have hrR : ∀ j : { M : Nat // M + 1 = N }, Room (j.1 + 1) _ := fun j => hr.mono (by have := j.2; omega)
    refine ⟨_, pss_cons (ps_set (i := 1) scSpots.nd rfl (.inl rfl) (pe_lst (pa_cons (pe_tup pa_nil) pa_nil))) <|
      pss_cons (ps_if (pt_val (pe_callB call_isi (by rfl) T.isi (by decide +kernel) (pa_cons (pv 0) (pa_cons (pe_bltn (v := .ty "list") (by rfl) T.lst (by decide +kernel) rfl) pa_nil)))) (
        pss_one (ps_for PassesOwn.never rfl (pi_enum (by rfl) B.enum (pa_cons (pv 0) pa_nil)) (pg_tup rfl (pgs_cons (pg_name (i := 2) scSpots.nd rfl (.inr rfl)) (pgs_cons (pg_name (i := 3) scSpots.nd rfl (.inl rfl)) pgs_nil))) (
          pss_one (ps_set (i := 1) scSpots.nd rfl (.inl rfl) (pe_op op_cat (pv 1) (pe_lc (own := [("_law_place", 4)]) (g := gName 4) (tt := tYes) (te := tOp (rCatT K) (tTup (tCons (tVar 2) tNil)) (tVar 4)) rfl scSpots.nd
            (pi_list (pe_ex fun j => pe_call (G j) (hrR j) (by rfl) g F.kp b .nil pass0 (pa_cons (pv 3) pa_nil))) (blkOk_by (own := [("_law_place", 4)]) (N := ["_law_value_here", "_law_found", "_law_at", "_law_one", "_law_place"]) (sc := defScope s__law_spots) (by decide +kernel)) (fun _ _ _ _ _ => pg_name (i := 4) scSpots.nd rfl (Or.inl rfl)) (fun _ _ _ _ _ => pts_nil)
            (fun _ _ _ _ _ => pe_op op_catT (pe_tup (pa_cons (pv 2) pa_nil)) (pv 4)))))))) pss_nil) <|
      pss_one (ps_ret (pv 1)), ?_⟩
    refine ⟨by decide, fun t0 nt0 => ⟨(by show 1 ≤ sizeLine; decide), fun l0 nl0 => ?_⟩⟩
    have sm0 : Same H (upd (upd H t0 (.tup [])) l0 (.lst [.ref t0])) := (same_upd nt0).trans (same_upd nl0)
    have ht0 : (upd (upd H t0 (.tup [])) l0 (.lst [.ref t0])) t0 = some (.tup (natV [])) := same_upd nl0 _ _ upd_same
    have hl0 : (upd (upd H t0 (.tup [])) l0 (.lst [.ref t0])) l0 = some (.lst [.ref t0]) := upd_same
    generalize upd (upd H t0 (.tup [])) l0 (.lst [.ref t0]) = G0 at sm0 ht0 hl0
    have ty := dp_ty (dp_same (sv.trans sm0) _ _ hd)
    refine ⟨_, rfl, v, .ty "list", .type (tyD d), .type "list", _, rfl, .ty _, ty, kitL d K, _, rfl, ?_⟩
    by_cases el : (tyD d == "list") = true
    · rw [el]
      refine iteT ?_
      cases hd with
      | @lst b0 xs es h1 h2 =>
        have hl : xs.length = es.length := DpAll.length h2
        have hz2 : PyData.depthAll es + 1 ≤ N := by
          simp only [PyData.depth] at hn
          omega
        have hn2 : szAll es + 1 ≤ 10000 := by simpa only [sz] using hz
        refine ⟨_, rfl, b0, xs, rfl, (sv.trans sm0).seq h1, for_it (walk_enum (K := K) (a := b0) (xs := xs)) (fun i σ H1 => ∃ l ws y2 y3, σ = [some (.ref b0), some (.ref l), y2, y3, none] ∧ Same H H1 ∧ H1 l = some (.lst ws) ∧ Tups H1 ws ([] :: spotsAll 0 (es.take i))) ⟨_, _, _, _, rfl, sm0, hl0, .cons ht0 .nil⟩ (fun i σ H1 hi ⟨_, _, _, _, _, sm, _⟩ => (sv.trans sm).seq h1) ?_ ?_⟩
        · rintro i x σ H1 H1' hi ⟨l, ws, y2, y3, rfl, sm, hw, hT⟩ ⟨T0, a0, c0, rfl, nT, rfl, ea, eb⟩
          cases ea
          obtain ⟨e, he, hde⟩ := DpAll.get h2 eb
          have smT : Same H1 (upd H1 T0 (.tup [.int ((i : Nat) : Int), c0])) := same_upd nT
          have hT0 : (upd H1 T0 (.tup [.int ((i : Nat) : Int), c0])) T0 = some (.tup [.int ((i : Nat) : Int), c0]) := upd_same
          generalize upd H1 T0 (.tup [.int ((i : Nat) : Int), c0]) = G1 at smT hT0
          refine ⟨T0, _, rfl, SqT.of hT0, rfl, _, _, rfl, _, _, rfl, rfl, ?_⟩
          have se := spots_len e
          have sze := sz_get he
          refine ⟨_, rfl, ⟨N - 1, by omega⟩, _, rfl, c0, e, Hv, rfl, sv.trans (sm.trans smT), hde, Nat.le_trans (sz_get he) (by omega), Nat.le_trans (depth_get he) (by show _ ≤ N - 1; omega), fun H2 l2 us sm2 hl2 hu => ?_⟩
          refine ⟨l2, rfl, ⟨_, SqL.of hl2⟩, fun D nD => lc_it (walk_list (K := K) (a := l2) (xs := us)) (fun n H' => ∃ zs, H' D = some (.lst zs) ∧ Same H2 H' ∧ Tups H' zs (((spotsD e).take n).map (i :: ·))) ⟨_, upd_same, same_upd nD, .nil⟩ (fun n H' hn ⟨_, _, s3, _⟩ => SqL.of (s3 _ _ hl2)) ?_ ?_⟩
          · rintro n x H3 H3' hn ⟨zs, g1, g2, g3⟩ ⟨e3, hx⟩
            obtain rfl : H3 = H3' := e3.symm
            obtain ⟨t, p, rfl, hp, ht⟩ := hu.get hx
            have zl : zs.length ≤ 10000 := by
              have := g3.len
              rw [List.length_map, List.length_take] at this
              omega
            have pl : p.length ≤ 10000 := by
              have h1 := spots_short e p (List.mem_of_getElem? hp)
              omega
            have et : ((spotsD e).take (n + 1)).map (i :: ·) = ((spotsD e).take n).map (i :: ·) ++ [i :: p] := by
              rw [List.take_add_one, hp, List.map_append]
              rfl
            have snoc : ∀ (G : Hp) (T2 : Addr), Same H3 G → G T2 = some (.tup (natV (i :: p))) → Tups (upd G D (.lst (zs ++ [.ref T2]))) (zs ++ [.ref T2]) (((spotsD e).take (n + 1)).map (i :: ·)) := by
              intro G T2 s4 h4
              rw [et]
              refine Tups.append (g3.keep fun c o ec => ?_) (.cons ?_ .nil)
              · have cD : c ≠ D := fun z => by rw [z, g1] at ec; cases ec
                rw [upd_ne cD]
                exact s4 _ _ ec
              · have cD : T2 ≠ D := fun z => by rw [z, s4 _ _ g1] at h4; cases h4
                rw [upd_ne cD]
                exact h4
            refine ⟨rfl, _, rfl, (by show 1 ≤ sizeLine; decide), fun T2 nT2 => ⟨_, rfl, T2, t, _, natV p, rfl, rfl, SqT.of upd_same, SqT.of (same_upd nT2 _ _ (g2 _ _ ht)), by simp, ?_, fun z => ?_, fun z T3 nT3 => ?_⟩⟩
            · unfold natV
              rw [List.length_map]
              exact Nat.le_trans (show 1 + p.length ≤ 10001 by omega) (by decide)
            · have p0 : p = [] := by
                unfold natV at z
                exact List.map_eq_nil_iff.mp z
              subst p0
              exact ⟨zs, same_upd nT2 _ _ g1, Nat.lt_of_le_of_lt zl (by decide), _, upd_same, same_fresh nD (g2.trans (same_upd nT2)), snoc _ T2 (same_upd nT2) upd_same⟩
            · exact ⟨zs, same_upd nT3 _ _ (same_upd nT2 _ _ g1), Nat.lt_of_le_of_lt zl (by decide), _, upd_same, same_fresh nD ((g2.trans (same_upd nT2)).trans (same_upd nT3)), snoc _ T3 ((same_upd nT2).trans (same_upd nT3)) upd_same⟩
          · rintro H3 ⟨zs, g1, g2, g3⟩
            rw [hu.len, List.take_length] at g3
            have smA : Same H1 H3 := smT.trans (sm2.trans g2)
            have wl : ws.length ≤ 10001 := by
              have h1 := hT.len
              have h2 := spotsAll_len (es.take i) 0
              have h3 : szAll (es.take i) ≤ szAll es := by
                have := szAll_append (es.take i) (es.drop i)
                rw [List.take_append_drop] at this
                omega
              rw [List.length_cons] at h1
              omega
            have zl : zs.length ≤ 10000 := by
              have := g3.len
              rw [List.length_map] at this
              omega
            refine ⟨l, D, ws, zs, rfl, rfl, smA _ _ hw, g1, Nat.le_trans (show ws.length + zs.length ≤ 30000 by omega) (by decide), fun r nr => ?_⟩
            refine ⟨r, ws ++ zs, _, _, rfl, (sm.trans smA).trans (same_upd nr), upd_same, ?_⟩
            have he2 : es.take (i + 1) = es.take i ++ [e] := by
              rw [List.take_add_one, he]
              rfl
            have il : (es.take i).length = i := by
              rw [List.length_take]
              omega
            rw [he2, spotsAll_snoc, il, Nat.zero_add]
            exact Tups.append (ps := [] :: spotsAll 0 (es.take i)) ((hT.same smA).same (same_upd nr)) (g3.same (same_upd nr))
        · rintro σ H1 ⟨l, ws, y2, y3, rfl, sm, hw, hT⟩
          rw [hl, List.take_length] at hT
          exact ⟨_, rfl, q H1 l ws sm hw hT⟩
      | _ => simp [tyD] at el
    · have el' : (tyD d == "list") = false := by simpa using el
      rw [el']
      refine iteF ⟨_, rfl, q G0 l0 _ sm0 hl0 ?_⟩
      have e1 : spotsD d = [[]] := by
        cases d with
        | list es => simp [tyD] at el'
        | _ => rfl
      rw [e1]
      exact .cons ht0 .nil
theorem ok_spots {f : Addr} {fd : FuncData} (F : Fun K "_law_spots" "_law_spots" s__law_spots f fd) (T : Nm mg) (B : Nb mg) (b : Binds K fd ["_law_value_here"] []) (g : mg "_law_spots" = some (.ref f)) : ∀ N : Nat, FnOk P w K mg base CX0 (N + 1) f fd ["_law_value_here"] (spSpots K N)
  | 0 => ok_spots1 F T B b g 0 fun j => absurd j.2 (by omega)
  | N + 1 => ok_spots1 F T B b g (N + 1) fun ⟨M, e⟩ => by
    have e2 : M = N := by omega
    subst e2
    exact ok_spots F T B b g M
end
end TX
namespace TX
open PySem PySem.Spec PyProof.Rows L2
def putL (f : PyData → PyData) : Nat → List PyData → List PyData
  | _, [] => []
  | 0, x :: xs => f x :: xs
  | k + 1, x :: xs => x :: putL f k xs
def putD : List Nat → PyData → PyData → PyData
  | [], _, e => e
  | k :: p, d, e => match d with
    | .list es => .list (putL (fun x => putD p x e) k es)
    | d => d
theorem putL_get (f : PyData → PyData) : ∀ (k : Nat) (es : List PyData) (i : Nat), (putL f k es)[i]? = es[i]?.map fun x => if i = k then f x else x
  | _, [], i => by simp [putL]
  | 0, x :: xs, 0 => by simp [putL]
  | 0, x :: xs, i + 1 => by simp [putL]
  | k + 1, x :: xs, 0 => by simp [putL]
  | k + 1, x :: xs, i + 1 => by
    have := putL_get f k xs i
    simp only [putL, List.getElem?_cons_succ, this]
    have e : (i + 1 = k + 1) = (i = k) := by simp
    simp only [e]
theorem putL_len (f : PyData → PyData) : ∀ (k : Nat) (es : List PyData), (putL f k es).length = es.length
  | _, [] => by simp [putL]
  | 0, x :: xs => by simp [putL]
  | k + 1, x :: xs => by simp [putL, putL_len f k xs]
theorem putL_sz {f : PyData → PyData} {c : Nat} (h : ∀ x, sz (f x) ≤ sz x + c) : ∀ (k : Nat) (es : List PyData), szAll (putL f k es) ≤ szAll es + c
  | _, [] => by simp [putL]
  | 0, x :: xs => by
    have := h x
    simp only [putL, szAll]
    omega
  | k + 1, x :: xs => by
    have := putL_sz h k xs
    simp only [putL, szAll]
    omega
theorem putL_dep {f : PyData → PyData} {c : Nat} (h : ∀ x, (f x).depth ≤ x.depth + c) : ∀ (k : Nat) (es : List PyData), PyData.depthAll (putL f k es) ≤ PyData.depthAll es + c
  | _, [] => by simp [putL]
  | 0, x :: xs => by
    have := h x
    simp only [putL, PyData.depthAll]
    omega
  | k + 1, x :: xs => by
    have := putL_dep h k xs
    simp only [putL, PyData.depthAll]
    omega
theorem putD_sz (e : PyData) : ∀ (p : List Nat) (d : PyData), sz (putD p d e) ≤ sz d + sz e
  | [], d => by simp only [putD]; omega
  | k :: p, d => by
    cases d with
    | list es =>
      have := putL_sz (f := fun x => putD p x e) (c := sz e) (fun x => putD_sz e p x) k es
      simp only [putD, sz]
      omega
    | _ => simp only [putD]; omega
theorem putD_dep (e : PyData) : ∀ (p : List Nat) (d : PyData), (putD p d e).depth ≤ d.depth + e.depth
  | [], d => by simp only [putD]; omega
  | k :: p, d => by
    cases d with
    | list es =>
      have := putL_dep (f := fun x => putD p x e) (c := e.depth) (fun x => putD_dep e p x) k es
      simp only [putD, PyData.depth]
      omega
    | _ => simp only [putD]; omega
theorem shaped_nats (p : List Nat) : SeqAt.shaped (.tuple (natD p)) = true := by
  unfold SeqAt.shaped
  rw [Bool.and_eq_true]
  refine ⟨?_, decide_eq_true ?_⟩
  · simp only [PyData.canLay0, lay_nats]
  · simp only [PyData.depth, dep_nats]
    omega
/-- what stood in Hv already, and what is new behind H -/
def mixp (Hv H H' : Hp) : Hp := fun b => match Hv b with
  | some o => some o
  | none => match H b with
    | some _ => none
    | none => H' b
theorem mix_old {Hv H H' : Hp} : Same Hv (mixp Hv H H') := fun b o e => by
  unfold mixp
  rw [e]
theorem mix_new {Hv H H' : Hp} {b : Addr} (h1 : Hv b = none) (h2 : H b = none) : mixp Hv H H' b = H' b := by
  unfold mixp
  rw [h1, h2]
theorem mix_in {Hv H H' : Hp} {b : Addr} {o : HO} (e : mixp Hv H H' b = some o) : Hv b = some o ∨ (Hv b = none ∧ H b = none ∧ H' b = some o) := by
  unfold mixp at e
  cases h : Hv b with
  | some x =>
    rw [h] at e
    exact .inl e
  | none =>
    rw [h] at e
    cases h2 : H b with
    | some y =>
      rw [h2] at e
      cases e
    | none =>
      rw [h2] at e
      exact .inr ⟨rfl, rfl, e⟩
theorem mix_all {Hv H H' : Hp} (s1 : Same Hv H) (s2 : Same H H') : Same (mixp Hv H H') H' := fun b o e => by
  rcases mix_in e with h | ⟨_, _, h⟩
  · exact s2 _ _ (s1 _ _ h)
  · exact h
/-- .. of a later step, a list under way at D apart -/
theorem mix_to {Hv H H4 H5 H6 : Hp} {D : Addr} (s1 : Same Hv H) (s2 : Same H H4) (nD : H D = none) (yD : H4 D ≠ none) (k : ∀ b o, b ≠ D → H5 b = some o → H6 b = some o) : Same (mixp Hv H4 H5) (del (mixp Hv H H6) D) := fun b o e => by
  rcases mix_in e with h | ⟨h1, h2, h3⟩
  · have bD : b ≠ D := fun z => by
      rw [z] at h
      rw [s1 _ _ h] at nD
      cases nD
    rw [del_ne bD]
    exact mix_old _ _ h
  · have bD : b ≠ D := fun z => yD (z ▸ h2)
    rw [del_ne bD, mix_new h1 (s2.free h2)]
    exact k _ _ bD h3
theorem mix_mono {Hv H H3 H6 : Hp} {D : Addr} (k : ∀ b o, b ≠ D → H3 b = some o → H6 b = some o) : Same (del (mixp Hv H H3) D) (del (mixp Hv H H6) D) := fun b o e => by
  by_cases bD : b = D
  · rw [bD, del_same] at e
    cases e
  · rw [del_ne bD] at e ⊢
    rcases mix_in e with h | ⟨h1, h2, h3⟩
    · exact mix_old _ _ h
    · rw [mix_new h1 h2]
      exact k _ _ bD h3
theorem cut_tail (k : Nat) (p : List Nat) : cutV (natV (k :: p)) (some 1) none = natV p := by
  have e : HT.sIx (natV (k :: p)).length 0 (some 1) = 1 := by
    have := HT.sIx_nat (natV (k :: p)).length 0 1
    have l : (natV (k :: p)).length = p.length + 1 := by simp [natV]
    rw [l] at this ⊢
    rw [show ((1 : Nat) : Int) = 1 from rfl] at this
    rw [this]
    omega
  unfold cutV
  rw [e, HT.sIx_none]
  simp [natV]
  exact List.take_of_length_le (by simp)
def spPut (K : PySem.W.Frag) (N : Nat) : Sp := fun vs H Q _ => ∃ (v u : V) (t : Addr) (d e : PyData) (p : List Nat) (Hv : Hp), vs = [v, .ref t, u] ∧ Same Hv H ∧ Dp K Hv v d ∧ Dp K Hv u e ∧ H t = some (.tup (natV p)) ∧ p.length ≤ N ∧ p.length ≤ 10000 ∧ sz d ≤ 10000 ∧
  ∀ H' v', Same H H' → Dp K (mixp Hv H H') v' (putD p d e) → Q v' H'
def tPutR (K : PySem.W.Frag) (N : Nat) : L2.TE := fun σ H Q => ∃ j : { M : Nat // M + 1 = N }, tCall (spPut K j.1) [] E0 (tCons (tVar 4) (tCons (tSl (rSlT K) (tVar 1) (tPart (tC (.int 1))) tNoPart) (tCons (tVar 2) tNil))) σ H Q
theorem pe_putR {X : Cx} {K : PySem.W.Frag} {N : Nat} {e : Expr} (h : ∀ j : { M : Nat // M + 1 = N }, PE X e (tCall (spPut K j.1) [] E0 (tCons (tVar 4) (tCons (tSl (rSlT K) (tVar 1) (tPart (tC (.int 1))) tNoPart) (tCons (tVar 2) tNil))))) : PE X e (tPutR K N) := pe_ex h
section
variable {P : Program} {w : World} {K : PySem.W.Frag} {mg : Str → Option Value} {base : Heap}
theorem scPut : FnScope ["_law_value_here", "_law_place", "_law_thing", "_law_at", "_law_one"] ["_law_value_here", "_law_place", "_law_thing"] (defScope s__law_put) := ⟨rfl, rfl, rfl, by decide +kernel, rfl, by decide +kernel, by decide +kernel⟩
theorem ok_put1 {f : Addr} {fd : FuncData} (F : Fun K "_law_put" "_law_put" s__law_put f fd) (T : Nm mg) (B : Nb mg) (b : Binds K fd ["_law_value_here", "_law_place", "_law_thing"] []) (g : mg "_law_put" = some (.ref f)) (N : Nat) (G : ∀ j : { M : Nat // M + 1 = N }, FnOk P w K mg base CX0 (j.1 + 1) f fd ["_law_value_here", "_law_place", "_law_thing"] (spPut K j.1)) :
    FnOk P w K mg base CX0 (N + 1) f fd ["_law_value_here", "_law_place", "_law_thing"] (spPut K N) := by
  refine F.ok scPut (fun vs H Q E h => ?_) (fun cdv A outer s H vs Q E hr h => ?_)
  · obtain ⟨v, u, t, d, e, p, Hv, rfl, _⟩ := h
    rfl
  · obtain ⟨v, u, t, d, e, p, Hv, rfl, sv, hd, he, ht, hN, hp, hz, q⟩ := h
    have hrR : ∀ j : { M : Nat // M + 1 = N }, Room (j.1 + 1) _ := fun j => hr.mono (by have := j.2; omega)
    refine ⟨_, pss_cons (ps_if (pt_cmpR (op_eqD hr.units) (pv 1) (pe_tup pa_nil) (nomark _)) (pss_one (ps_ret (pv 2))) pss_nil) <|
      pss_cons (ps_if (pt_not (pt_val (pe_callB call_isi (by rfl) T.isi (by decide +kernel) (pa_cons (pv 0) (pa_cons (pe_bltn (v := .ty "list") (by rfl) T.lst (by decide +kernel) rfl) pa_nil))))) (pss_one (ps_ret (pv 0))) pss_nil) <|
      pss_one (ps_ret (pe_lc (own := [("_law_at", 3), ("_law_one", 4)]) (g := gTup K 2 (gCons (gName 3) (gCons (gName 4) gNil))) (tt := tYes) (te := tIf (tTest (tOp rEq (tVar 3) (tOp (rIxT K) (tVar 1) (tC (.int 0))))) (tPutR K N) (tVar 4)) rfl scPut.nd
        (pi_enum (by rfl) B.enum (pa_cons (pv 0) pa_nil)) (blkOk_by (own := [("_law_at", 3), ("_law_one", 4)]) (N := ["_law_value_here", "_law_place", "_law_thing", "_law_at", "_law_one"]) (sc := defScope s__law_put) (by decide +kernel))
        (fun _ _ _ _ _ => pg_tup rfl (pgs_cons (pg_name (i := 3) scPut.nd rfl (Or.inl rfl)) (pgs_cons (pg_name (i := 4) scPut.nd rfl (Or.inl rfl)) pgs_nil))) (fun _ _ _ _ _ => pts_nil)
        (fun _ _ _ _ _ => pe_ifExp (pt_cmpR op_eq (pv 3) (pe_ix ix_tup (pv 1) pe_int (fun _ _ => rfl)) (nomark _)) (pe_putR fun j => pe_call (G j) (hrR j) (by rfl) g F.kp b .nil pass0 (pa_cons (pv 4) (pa_cons (pe_slice sl_tup (pv 1) (po_some pe_int) po_none) (pa_cons (pv 2) pa_nil)))) (pv 4)))), ?_⟩
    refine ⟨_, rfl, by decide, fun t0 nt0 => ?_⟩
    refine ⟨.tuple (natD p), .tuple [], .tup (SqT.of (same_upd nt0 _ _ ht)) (dp_nats p), .tup (SqT.of upd_same) .nil, shaped_nats p, by decide +kernel, _, rfl, ?_⟩
    have smT0 : Same H (upd H t0 (.tup [])) := same_upd nt0
    cases p with
    | nil =>
      have e0 : PyData.eqv (.tuple (natD [])) (.tuple []) = true := by decide +kernel
      rw [e0]
      exact iteT ⟨_, rfl, q _ u smT0 (dp_same mix_old _ _ he)⟩
    | cons k p =>
      have e0 : PyData.eqv (.tuple (natD (k :: p))) (.tuple []) = false := by simp [natD, PyData.eqv, PyData.eqvAll]
      rw [e0]
      refine iteF ?_
      have ht0 := smT0 _ _ ht
      generalize upd H t0 (.tup []) = G at smT0 ht0
      have ty := dp_ty (dp_same (sv.trans smT0) _ _ hd)
      refine ⟨_, rfl, v, .ty "list", .type (tyD d), .type "list", _, rfl, .ty _, ty, kitL d K, _, rfl, ?_⟩
      by_cases el : (tyD d == "list") = true
      · rw [el]
        refine iteF ?_
        cases hd with
        | @lst b0 xs es h1 h2 =>
          have hl : xs.length = es.length := DpAll.length h2
          have hn2 : szAll es + 1 ≤ 10000 := by simpa only [sz] using hz
          have esl := szAll_len es
          have pN : p.length + 1 ≤ N := by simpa using hN
          have pp : p.length + 1 ≤ 10000 := by simpa using hp
          refine ⟨_, rfl, b0, xs, rfl, (sv.trans smT0).seq h1, fun D nD => lc_it (walk_enum (K := K) (a := b0) (xs := xs)) (fun n H' => ∃ ws, H' D = some (.lst ws) ∧ ws.length = n ∧ Same G H' ∧ DpAll K (del (mixp Hv H H') D) ws ((putL (fun x => putD p x e) k es).take n)) ⟨_, upd_same, rfl, same_upd nD, .nil⟩ (fun n H' hn ⟨_, _, _, s3, _⟩ => (sv.trans (smT0.trans s3)).seq h1) ?_ ?_⟩
          · rintro n x H3 H3' hn ⟨ws, g1, g2, g3, g4⟩ ⟨T0, a0, c0, rfl, nT, rfl, ea, eb⟩
            cases ea
            obtain ⟨e1, he1, hde⟩ := DpAll.get h2 eb
            have nDH : H D = none := smT0.free nD
            have s0 : Same H3 (upd H3 T0 (.tup [.int ((n : Nat) : Int), c0])) := same_upd nT
            have hT0 : (upd H3 T0 (.tup [.int ((n : Nat) : Int), c0])) T0 = some (.tup [.int ((n : Nat) : Int), c0]) := upd_same
            generalize upd H3 T0 (.tup [.int ((n : Nat) : Int), c0]) = G1 at s0 hT0
            have sHG : Same H G1 := smT0.trans (g3.trans s0)
            have gD : G1 D = some (.lst ws) := s0 _ _ g1
            have get1 : (putL (fun x => putD p x e) k es)[n]? = some (if n = k then putD p e1 e else e1) := by
              rw [putL_get, he1]
              rfl
            have tk : (putL (fun x => putD p x e) k es).take (n + 1) = (putL (fun x => putD p x e) k es).take n ++ [if n = k then putD p e1 e else e1] := by
              rw [List.take_add_one, get1]
              rfl
            have wl : ws.length < sizeLine := Nat.lt_of_le_of_lt (show ws.length ≤ 10000 by omega) (by decide)
            -- one item more
            have more : ∀ (H5 : Hp) (v5 : V), Same G1 H5 → Dp K (del (mixp Hv H (upd H5 D (.lst (ws ++ [v5])))) D) v5 (if n = k then putD p e1 e else e1) → ∃ acc, H5 D = some (.lst acc) ∧ acc.length < sizeLine ∧ ∃ ws2, (upd H5 D (.lst (acc ++ [v5]))) D = some (.lst ws2) ∧ ws2.length = n + 1 ∧ Same G (upd H5 D (.lst (acc ++ [v5]))) ∧ DpAll K (del (mixp Hv H (upd H5 D (.lst (acc ++ [v5])))) D) ws2 ((putL (fun x => putD p x e) k es).take (n + 1)) := by
              intro H5 v5 s5 hv5
              refine ⟨ws, s5 _ _ gD, wl, ws ++ [v5], upd_same, by simp [g2], same_fresh nD (g3.trans (s0.trans s5)), ?_⟩
              rw [tk]
              refine DpAll.append (dpAll_same (mix_mono fun b o hb e => ?_) _ _ g4) (.cons hv5 .nil)
              rw [upd_ne hb]
              exact s5 _ _ (s0 _ _ e)
            refine ⟨T0, _, rfl, SqT.of hT0, rfl, _, _, rfl, _, _, rfl, rfl, rfl, ?_⟩
            refine ⟨_, rfl, _, rfl, t, _, _, _, rfl, rfl, SqT.of (s0 _ _ (g3 _ _ ht0)), atI_nat (j := 0) rfl, rfl, _, rfl, ?_⟩
            by_cases ek : n = k
            · refine eqT (by rw [ek]) ?_
              refine ⟨⟨N - 1, by omega⟩, _, rfl, _, rfl, 1, rfl, t, _, rfl, SqT.of (s0 _ _ (g3 _ _ ht0)), ?_, fun t1 nt1 => ⟨_, rfl, c0, u, t1, e1, e, p, Hv, rfl, (sv.trans sHG).trans (same_upd nt1), hde, he, ?_, ?_, by omega, Nat.le_trans (sz_get he1) (by omega), fun H5 v5 s5 hv5 => ?_⟩⟩
              · rintro ⟨z, _⟩
                have := HT.sIx_nat (natV (k :: p)).length 0 1
                rw [show ((1 : Nat) : Int) = 1 from rfl, z] at this
                have l : (natV (k :: p)).length = p.length + 1 := by simp [natV]
                omega
              · rw [upd_same, cut_tail]
              · show p.length ≤ N - 1
                omega
              · rw [if_pos ek] at more
                refine more H5 v5 ((same_upd nt1).trans s5) (dp_same (mix_to sv (sHG.trans (same_upd nt1)) nDH ?_ fun b o hb e => ?_) _ _ hv5)
                · rw [same_upd nt1 _ _ gD]
                  exact fun z => nomatch z
                · rw [upd_ne hb]
                  exact e
            · refine eqF (by omega) ?_
              rw [if_neg ek] at more
              refine ⟨_, rfl, more G1 c0 (Same.refl _) (dp_same (fun b o e => ?_) _ _ hde)⟩
              have bD : b ≠ D := fun z => by
                rw [z] at e
                rw [sv _ _ e] at nDH
                cases nDH
              rw [del_ne bD]
              exact mix_old _ _ e
          · rintro H3 ⟨ws, g1, g2, g3, g4⟩
            have e3 : (putL (fun x => putD p x e) k es).take xs.length = putL (fun x => putD p x e) k es := List.take_of_length_le (by rw [putL_len]; omega)
            rw [e3] at g4
            have nDH : H D = none := smT0.free nD
            have nDv : Hv D = none := sv.free nDH
            refine q H3 (.ref D) (smT0.trans g3) (.lst (SqL.of ?_) (dpAll_same (fun b o e => ?_) _ _ g4))
            · rw [mix_new nDv nDH]
              exact g1
            · by_cases bD : b = D
              · rw [bD, del_same] at e
                cases e
              · rw [del_ne bD] at e
                exact e
        | _ => simp [tyD] at el
      · have el' : (tyD d == "list") = false := by simpa using el
        rw [el']
        refine iteT ⟨_, rfl, q G v smT0 (dp_same mix_old _ _ ?_)⟩
        have e1 : putD (k :: p) d e = d := by
          cases d with
          | list es => simp [tyD] at el'
          | _ => rfl
        rw [e1]
        exact hd
theorem ok_put {f : Addr} {fd : FuncData} (F : Fun K "_law_put" "_law_put" s__law_put f fd) (T : Nm mg) (B : Nb mg) (b : Binds K fd ["_law_value_here", "_law_place", "_law_thing"] []) (g : mg "_law_put" = some (.ref f)) : ∀ N : Nat, FnOk P w K mg base CX0 (N + 1) f fd ["_law_value_here", "_law_place", "_law_thing"] (spPut K N)
  | 0 => ok_put1 F T B b g 0 fun j => absurd j.2 (by omega)
  | N + 1 => ok_put1 F T B b g (N + 1) fun ⟨M, e⟩ => by
    have e2 : M = N := by omega
    subst e2
    exact ok_put F T B b g M
end
end TX
namespace TX
open PySem PySem.Spec PyProof.Rows L2
mutual
def goodD : PyData → Prop
  | .none => True
  | .bool _ => True
  | .int i => i.natAbs.log2 < 1920
  | .str x => ∀ c ∈ x.cps.toList, c < 1000
  | .list es => goodAll es
  | .tuple es => es = [] ∨ es = [.str "a"] ∨ es = [.str "ab"]
  | .dict _ => False
def goodAll : List PyData → Prop
  | [] => True
  | d :: ds => goodD d ∧ goodAll ds
end
mutual
theorem good_of_val : ∀ d : PyData, valD d → goodD d
  | .none, _ => trivial
  | .str x, h => fun c hc => Nat.lt_of_le_of_lt (h c hc).2 (by decide)
  | .list es, h => good_of_vals es h
  | .bool _, h => h.elim
  | .int _, h => h.elim
  | .tuple _, h => h.elim
  | .dict _, h => h.elim
theorem good_of_vals : ∀ ds : List PyData, valAll ds → goodAll ds
  | [], _ => trivial
  | d :: ds, h => ⟨good_of_val d h.1, good_of_vals ds h.2⟩
end
theorem putL_good {f : PyData → PyData} (h : ∀ x, goodD x → goodD (f x)) : ∀ (k : Nat) (es : List PyData), goodAll es → goodAll (putL f k es)
  | _, [], _ => by simp [putL, goodAll]
  | 0, x :: xs, g => ⟨h x g.1, g.2⟩
  | k + 1, x :: xs, g => ⟨g.1, putL_good h k xs g.2⟩
theorem putD_good {e : PyData} (he : goodD e) : ∀ (p : List Nat) (d : PyData), goodD d → goodD (putD p d e)
  | [], d, _ => he
  | k :: p, d, g => by
    cases d with
    | list es => exact putL_good (f := fun x => putD p x e) (fun x gx => putD_good he p x gx) k es g
    | _ => exact g
def oddS : Str := " AZ09_-.{~\n"
theorem odd_small : ∀ c ∈ oddS.cps.toList, c < 1000 := by decide +kernel
theorem cut_mem {z : Str} {lo hi : Option Int} {c : Nat} (h : c ∈ (cutS z lo hi).cps.toList) : c ∈ z.cps.toList := by
  unfold cutS at h
  simp only at h
  exact List.mem_of_mem_drop (List.mem_of_mem_take h)
theorem cut_len (z : Str) (lo hi : Option Int) : (cutS z lo hi).length ≤ z.length := by
  have e : (cutS z lo hi).length = ((z.cps.toList.drop (HT.sIx z.length 0 lo)).take (HT.sIx z.length z.length hi - HT.sIx z.length 0 lo)).length := by
    unfold cutS
    simp [Str.length]
  have e2 : z.length = z.cps.toList.length := by simp [Str.length]
  rw [e, List.length_take, List.length_drop]
  omega
def spOdd (K : PySem.W.Frag) : Sp := fun vs H Q _ => ∃ (p : Addr) (turn : Int), vs = [.ref p, .int turn] ∧ BagAt H p ∧
  ∀ (H' : Hp) (v : V) (d : PyData), (∀ b o, b ≠ p → H b = some o → H' b = some o) → BagAt H' p → Dp K (newp H H') v d → goodD d → d.depth ≤ 2 → sz d ≤ 20 → Q v H'
section
variable {P : Program} {w : World} {K : PySem.W.Frag} {mg : Str → Option Value} {base : Heap}
theorem scOdd : FnScope ["_law_bag_here", "_law_turn", "_law_pick", "_law_word", "_law_cut"] ["_law_bag_here", "_law_turn"] (defScope s__law_odd) := ⟨rfl, rfl, rfl, by decide +kernel, rfl, by decide +kernel, by decide +kernel⟩
theorem ok_odd {f fT fX : Addr} {fd dT dX : FuncData} (F : Fun K "_law_odd" "_law_odd" s__law_odd f fd) (B : Nb mg) (GT : FnOk P w K mg base CX0 1 fT dT ["_law_bag_here", "_law_many"] spTake) (bT : Binds K dT ["_law_bag_here", "_law_many"] []) (gT : mg "_law_take" = some (.ref fT)) (kT : PySem.W.keepIn K (.ref fT) = true)
    (GX : FnOk P w K mg base CX0 2 fX dX ["_law_bag_here", "_law_most"] spText) (bX : Binds K dX ["_law_bag_here", "_law_most"] []) (gX : mg "_law_text" = some (.ref fX)) (kX : PySem.W.keepIn K (.ref fX) = true) : FnOk P w K mg base CX0 3 f fd ["_law_bag_here", "_law_turn"] (spOdd K) := by
  refine F.ok scOdd (fun vs H Q E h => ?_) (fun cdv A outer s H vs Q E hr h => ?_)
  · obtain ⟨p, turn, rfl, _⟩ := h
    rfl
  · obtain ⟨p, turn, rfl, bag, q⟩ := h
    have r1 : Room 1 _ := hr.mono (by decide)
    refine ⟨_, pss_cons (ps_set (i := 2) scOdd.nd rfl (.inl rfl) (pe_call GT r1 (by rfl) gT kT bT .nil pass0 (pa_cons (pv 0) (pa_cons pe_int pa_nil)))) <|
      pss_cons (ps_if (PW.pt (pw_and (pt_cmpR op_lt (pv 2) pe_int (nomark _)) (pw_and1 (PW.pt (pw_or (pt_cmpR op_lt (pv 2) pe_int (nomark _)) (pw_or1 (pt_cmpR op_eq (pv 1) pe_int (nomark _))))))))
        (pss_one (ps_ret (pe_ix ix_list (pe_lst (pa_cons pe_bl (pa_cons pe_bl (pa_cons pe_int (pa_cons (pe_un un_neg pe_int) (pa_cons (pe_op op_add (pe_op op_pow pe_int pe_int) pe_int) (pa_cons (pe_tup pa_nil) (pa_cons (pe_tup (pa_cons pe_str pa_nil)) (pa_cons (pe_lst (pa_cons pe_str (pa_cons (pe_tup (pa_cons pe_str pa_nil)) pa_nil)))
          (pa_cons (pe_lst (pa_cons pe_non (pa_cons pe_int pa_nil))) pa_nil)))))))))) (pv 2) (fun _ _ => rfl)))) pss_nil) <|
      pss_cons (ps_set (i := 3) scOdd.nd rfl (.inl rfl) (pe_call GX hr (by rfl) gX kX bX .nil pass0 (pa_cons (pv 0) (pa_cons pe_int pa_nil)))) <|
      pss_cons (ps_set (i := 4) scOdd.nd rfl (.inl rfl) (pe_call GT r1 (by rfl) gT kT bT .nil pass0 (pa_cons (pv 0) (pa_cons (pe_op op_add (pe_callB call_len_str (by rfl) B.len PySem.boot_len (pa_cons (pv 3) pa_nil)) pe_int) pa_nil)))) <|
      pss_one (ps_ret (pe_op op_add_str (pe_op op_add_str (pe_slice sl_str (pv 3) po_none (po_some (pv 4))) (pe_ix ix_str pe_str (pe_call GT r1 (by rfl) gT kT bT .nil pass0 (pa_cons (pv 0) (pa_cons pe_int pa_nil))) (fun _ _ => rfl))) (pe_slice sl_str (pv 3) (po_some (pv 4)) po_none))), ?_⟩
    refine ⟨_, rfl, p, 14, rfl, bag, by decide, by decide, fun x1 y1 c hc0 hc1 => ?_⟩
    have k1 : ∀ b o, b ≠ p → H b = some o → upd H p (.lst [.int x1, .int y1]) b = some o := fun b o hb e => by
      rw [upd_ne hb]
      exact e
    have b1 : BagAt (upd H p (.lst [.int x1, .int y1])) p := ⟨_, _, upd_same⟩
    generalize upd H p (.lst [.int x1, .int y1]) = H1 at k1 b1
    have k1' := there k1 b1
    by_cases hA : c < 9 ∧ (c < 7 ∨ turn = 0)
    · have h9 := hA.1
      have h2 : c < 7 ∨ (¬ c < 7 ∧ turn = 0) := by omega
      rcases h2 with h | ⟨h, h'⟩ <;> first
        | (refine ⟨_, rfl, _, _, rfl, rfl, _, rfl, ltT h9 ?_⟩; refine ⟨_, rfl, _, _, rfl, rfl, _, rfl, ltT h ?_⟩; refine iteT ?_)
        | (refine ⟨_, rfl, _, _, rfl, rfl, _, rfl, ltT h9 ?_⟩; refine ⟨_, rfl, _, _, rfl, rfl, _, rfl, ltF h ?_⟩; refine ⟨_, rfl, rfl, _, rfl, eqT h' ?_⟩; refine iteT (B := False) ?_)
      all_goals
        refine ⟨_, rfl, _, _, rfl, rfl, ⟨by decide, by decide, by decide⟩, _, _, rfl, rfl, by decide, fun t1 n1 => ⟨(by show 1 ≤ sizeLine; decide), fun t2 n2 => ⟨(by show 1 ≤ sizeLine; decide), fun t3 n3 => ⟨(by show 2 ≤ sizeLine; decide), fun l4 n4 => ⟨(by show 2 ≤ sizeLine; decide), fun l5 n5 => ⟨(by show 9 ≤ sizeLine; decide), fun l6 n6 => ⟨_, rfl, ?_⟩⟩⟩⟩⟩⟩⟩
        have s1 := same_upd (o := .tup []) n1
        have s2 := same_upd (o := .tup [.str "a"]) n2
        have s3 := same_upd (o := .tup [.str "ab"]) n3
        have s4 := same_upd (o := .lst [.str "ab", .ref t3]) n4
        have s5 := same_upd (o := .lst [.non, .int 1]) n5
        have s6 := same_upd (o := .lst [.bl true, .bl false, .int 0, .int (-1), .int (10 ^ 29 + 7), .ref t1, .ref t2, .ref l4, .ref l5]) n6
        have z5 := s5.trans s6
        have z4 := s4.trans z5
        have z3 := s3.trans z4
        have z2 := s2.trans z3
        have S := s1.trans z2
        have m2 := s1.free n2
        have m3 := (s1.trans s2).free n3
        have m4 := ((s1.trans s2).trans s3).free n4
        have m5 := (((s1.trans s2).trans s3).trans s4).free n5
        have w : ∀ {t : Addr}, H1 t = none → H t = none := fun {t} z => Classical.byContradiction fun y => k1' t y z
        have e1 := z2 _ _ (upd_same (H := H1) (a := t1) (o := .tup []))
        have e2 := z3 _ _ (upd_same (H := upd H1 t1 (.tup [])) (a := t2) (o := .tup [.str "a"]))
        have e3 := z4 _ _ (upd_same (H := upd (upd H1 t1 (.tup [])) t2 (.tup [.str "a"])) (a := t3) (o := .tup [.str "ab"]))
        have e4 := z5 _ _ (upd_same (H := upd (upd (upd H1 t1 (.tup [])) t2 (.tup [.str "a"])) t3 (.tup [.str "ab"])) (a := l4) (o := .lst [.str "ab", .ref t3]))
        have e5 := s6 _ _ (upd_same (H := upd (upd (upd (upd H1 t1 (.tup [])) t2 (.tup [.str "a"])) t3 (.tup [.str "ab"])) l4 (.lst [.str "ab", .ref t3])) (a := l5) (o := .lst [.non, .int 1]))
        have e6 := upd_same (H := upd (upd (upd (upd (upd H1 t1 (.tup [])) t2 (.tup [.str "a"])) t3 (.tup [.str "ab"])) l4 (.lst [.str "ab", .ref t3])) l5 (.lst [.non, .int 1])) (a := l6) (o := .lst [.bl true, .bl false, .int 0, .int (-1), .int (10 ^ 29 + 7), .ref t1, .ref t2, .ref l4, .ref l5])
        have o1 := w n1
        have o2 := w m2
        have o3 := w m3
        have o4 := w m4
        have o5 := w m5
        have key : ∀ G : Hp, Same H1 G → G t1 = some (.tup []) → G t2 = some (.tup [.str "a"]) → G t3 = some (.tup [.str "ab"]) → G l4 = some (.lst [.str "ab", .ref t3]) → G l5 = some (.lst [.non, .int 1]) → G l6 = some (.lst [V.bl true, .bl false, .int 0, .int (-1), .int (10 ^ 29 + 7), .ref t1, .ref t2, .ref l4, .ref l5]) →
            ∃ v, V.ref l6 = .ref l6 ∧ V.int c = .int c ∧ SqL K G l6 [V.bl true, .bl false, .int 0, .int (-1), .int (10 ^ 29 + 7), .ref t1, .ref t2, .ref l4, .ref l5] ∧ atI [V.bl true, .bl false, .int 0, .int (-1), .int (10 ^ 29 + 7), .ref t1, .ref t2, .ref l4, .ref l5] c = some v ∧ Q v G := by
          intro G S e1 e2 e3 e4 e5 e6
          have fin : ∀ v d, Dp K (newp H G) v d → goodD d → d.depth ≤ 2 → sz d ≤ 20 → Q v G := fun v d g1 g2 g3 g4 => q G v d (fun b o hb e => S _ _ (k1 b o hb e)) (bag_same b1 S) g1 g2 g3 g4
          have at1 : ∀ (u : V) (d : PyData), atI [V.bl true, .bl false, .int 0, .int (-1), .int (10 ^ 29 + 7), .ref t1, .ref t2, .ref l4, .ref l5] c = some u → Dp K (newp H G) u d → goodD d → d.depth ≤ 2 → sz d ≤ 20 → ∃ v, V.ref l6 = .ref l6 ∧ V.int c = .int c ∧ SqL K G l6 [.bl true, .bl false, .int 0, .int (-1), .int (10 ^ 29 + 7), .ref t1, .ref t2, .ref l4, .ref l5] ∧ atI [V.bl true, .bl false, .int 0, .int (-1), .int (10 ^ 29 + 7), .ref t1, .ref t2, .ref l4, .ref l5] c = some v ∧ Q v G :=
            fun u d h1 h2 h3 h4 h5 => ⟨u, rfl, rfl, SqL.of e6, h1, fin u d h2 h3 h4 h5⟩
          have pt : ∀ {t : Addr} {xs : List V}, H t = none → G t = some (.tup xs) → SqT K (newp H G) t xs := fun h1 h2 => SqT.of ((newp_at h1).trans h2)
          have pl : ∀ {t : Addr} {xs : List V}, H t = none → G t = some (.lst xs) → SqL K (newp H G) t xs := fun h1 h2 => SqL.of ((newp_at h1).trans h2)
          have hc : c = 0 ∨ c = 1 ∨ c = 2 ∨ c = 3 ∨ c = 4 ∨ c = 5 ∨ c = 6 ∨ c = 7 ∨ c = 8 := by omega
          rcases hc with rfl | rfl | rfl | rfl | rfl | rfl | rfl | rfl | rfl
          · exact at1 (.bl true) (.bool true) (atI_nat (j := 0) rfl) (.bl _) trivial (by decide) (by decide)
          · exact at1 (.bl false) (.bool false) (atI_nat (j := 1) rfl) (.bl _) trivial (by decide) (by decide)
          · exact at1 (.int 0) (.int 0) (atI_nat (j := 2) rfl) (.int _) (show (0 : Int).natAbs.log2 < 1920 by decide +kernel) (by decide) (by decide)
          · exact at1 (.int (-1)) (.int (-1)) (atI_nat (j := 3) rfl) (.int _) (show (-1 : Int).natAbs.log2 < 1920 by decide +kernel) (by decide) (by decide)
          · exact at1 (.int (10 ^ 29 + 7)) (.int (10 ^ 29 + 7)) (atI_nat (j := 4) rfl) (.int _) (show (10 ^ 29 + 7 : Int).natAbs.log2 < 1920 by decide +kernel) (by decide) (by decide)
          · exact at1 (.ref t1) (.tuple []) (atI_nat (j := 5) rfl) (.tup (pt o1 e1) .nil) (.inl rfl) (by decide) (by decide)
          · exact at1 (.ref t2) (.tuple [.str "a"]) (atI_nat (j := 6) rfl) (.tup (pt o2 e2) (.cons (.str _) .nil)) (.inr (.inl rfl)) (by simp [PyData.depth, PyData.depthAll]) (by decide)
          · exact at1 (.ref l4) (.list [.str "ab", .tuple [.str "ab"]]) (atI_nat (j := 7) rfl) (.lst (pl o4 e4) (.cons (.str _) (.cons (.tup (pt o3 e3) (.cons (.str _) .nil)) .nil))) ⟨(show ∀ c ∈ (("ab" : Str)).cps.toList, c < 1000 by decide +kernel), .inr (.inr rfl), trivial⟩ (by simp [PyData.depth, PyData.depthAll]) (by decide +kernel)
          · exact at1 (.ref l5) (.list [.none, .int 1]) (atI_nat (j := 8) rfl) (.lst (pl o5 e5) (.cons .non (.cons (.int _) .nil))) ⟨trivial, (show (1 : Int).natAbs.log2 < 1920 by decide +kernel), trivial⟩ (by simp [PyData.depth, PyData.depthAll]) (by decide +kernel)
        exact ⟨l6, _, c, key _ S e1 e2 e3 e4 e5 e6⟩
    · have hB : 9 ≤ c ∨ (c < 9 ∧ ¬ c < 7 ∧ turn ≠ 0) := by omega
      rcases hB with h | ⟨h, h', h2⟩ <;> first
        | (refine ⟨_, rfl, _, _, rfl, rfl, _, rfl, ltF (by omega) ?_⟩; refine iteF (A := False) ?_)
        | (refine ⟨_, rfl, _, _, rfl, rfl, _, rfl, ltT h ?_⟩; refine ⟨_, rfl, _, _, rfl, rfl, _, rfl, ltF h' ?_⟩; refine ⟨_, rfl, rfl, _, rfl, eqF h2 ?_⟩; refine iteF (A := False) ?_)
      all_goals
        refine ⟨_, rfl, p, 4, rfl, b1, by decide, by decide, fun H2 z k2 b2 lz zl => ?_⟩
        have zl2 : z.length ≤ 4 := by omega
        have zs : z.length ≤ sizeLine := Nat.le_trans zl2 (by decide)
        refine ⟨_, rfl, _, rfl, z, rfl, zs, _, _, rfl, rfl, p, _, rfl, b2, by omega, by omega, fun x3 y3 cc hc2 hc3 => ?_⟩
        have b3 : BagAt (upd H2 p (.lst [.int x3, .int y3])) p := ⟨_, _, upd_same⟩
        refine ⟨_, rfl, _, rfl, cc, rfl, z, rfl, zs, ?_⟩
        refine ⟨_, rfl, p, 11, rfl, b3, by decide, by decide, fun x4 y4 c4 h0 h1 => ?_⟩
        have ol : oddS.cps.toList.length = 11 := by decide +kernel
        have hat : oddS.cps.toList[c4.toNat]? = some (oddS.cps.toList[c4.toNat]'(by omega)) := List.getElem?_eq_getElem (by omega)
        have hc4 : c4 = ((c4.toNat : Nat) : Int) := by omega
        refine ⟨oddS, c4, _, rfl, rfl, (by show 11 ≤ sizeLine; decide), by rw [hc4]; exact atI_nat hat, ?_⟩
        have l1 := cut_len z none (some cc)
        have l2 := cut_len z (some cc) none
        have l1s : (cutS z none (some cc)).length + 1 ≤ sizeLine := Nat.le_trans (show _ ≤ 5 by omega) (by decide)
        refine ⟨_, _, rfl, rfl, l1s, ?_⟩
        refine ⟨_, rfl, _, rfl, cc, rfl, z, rfl, zs, ?_⟩
        have ll : (cutS z none (some cc) ++ (⟨#[oddS.cps.toList[c4.toNat]'(by omega)]⟩ : Str)).length = (cutS z none (some cc)).length + 1 := by
          rw [size_cat]
          rfl
        refine ⟨_, _, rfl, rfl, ?_, q _ _ (.str _) (fun b o hb e => ?_) ⟨_, _, upd_same⟩ (.str _) ?_ (by simp [PyData.depth]) ?_⟩
        · rw [ll]
          exact Nat.le_trans (show _ ≤ 9 by omega) (by decide)
        · rw [upd_ne hb, upd_ne hb]
          exact k2 b o hb (k1 b o hb e)
        · intro x hx
          have ea : ∀ a b : Str, (a ++ b).cps.toList = a.cps.toList ++ b.cps.toList := fun a b => by
            show (a.cps ++ b.cps).toList = _
            simp
          rw [ea, ea] at hx
          rcases List.mem_append.mp hx with y | y
          · rcases List.mem_append.mp y with y | y
            · exact Nat.lt_of_le_of_lt (lz x (cut_mem y)).2 (by decide)
            · have : x = oddS.cps.toList[c4.toNat]'(by omega) := by simpa using y
              rw [this]
              exact odd_small _ (List.getElem_mem _)
          · exact Nat.lt_of_le_of_lt (lz x (cut_mem y)).2 (by decide)
        · simp only [sz, size_cat, ll]
          omega
end
end TX
namespace TX
open PySem PySem.Spec PyProof.Rows L2
/-! ### what is shown -/
mutual
theorem good_shown : ∀ d : PyData, goodD d → d.showable = true ∧ d.hasDict = false ∧ d.leavesShort 1921 = true ∧ d.bulk + 1 ≤ 8 * sz d
  | .none, _ => ⟨rfl, rfl, rfl, by simp [PyData.bulk, sz]⟩
  | .bool _, _ => ⟨rfl, rfl, rfl, by simp [PyData.bulk, sz]⟩
  | .int i, h => by
    have l1 : i.natAbs.log2 < 1920 := h
    refine ⟨by simp only [PyData.showable, decide_eq_true l1], rfl, ?_, by simp [PyData.bulk, sz]⟩
    simp only [PyData.leavesShort, decide_eq_true_eq]
    simp only [PyData.shown]
    exact int_text_len_1921 l1
  | .str x, h => by
    refine ⟨rfl, rfl, ?_, ?_⟩
    · simp only [PyData.leavesShort, List.all_eq_true, decide_eq_true_eq]
      intro c hc
      exact Nat.lt_trans (h c hc) (by decide)
    · have e : x.length = x.cps.size := rfl
      simp only [PyData.bulk, sz]
      omega
  | .list es, h => by
    obtain ⟨h1, h2, h3, h4⟩ := good_shownAll es h
    refine ⟨by simpa [PyData.showable] using h1, by simpa [PyData.hasDict] using h2, by simpa [PyData.leavesShort] using h3, ?_⟩
    simp only [PyData.bulk, sz]
    omega
  | .tuple es, h => by
    rcases h with rfl | rfl | rfl
    · exact ⟨rfl, rfl, rfl, by decide +kernel⟩
    · exact ⟨by decide +kernel, by decide +kernel, by decide +kernel, by decide +kernel⟩
    · exact ⟨by decide +kernel, by decide +kernel, by decide +kernel, by decide +kernel⟩
  | .dict _, h => h.elim
theorem good_shownAll : ∀ ds : List PyData, goodAll ds → PyData.showableAll ds = true ∧ PyData.hasDictAll ds = false ∧ PyData.leavesShortAll 1921 ds = true ∧ PyData.bulkAll ds ≤ 8 * szAll ds
  | [], _ => ⟨rfl, rfl, rfl, by simp [PyData.bulkAll]⟩
  | d :: ds, h => by
    obtain ⟨a1, a2, a3, a4⟩ := good_shown d h.1
    obtain ⟨b1, b2, b3, b4⟩ := good_shownAll ds h.2
    refine ⟨by simp [PyData.showableAll, a1, b1], by simp [PyData.hasDictAll, a2, b2], by simp [PyData.leavesShortAll, a3, b3], ?_⟩
    simp only [PyData.bulkAll, szAll]
    omega
end
theorem good_fit {d : PyData} (hv : goodD d) (hs : sz d ≤ 1000) : d.shown.length ≤ sizeLine := by
  obtain ⟨_, _, h3, h4⟩ := good_shown d hv
  have e1 := PyData.shown_le_bulk 1921 (by decide) d h3
  have e2 : (1921 + 2) * d.bulk ≤ 1923 * 8000 := Nat.mul_le_mul_left _ (by omega)
  exact Nat.le_trans e1 (Nat.le_trans (Nat.add_le_add_right e2 _) (by decide))
mutual
theorem fault_small : ∀ (d : PyData) (p : List Nat), faultD d = some p → ∀ i ∈ p, i ≤ sz d
  | .list es, p, h => by
    intro i hi
    have := faultAll_small es 0 p (by simpa only [faultD] using h) i hi
    simp only [sz]
    omega
  | .none, p, h => by simp [faultD] at h
  | .str x, p, h => by
    simp only [faultD] at h
    split at h
    · cases h
    · cases h
      intro i hi
      exact nomatch hi
  | .bool _, p, h => by
    simp only [faultD] at h
    cases h
    intro i hi
    exact nomatch hi
  | .int _, p, h => by
    simp only [faultD] at h
    cases h
    intro i hi
    exact nomatch hi
  | .tuple _, p, h => by
    simp only [faultD] at h
    cases h
    intro i hi
    exact nomatch hi
  | .dict _, p, h => by
    simp only [faultD] at h
    cases h
    intro i hi
    exact nomatch hi
theorem faultAll_small : ∀ (es : List PyData) (k : Nat) (p : List Nat), faultAll k es = some p → ∀ i ∈ p, i ≤ k + szAll es
  | [], k, p, h => by simp [faultAll] at h
  | d :: ds, k, p, h => by
    intro i hi
    have dp := sz_pos d
    simp only [faultAll] at h
    cases e : faultD d with
    | some q =>
      rw [e] at h
      cases h
      simp only [szAll]
      rcases List.mem_cons.mp hi with z | z
      · omega
      · have := fault_small d q e i z
        omega
    | none =>
      rw [e] at h
      have := faultAll_small ds (k + 1) p h i hi
      simp only [szAll]
      omega
end
theorem nats_shown : ∀ p : List Nat, (∀ i ∈ p, i ≤ 1000) → PyData.showableAll (natD p) = true ∧ PyData.hasDictAll (natD p) = false ∧ PyData.leavesShortAll 1921 (natD p) = true ∧ PyData.bulkAll (natD p) ≤ 8 * p.length
  | [], _ => ⟨rfl, rfl, rfl, by simp [natD, PyData.bulkAll]⟩
  | i :: p, h => by
    obtain ⟨b1, b2, b3, b4⟩ := nats_shown p fun j hj => h j (List.mem_cons_of_mem _ hj)
    have hi := h i List.mem_cons_self
    have l1 : ((i : Nat) : Int).natAbs.log2 < 1920 := by
      have e : ((i : Nat) : Int).natAbs = i := by omega
      rw [e]
      by_cases z : i = 0
      · rw [z]
        decide
      · exact Nat.lt_trans ((Nat.log2_lt z).mpr (Nat.lt_of_le_of_lt hi (by decide : 1000 < 2 ^ 14))) (by decide)
    obtain ⟨a1, a2, a3, a4⟩ := good_shown (.int ((i : Nat) : Int)) l1
    unfold natD at b1 b2 b3 b4 ⊢
    rw [List.map_cons]
    refine ⟨by simp [PyData.showableAll, a1, b1], by simp [PyData.hasDictAll, a2, b2], by simp [PyData.leavesShortAll, a3, b3], ?_⟩
    have : sz (.int ((i : Nat) : Int)) = 1 := rfl
    simp only [PyData.bulkAll, List.length_cons]
    omega
theorem wrong_ok {d : PyData} (hs : sz d ≤ 1000) : (wrongD d).showable = true ∧ (wrongD d).hasDict = false ∧ (wrongD d).depth ≤ 60 ∧ (wrongD d).shown.length ≤ sizeLine ∧ SeqAt.shaped (wrongD d) = true := by
  unfold wrongD
  cases e : faultD d with
  | none => exact ⟨rfl, rfl, by decide, Nat.le_trans (show (PyData.list []).shown.length ≤ 10 by decide +kernel) (by decide), by decide +kernel⟩
  | some p =>
    have hp := fault_len d p e
    have hi := fault_small d p e
    obtain ⟨b1, b2, b3, b4⟩ := nats_shown p fun i h => Nat.le_trans (hi i h) hs
    refine ⟨by simp [PyData.showable, PyData.showableAll, b1], by simp [PyData.hasDict, PyData.hasDictAll, b2], ?_, ?_, shaped_wrong p⟩
    · simp only [PyData.depth, PyData.depthAll, dep_nats]
      omega
    · have hl : (PyData.list [.tuple (natD p)]).leavesShort 1921 = true := by simp only [PyData.leavesShort, PyData.leavesShortAll, b3, Bool.and_self]
      have hb : (PyData.list [.tuple (natD p)]).bulk ≤ 8 * 1000 + 20 := by
        simp only [PyData.bulk, PyData.bulkAll]
        omega
      have e1 := PyData.shown_le_bulk 1921 (by decide) _ hl
      have e2 : (1921 + 2) * (PyData.list [.tuple (natD p)]).bulk ≤ 1923 * (8 * 1000 + 20) := Nat.mul_le_mul_left _ hb
      exact Nat.le_trans e1 (Nat.le_trans (Nat.add_le_add_right e2 _) (by decide))
theorem spots_some (d : PyData) : 1 ≤ (spotsD d).length := by
  cases d <;> simp [spotsD]
theorem wrong_eqv (d : PyData) : PyData.eqv (wrongD d) (.list []) = (faultD d).isNone := by
  unfold wrongD
  cases faultD d with
  | none => decide +kernel
  | some p => simp [PyData.eqv, PyData.eqvAll]
def spWrongD (K : PySem.W.Frag) (N : Nat) : Sp := fun vs H Q _ => ∃ (v : V) (d : PyData) (Hv : Hp), vs = [v] ∧ Same Hv H ∧ Dp K Hv v d ∧ sz d ≤ 10000 ∧ d.depth ≤ N ∧ ∀ H' l, Same H H' → Dp K H' (.ref l) (wrongD d) → Q (.ref l) H'
theorem wrong_imp {K : PySem.W.Frag} {N : Nat} (vs : List V) (H : Hp) (Q : VK) (E : XK) (h : spWrongD K N vs H Q E) : spWrong K N vs H Q E := by
  obtain ⟨v, d, Hv, e, sv, hd, hz, hn, q⟩ := h
  refine ⟨v, d, Hv, e, sv, hd, hz, hn, fun en H' l s hl => q H' l s ?_, fun p en H' l t s hl ht => q H' l s ?_⟩
  · unfold wrongD
    rw [en]
    exact .lst (SqL.of hl) .nil
  · unfold wrongD
    rw [en]
    exact .lst (SqL.of hl) (.cons (.tup (SqT.of ht) (dp_nats p)) .nil)
theorem fn_imp {P : Program} {w : World} {K : PySem.W.Frag} {mg : Str → Option Value} {base : Heap} {C : CXT} {k : Nat} {f : Addr} {fd : FuncData} {ps : List Str} {sp sp' : Sp} (F : FnOk P w K mg base C k f fd ps sp) (h : ∀ vs H Q E, sp' vs H Q E → sp vs H Q E) : FnOk P w K mg base C k f fd ps sp' :=
  ⟨fun vs H Q E q => F.len vs H Q E (h _ _ _ _ q), fun A outer s H args us vs Q E hr e0 hb r q => F.run A outer s H args us vs Q E hr e0 hb r (h _ _ _ _ q)⟩
theorem mix_del {H8 H9 : Hp} {p : Addr} (s : Same H8 H9) (hp : H8 p ≠ none) : Same (mixp (del H8 p) H8 H9) (del H9 p) := fun b o e => by
  rcases mix_in e with h | ⟨_, h2, h3⟩
  · by_cases hb : b = p
    · rw [hb, del_same] at h
      cases h
    · rw [del_ne hb] at h ⊢
      exact s _ _ h
  · have hb : b ≠ p := fun z => hp (z ▸ h2)
    rw [del_ne hb]
    exact h3
end TX
namespace TX
open PySem PySem.Spec PyProof.Rows L2
structure Ml (mg : Str → Option Value) : Prop where
  max : mg "max" = none
  repr : mg "repr" = none
theorem bool_fit (b : Bool) : (PyData.bool b).shown.length ≤ sizeLine := by
  cases b with
  | true => exact Nat.le_trans (show (PyData.bool true).shown.length ≤ 10 by decide +kernel) (by decide)
  | false => exact Nat.le_trans (show (PyData.bool false).shown.length ≤ 10 by decide +kernel) (by decide)
def spLaw (K : PySem.W.Frag) : Sp := fun vs H Q _ => ∃ (a : Addr) (ns : List Int), vs = [.ref a] ∧ SqL K H a (ns.map V.int) ∧ ns.length ≤ 63 ∧ ∀ H', Q (.bl true) H'
section
variable {P : Program} {w : World} {K : PySem.W.Frag} {mg : Str → Option Value} {base : Heap}
/-- what the law calls -/
structure Lc (P : Program) (w : World) (K : PySem.W.Frag) (mg : Str → Option Value) (base : Heap) (a1 a2 a3 a4 a5 a6 a7 a8 a9 : Addr) (d1 d2 d3 d4 d5 d6 d7 d8 d9 : FuncData) : Prop where
  G1 : FnOk P w K mg base CX0 1 a1 d1 ["_law_script", "_law_at"] (spBag K)
  G2 : FnOk P w K mg base CX0 8 a2 d2 ["_law_bag_here"] (spGreat K)
  G3 : FnOk P w K mg base CX0 21 a3 d3 ["_law_thing"] (spWrongD K 20)
  G4 : FnOk P w K mg base CX0 6 a4 d4 ["_law_thing"] (spTold K)
  G5 : FnOk P w K mg base CX0 3 a5 d5 ["thing"] (spIsValue K)
  G6 : FnOk P w K mg base CX0 21 a6 d6 ["_law_value_here"] (spSpots K 20)
  G7 : FnOk P w K mg base CX0 21 a7 d7 ["_law_value_here", "_law_place", "_law_thing"] (spPut K 20)
  G8 : FnOk P w K mg base CX0 1 a8 d8 ["_law_bag_here", "_law_many"] spTake
  G9 : FnOk P w K mg base CX0 3 a9 d9 ["_law_bag_here", "_law_turn"] (spOdd K)
  b1 : Binds K d1 ["_law_script", "_law_at"] []
  b2 : Binds K d2 ["_law_bag_here"] []
  b3 : Binds K d3 ["_law_thing"] []
  b4 : Binds K d4 ["_law_thing"] []
  b5 : Binds K d5 ["thing"] []
  b6 : Binds K d6 ["_law_value_here"] []
  b7 : Binds K d7 ["_law_value_here", "_law_place", "_law_thing"] []
  b8 : Binds K d8 ["_law_bag_here", "_law_many"] []
  b9 : Binds K d9 ["_law_bag_here", "_law_turn"] []
  g1 : mg "_law_bag" = some (.ref a1)
  g2 : mg "_law_great" = some (.ref a2)
  g3 : mg "_law_wrong" = some (.ref a3)
  g4 : mg "_law_told" = some (.ref a4)
  g5 : mg "is_value" = some (.ref a5)
  g6 : mg "_law_spots" = some (.ref a6)
  g7 : mg "_law_put" = some (.ref a7)
  g8 : mg "_law_take" = some (.ref a8)
  g9 : mg "_law_odd" = some (.ref a9)
  k1 : PySem.W.keepIn K (.ref a1) = true
  k2 : PySem.W.keepIn K (.ref a2) = true
  k3 : PySem.W.keepIn K (.ref a3) = true
  k4 : PySem.W.keepIn K (.ref a4) = true
  k5 : PySem.W.keepIn K (.ref a5) = true
  k6 : PySem.W.keepIn K (.ref a6) = true
  k7 : PySem.W.keepIn K (.ref a7) = true
  k8 : PySem.W.keepIn K (.ref a8) = true
  k9 : PySem.W.keepIn K (.ref a9) = true
theorem scLaw : FnScope ["_law_script", "_law_at", "_law_bag_here", "_law_thing", "_law_turn", "_law_due", "_law_before", "_law_spots_here"] ["_law_script"] (defScope sLaw) := ⟨rfl, rfl, rfl, by decide +kernel, rfl, by decide +kernel, by decide +kernel⟩
theorem ok_law {f a1 a2 a3 a4 a5 a6 a7 a8 a9 : Addr} {fd d1 d2 d3 d4 d5 d6 d7 d8 d9 : FuncData} (F : Fun K "law" "law" sLaw f fd) (M : Ml mg) (B : Nb mg) (Y : Nv mg) (C : Lc P w K mg base a1 a2 a3 a4 a5 a6 a7 a8 a9 d1 d2 d3 d4 d5 d6 d7 d8 d9) : FnG P w K mg base CX0 22 f fd ["_law_script"] (spLaw K) := by
  refine fng_of F scLaw (fun vs H Q E h => ?_) (fun cdv A outer s H vs Q E hgd hr h => ?_)
  · obtain ⟨a, ns, rfl, _⟩ := h
    rfl
  · obtain ⟨a, ns, rfl, hS, hn, q⟩ := h
    have hu := hr.units
    have r1 : Room 1 _ := hr.mono (by decide)
    have r3 : Room 3 _ := hr.mono (by decide)
    have r6 : Room 6 _ := hr.mono (by decide)
    have r8 : Room 8 _ := hr.mono (by decide)
    refine ⟨_, pss_cons (ps_for PassesOwn.never rfl (pi_range1 (by rfl) Y.range (pa_cons (pe_callB (call_max2 rfl) (by rfl) M.max (by decide +kernel) (pa_cons pe_int (pa_cons (pe_callB (call_min2 rfl) (by rfl) Y.min (by decide +kernel) (pa_cons pe_int (pa_cons (pe_callB call_len_seq (by rfl) B.len PySem.boot_len (pa_cons (pv 0) pa_nil)) pa_nil))) pa_nil))) pa_nil))
        (pg_name (i := 1) scLaw.nd rfl (.inl rfl)) (
        pss_cons (ps_set (i := 2) scLaw.nd rfl (.inl rfl) (pe_call C.G1 r1 (by rfl) C.g1 C.k1 C.b1 .nil pass0 (pa_cons (pv 0) (pa_cons (pv 1) pa_nil)))) <|
        pss_cons (ps_set (i := 3) scLaw.nd rfl (.inl rfl) (pe_call C.G2 r8 (by rfl) C.g2 C.k2 C.b2 .nil pass0 (pa_cons (pv 2) pa_nil))) <|
        pss_one (ps_for PassesOwn.never rfl (pi_range1 (by rfl) Y.range (pa_cons pe_int pa_nil)) (pg_name (i := 4) scLaw.nd rfl (.inl rfl)) (
          pss_cons (ps_par (i := 5) (j := 6) rfl scLaw.nd rfl rfl (by decide) rfl rfl (pa_cons (pe_call C.G3 hr (by rfl) C.g3 C.k3 C.b3 .nil pass0 (pa_cons (pv 3) pa_nil)) (pa_cons (pe_callB (call_repr hgd hu) (by rfl) M.repr (by decide +kernel) (pa_cons (pv 3) pa_nil)) pa_nil)) (by rfl)) <|
          pss_cons (ps_if (PW.pt (pw_or (pt_cmpR op_ne (pe_callB (call_repr hgd hu) (by rfl) M.repr (by decide +kernel) (pa_cons (pe_call C.G4 r6 (by rfl) C.g4 C.k4 C.b4 .nil pass0 (pa_cons (pv 3) pa_nil)) pa_nil)) (pe_callB (call_repr hgd hu) (by rfl) M.repr (by decide +kernel) (pa_cons (pv 5) pa_nil)) (nomark _))
              (pw_or1 (pt_cmpR op_ne (pe_callB (call_repr hgd hu) (by rfl) M.repr (by decide +kernel) (pa_cons (pe_call C.G5 r3 (by rfl) C.g5 C.k5 C.b5 .nil pass0 (pa_cons (pv 3) pa_nil)) pa_nil)) (pe_callB (call_repr hgd hu) (by rfl) M.repr (by decide +kernel) (pa_cons (pe_cmpR (op_eqD hr.units) (pv 5) (pe_lst pa_nil) (nomark _)) pa_nil)) (nomark _)))))
            (pss_one (ps_ret pe_bl)) pss_nil) <|
          pss_cons (ps_if (pt_cmpR op_ne (pe_callB (call_repr hgd hu) (by rfl) M.repr (by decide +kernel) (pa_cons (pv 3) pa_nil)) (pv 6) (nomark _)) (pss_one (ps_ret pe_bl)) pss_nil) <|
          pss_cons (ps_set (i := 7) scLaw.nd rfl (.inl rfl) (pe_call C.G6 hr (by rfl) C.g6 C.k6 C.b6 .nil pass0 (pa_cons (pv 3) pa_nil))) <|
          pss_one (ps_set (i := 3) scLaw.nd rfl (.inl rfl) (pe_call C.G7 hr (by rfl) C.g7 C.k7 C.b7 .nil pass0 (pa_cons (pv 3)
            (pa_cons (pe_ix ix_list (pv 7) (pe_call C.G8 r1 (by rfl) C.g8 C.k8 C.b8 .nil pass0 (pa_cons (pv 2) (pa_cons (pe_callB call_len_seq (by rfl) B.len PySem.boot_len (pa_cons (pv 7) pa_nil)) pa_nil))) (fun _ _ => rfl))
            (pa_cons (pe_call C.G9 r3 (by rfl) C.g9 C.k9 C.b9 .nil pass0 (pa_cons (pv 2) (pa_cons (pv 4) pa_nil))) pa_nil)))))))))
      (pss_one (ps_ret pe_bl)), ?_⟩
    refine ⟨_, rfl, a, _, rfl, .inl hS, _, _, rfl, _, _, rfl, _, rfl, ?_, ?_, ?_⟩
    · split <;> (try split) <;> omega
    · split <;> (try split) <;> omega
    refine for_range (lo := 0) (fun i σ H1 => ∃ y1 y2 y3 y4 y5 y6 y7, σ = [some (.ref a), y1, y2, y3, y4, y5, y6, y7] ∧ Same H H1) ⟨_, _, _, _, _, _, _, rfl, Same.refl _⟩ ?_ ?_
    · rintro i σ H1 hi ⟨y1, y2, y3, y4, y5, y6, y7, rfl, sm⟩
      have e0 : (0 : Int) + (i : Int) = (i : Int) := by omega
      rw [e0]
      refine ⟨_, rfl, _, rfl, a, ns, i, rfl, sm.seq hS, hn, fun H2 p s2 np bag => ?_⟩
      refine ⟨_, rfl, p, rfl, bag, fun H3 v0 d0 k3 bag3 hv0 vd dd0 sz0 => ?_⟩
      have np0 : H p = none := sm.free np
      have s3 : Same H H3 := fun b o e => k3 b o (ne_of_none e np0) (s2 b o (sm b o e))
      have hvd : Dp K (del H3 p) v0 d0 := dp_same (fun b o e => by
        obtain ⟨bx, by_, eb⟩ := bag
        have hb : b ≠ p := fun z => by
          rw [z, newp_old eb] at e
          cases e
        rw [del_ne hb]
        exact newp_same _ _ e) _ _ hv0
      refine ⟨4, rfl, by decide, by decide, for_range (lo := 0) (n := 4) (fun j σ H4 => ∃ (v : V) (d : PyData) (z4 z5 z6 z7 : Option V), σ = [some (.ref a), some (.int i), some (.ref p), some v, z4, z5, z6, z7] ∧ Same H H4 ∧ BagAt H4 p ∧ Dp K (del H4 p) v d ∧ goodD d ∧ d.depth ≤ 13 + 2 * j ∧ sz d ≤ 500 + 20 * j)
        ⟨v0, d0, _, _, _, _, rfl, s3, bag3, hvd, good_of_val _ vd, by omega, by omega⟩ ?_ ?_⟩
      · rintro j σ H4 hj ⟨v, d, z4, z5, z6, z7, rfl, s4, bag4, hv, gd, dd, sd⟩
        have e1 : (0 : Int) + (j : Int) = (j : Int) := by omega
        rw [e1]
        have dl4 : Same (del H4 p) H4 := fun b o e => by
          by_cases hb : b = p
          · rw [hb, del_same] at e
            cases e
          · rw [del_ne hb] at e
            exact e
        obtain ⟨w1, w2, _, _⟩ := good_shown d gd
        have w3 := good_fit gd (by omega)
        obtain ⟨u1, u2, u3, u4, u5⟩ := wrong_ok (d := d) (by omega)
        -- due, before
        refine ⟨_, rfl, v, d, del H4 p, rfl, dl4, hv, by omega, by omega, fun H5 l5 s5 hl5 => ?_⟩
        refine ⟨_, rfl, v, d, rfl, dp_same (dl4.trans s5) _ _ hv, w1, w2, by omega, w3, ?_⟩
        refine ⟨_, _, rfl, ?_⟩
        refine ⟨_, rfl, v, d, del H4 p, rfl, dl4.trans s5, hv, by omega, fun H6 l6 s6 hl6 => ⟨_, wrongD d, rfl, hl6, u1, u2, u3, u4, ?_⟩⟩
        refine ⟨_, rfl, .ref l5, wrongD d, rfl, dp_same s6 _ _ hl5, u1, u2, u3, u4, rfl, _, rfl, ?_⟩
        refine iteNS rfl ?_
        have s46 : Same H4 H6 := s5.trans s6
        refine ⟨_, rfl, v, d, del H4 p, rfl, dl4.trans s46, hv, by omega, fun H7 s7 => ⟨.bl _, .bool _, rfl, .bl _, rfl, rfl, by simp [PyData.depth], bool_fit _, ?_⟩⟩
        refine ⟨_, rfl, by decide, fun l7 n7 => ⟨wrongD d, .list [], dp_same (s6.trans (s7.trans (same_upd n7))) _ _ hl5, .lst (SqL.of upd_same) .nil, u5, by decide +kernel, ?_⟩⟩
        rw [wrong_eqv]
        have s47 : Same H4 (upd H7 l7 (.lst [])) := s46.trans (s7.trans (same_upd n7))
        generalize upd H7 l7 (.lst []) = G7 at s47
        refine ⟨.bl _, .bool _, rfl, .bl _, rfl, rfl, by simp [PyData.depth], bool_fit _, rfl, _, rfl, iteNS rfl ?_⟩
        refine ⟨_, rfl, v, d, rfl, dp_same (dl4.trans s47) _ _ hv, w1, w2, by omega, w3, _, rfl, rfl, _, rfl, iteNS rfl ?_⟩
        refine ⟨_, rfl, v, d, del H4 p, rfl, dl4.trans s47, hv, by omega, by omega, fun H8 l8 xs8 s8 hl8 ht8 => ?_⟩
        have s48 : Same H4 H8 := s47.trans s8
        have bag8 := bag_same bag4 s48
        have xl := ht8.len
        have sp1 := spots_some d
        have sp2 := spots_len d
        have lp : l8 ≠ p := fun z => by
          obtain ⟨bx, by_, eb⟩ := bag8
          rw [z, eb] at hl8
          cases hl8
          cases ht8
        refine ⟨_, rfl, _, rfl, _, rfl, _, rfl, l8, xs8, rfl, .inl (SqL.of hl8), p, _, rfl, bag8, by omega, by omega, fun bx by_ c hc0 hc1 => ?_⟩
        have hx : xs8[c.toNat]? = some (xs8[c.toNat]'(by omega)) := List.getElem?_eq_getElem (by omega)
        obtain ⟨t, pl, et, hpl, ht⟩ := ht8.get hx
        rw [et] at hx
        have hc : c = ((c.toNat : Nat) : Int) := by omega
        have pm := List.mem_of_getElem? hpl
        have pd := spots_deep d pl pm
        have tp : t ≠ p := fun z => by
          obtain ⟨bx, by_, eb⟩ := bag8
          rw [z, eb] at ht
          cases ht
        refine ⟨l8, xs8, c, .ref t, rfl, rfl, SqL.of ((upd_ne lp).trans hl8), by rw [hc]; exact atI_nat hx, ?_⟩
        have k9 : ∀ b o, b ≠ p → H8 b = some o → upd H8 p (.lst [.int bx, .int by_]) b = some o := fun b o hb e => (upd_ne hb).trans e
        have bag9 : BagAt (upd H8 p (.lst [.int bx, .int by_])) p := ⟨_, _, upd_same⟩
        generalize upd H8 p (.lst [.int bx, .int by_]) = H9 at k9 bag9
        refine ⟨_, rfl, _, rfl, p, _, rfl, bag9, fun H10 u e k10 bag10 hu ge de se => ?_⟩
        have k410 : ∀ b o, b ≠ p → H4 b = some o → H10 b = some o := fun b o hb e => k10 b o hb (k9 b o hb (s48 b o e))
        have dl10 : Same (del H10 p) H10 := fun b o e => by
          by_cases hb : b = p
          · rw [hb, del_same] at e
            cases e
          · rw [del_ne hb] at e
            exact e
        have p10 : H10 p ≠ none := by
          obtain ⟨bx, by_, eb⟩ := bag10
          rw [eb]
          exact fun z => nomatch z
        refine ⟨v, u, t, d, e, pl, del H10 p, rfl, dl10, dp_same (fun b o e => ?_) _ _ hv, dp_same (fun b o e => ?_) _ _ hu, k10 _ _ tp (k9 _ _ tp ht), by omega, by omega, by omega, fun H11 v' s11 hv' => ?_⟩
        · by_cases hb : b = p
          · rw [hb, del_same] at e
            cases e
          · rw [del_ne hb] at e ⊢
            exact k410 b o hb e
        · obtain ⟨bx, by_, eb⟩ := bag9
          have hb : b ≠ p := fun z => by
            rw [z, newp_old eb] at e
            cases e
          rw [del_ne hb]
          exact newp_same _ _ e
        · have pz := putD_sz e pl d
          have pq := putD_dep e pl d
          exact ⟨v', putD pl d e, _, _, _, _, rfl, fun b o e => s11 _ _ (k410 b o (ne_of_none e np0) (s4 b o e)), bag_same bag10 s11, dp_same (mix_del s11 p10) _ _ hv', putD_good ge pl d gd, by omega, by omega⟩
      · rintro σ H4 ⟨v, d, z4, z5, z6, z7, rfl, s4, _⟩
        exact ⟨_, _, _, _, _, _, _, rfl, s4⟩
    · rintro σ H1 _
      exact q _
end
end TX
namespace TX
open PySem PySem.Spec PyProof.Rows L2
theorem all_mk {P : Program} {w : World} {K : PySem.W.Frag} {h : Heap} {mg : Str → Option Value} {fa TE f0 f1 f2 f3 f4 f5 f6 f7 f8 f9 f10 f11 f12 f13 f14 f15 f16 f17 f18 BV fI NP BP : Addr} (X : K.In h) (G : h.Ns mainGlobals mg) (hfa : mg "law" = some (.ref fa))
    {od0 an0 : Option Addr} {sl0 : Array (Option Value)} {oc0 kV0 dc0 pm0 cd0 ct0 : Value}
    {od1 an1 : Option Addr} {sl1 : Array (Option Value)} {oc1 kV1 dc1 pm1 cd1 ct1 : Value}
    {od2 an2 : Option Addr} {sl2 : Array (Option Value)} {oc2 kV2 dc2 pm2 cd2 ct2 : Value}
    {od3 an3 : Option Addr} {sl3 : Array (Option Value)} {oc3 kV3 dc3 pm3 cd3 ct3 : Value}
    {od4 an4 : Option Addr} {sl4 : Array (Option Value)} {oc4 kV4 dc4 pm4 cd4 ct4 : Value}
    {od5 an5 : Option Addr} {sl5 : Array (Option Value)} {oc5 kV5 dc5 pm5 cd5 ct5 : Value}
    {od6 an6 : Option Addr} {sl6 : Array (Option Value)} {oc6 kV6 dc6 pm6 cd6 ct6 : Value}
    {od7 an7 : Option Addr} {sl7 : Array (Option Value)} {oc7 kV7 dc7 pm7 cd7 ct7 : Value}
    {od8 an8 : Option Addr} {sl8 : Array (Option Value)} {oc8 kV8 dc8 pm8 cd8 ct8 : Value}
    {od9 an9 : Option Addr} {sl9 : Array (Option Value)} {oc9 kV9 dc9 pm9 cd9 ct9 : Value}
    {od10 an10 : Option Addr} {sl10 : Array (Option Value)} {oc10 kV10 dc10 pm10 cd10 ct10 : Value}
    {od11 an11 : Option Addr} {sl11 : Array (Option Value)} {oc11 kV11 dc11 pm11 cd11 ct11 : Value}
    {od12 an12 : Option Addr} {sl12 : Array (Option Value)} {oc12 kV12 dc12 pm12 cd12 ct12 : Value}
    {od13 an13 : Option Addr} {sl13 : Array (Option Value)} {oc13 kV13 dc13 pm13 cd13 ct13 : Value}
    {od14 an14 : Option Addr} {sl14 : Array (Option Value)} {oc14 kV14 dc14 pm14 cd14 ct14 : Value}
    {od15 an15 : Option Addr} {sl15 : Array (Option Value)} {oc15 kV15 dc15 pm15 cd15 ct15 : Value}
    {od16 an16 : Option Addr} {sl16 : Array (Option Value)} {oc16 kV16 dc16 pm16 cd16 ct16 : Value}
    {od17 an17 : Option Addr} {sl17 : Array (Option Value)} {oc17 kV17 dc17 pm17 cd17 ct17 : Value}
    {od18 an18 : Option Addr} {sl18 : Array (Option Value)} {oc18 kV18 dc18 pm18 cd18 ct18 : Value}
    {nmT qT : Str} {NT : Addr} {bsT mrT : List Value} {hdT : Bool} {snT : List Str} {subT : List Value} {abT : Bool} {colT : Option Bool} {ddT : Option Addr} {m0T m1T m2T m3T m5T : Option Value}
    {tA : Tok}
    {nmBV qBV : Str} {NBV : Addr} {bsBV : List Value} {snBV : List Str} {subBV : List Value} {abBV : Bool} {colBV : Option Bool} {ddBV : Option Addr} {m0BV m1BV m2BV m3BV m5BV : Option Value}
    {odI anI : Option Addr} {slI : Array (Option Value)} {ocI kVI dcI pmI cdI ctI : Value}
    {nmNP qNP : Str} {NNP : Addr} {bsNP : List Value} {snNP : List Str} {subNP : List Value} {abNP : Bool} {colNP : Option Bool} {ddNP : Option Addr} {m0NP m1NP m2NP m3NP m5NP : Option Value}
    {nmBP qBP : Str} {NBP : Addr} {bsBP : List Value} {snBP : List Str} {subBP : List Value} {abBP : Bool} {colBP : Option Bool} {ddBP : Option Addr} {m0BP m1BP m2BP m3BP m5BP : Option Value}
    (a0 : PySem.W.nsIn K mainGlobals "all_parts" = some (some (.ref f0)))
    (l0 : K.lookup f0 = some ⟨oc0, od0, .func (PySem.W.fnOf "all_parts" "all_parts" (defArgs sParts) (defBody sParts) (defScope sParts) .none kV0 dc0 pm0 an0 cd0 ct0), sl0⟩)
    (c0 : PySem.W.codeIn K cd0 "all_parts" = true)
    (k0 : PySem.W.keepIn K (.ref f0) = true)
    (a1 : PySem.W.nsIn K mainGlobals "copy_of" = some (some (.ref f1)))
    (l1 : K.lookup f1 = some ⟨oc1, od1, .func (PySem.W.fnOf "copy_of" "copy_of" (defArgs sCopy) (defBody sCopy) (defScope sCopy) .none kV1 dc1 pm1 an1 cd1 ct1), sl1⟩)
    (c1 : PySem.W.codeIn K cd1 "copy_of" = true)
    (k1 : PySem.W.keepIn K (.ref f1) = true)
    (a2 : PySem.W.nsIn K mainGlobals "is_text" = some (some (.ref f2)))
    (l2 : K.lookup f2 = some ⟨oc2, od2, .func (PySem.W.fnOf "is_text" "is_text" (defArgs s_is_text) (defBody s_is_text) (defScope s_is_text) .none kV2 dc2 pm2 an2 cd2 ct2), sl2⟩)
    (c2 : PySem.W.codeIn K cd2 "is_text" = true)
    (k2 : PySem.W.keepIn K (.ref f2) = true)
    (a3 : PySem.W.nsIn K mainGlobals "place_of_last" = some (some (.ref f3)))
    (l3 : K.lookup f3 = some ⟨oc3, od3, .func (PySem.W.fnOf "place_of_last" "place_of_last" (defArgs s_place_of_last) (defBody s_place_of_last) (defScope s_place_of_last) .none kV3 dc3 pm3 an3 cd3 ct3), sl3⟩)
    (c3 : PySem.W.codeIn K cd3 "place_of_last" = true)
    (k3 : PySem.W.keepIn K (.ref f3) = true)
    (a4 : PySem.W.nsIn K mainGlobals "first_fault" = some (some (.ref f4)))
    (l4 : K.lookup f4 = some ⟨oc4, od4, .func (PySem.W.fnOf "first_fault" "first_fault" (defArgs s_first_fault) (defBody s_first_fault) (defScope s_first_fault) .none kV4 dc4 pm4 an4 cd4 ct4), sl4⟩)
    (c4 : PySem.W.codeIn K cd4 "first_fault" = true)
    (k4 : PySem.W.keepIn K (.ref f4) = true)
    (a5 : PySem.W.nsIn K mainGlobals "check_value" = some (some (.ref f5)))
    (l5 : K.lookup f5 = some ⟨oc5, od5, .func (PySem.W.fnOf "check_value" "check_value" (defArgs s_check_value) (defBody s_check_value) (defScope s_check_value) .none kV5 dc5 pm5 an5 cd5 ct5), sl5⟩)
    (c5 : PySem.W.codeIn K cd5 "check_value" = true)
    (k5 : PySem.W.keepIn K (.ref f5) = true)
    (a6 : PySem.W.nsIn K mainGlobals "is_value" = some (some (.ref f6)))
    (l6 : K.lookup f6 = some ⟨oc6, od6, .func (PySem.W.fnOf "is_value" "is_value" (defArgs s_is_value) (defBody s_is_value) (defScope s_is_value) .none kV6 dc6 pm6 an6 cd6 ct6), sl6⟩)
    (c6 : PySem.W.codeIn K cd6 "is_value" = true)
    (k6 : PySem.W.keepIn K (.ref f6) = true)
    (a7 : PySem.W.nsIn K mainGlobals "_law_bag" = some (some (.ref f7)))
    (l7 : K.lookup f7 = some ⟨oc7, od7, .func (PySem.W.fnOf "_law_bag" "_law_bag" (defArgs sBag) (defBody sBag) (defScope sBag) .none kV7 dc7 pm7 an7 cd7 ct7), sl7⟩)
    (c7 : PySem.W.codeIn K cd7 "_law_bag" = true)
    (k7 : PySem.W.keepIn K (.ref f7) = true)
    (a8 : PySem.W.nsIn K mainGlobals "_law_take" = some (some (.ref f8)))
    (l8 : K.lookup f8 = some ⟨oc8, od8, .func (PySem.W.fnOf "_law_take" "_law_take" (defArgs sTake) (defBody sTake) (defScope sTake) .none kV8 dc8 pm8 an8 cd8 ct8), sl8⟩)
    (c8 : PySem.W.codeIn K cd8 "_law_take" = true)
    (k8 : PySem.W.keepIn K (.ref f8) = true)
    (a9 : PySem.W.nsIn K mainGlobals "_law_text" = some (some (.ref f9)))
    (l9 : K.lookup f9 = some ⟨oc9, od9, .func (PySem.W.fnOf "_law_text" "_law_text" (defArgs sText) (defBody sText) (defScope sText) .none kV9 dc9 pm9 an9 cd9 ct9), sl9⟩)
    (c9 : PySem.W.codeIn K cd9 "_law_text" = true)
    (k9 : PySem.W.keepIn K (.ref f9) = true)
    (a10 : PySem.W.nsIn K mainGlobals "_law_size" = some (some (.ref f10)))
    (l10 : K.lookup f10 = some ⟨oc10, od10, .func (PySem.W.fnOf "_law_size" "_law_size" (defArgs sSize) (defBody sSize) (defScope sSize) .none kV10 dc10 pm10 an10 cd10 ct10), sl10⟩)
    (c10 : PySem.W.codeIn K cd10 "_law_size" = true)
    (k10 : PySem.W.keepIn K (.ref f10) = true)
    (a11 : PySem.W.nsIn K mainGlobals "_law_value" = some (some (.ref f11)))
    (l11 : K.lookup f11 = some ⟨oc11, od11, .func (PySem.W.fnOf "_law_value" "_law_value" (defArgs sValue) (defBody sValue) (defScope sValue) .none kV11 dc11 pm11 an11 cd11 ct11), sl11⟩)
    (c11 : PySem.W.codeIn K cd11 "_law_value" = true)
    (k11 : PySem.W.keepIn K (.ref f11) = true)
    (a12 : PySem.W.nsIn K mainGlobals "_law_great" = some (some (.ref f12)))
    (l12 : K.lookup f12 = some ⟨oc12, od12, .func (PySem.W.fnOf "_law_great" "_law_great" (defArgs sGreat) (defBody sGreat) (defScope sGreat) .none kV12 dc12 pm12 an12 cd12 ct12), sl12⟩)
    (c12 : PySem.W.codeIn K cd12 "_law_great" = true)
    (k12 : PySem.W.keepIn K (.ref f12) = true)
    (a13 : PySem.W.nsIn K mainGlobals "_law_spots" = some (some (.ref f13)))
    (l13 : K.lookup f13 = some ⟨oc13, od13, .func (PySem.W.fnOf "_law_spots" "_law_spots" (defArgs s__law_spots) (defBody s__law_spots) (defScope s__law_spots) .none kV13 dc13 pm13 an13 cd13 ct13), sl13⟩)
    (c13 : PySem.W.codeIn K cd13 "_law_spots" = true)
    (k13 : PySem.W.keepIn K (.ref f13) = true)
    (a14 : PySem.W.nsIn K mainGlobals "_law_put" = some (some (.ref f14)))
    (l14 : K.lookup f14 = some ⟨oc14, od14, .func (PySem.W.fnOf "_law_put" "_law_put" (defArgs s__law_put) (defBody s__law_put) (defScope s__law_put) .none kV14 dc14 pm14 an14 cd14 ct14), sl14⟩)
    (c14 : PySem.W.codeIn K cd14 "_law_put" = true)
    (k14 : PySem.W.keepIn K (.ref f14) = true)
    (a15 : PySem.W.nsIn K mainGlobals "_law_odd" = some (some (.ref f15)))
    (l15 : K.lookup f15 = some ⟨oc15, od15, .func (PySem.W.fnOf "_law_odd" "_law_odd" (defArgs s__law_odd) (defBody s__law_odd) (defScope s__law_odd) .none kV15 dc15 pm15 an15 cd15 ct15), sl15⟩)
    (c15 : PySem.W.codeIn K cd15 "_law_odd" = true)
    (k15 : PySem.W.keepIn K (.ref f15) = true)
    (a16 : PySem.W.nsIn K mainGlobals "_law_wrong" = some (some (.ref f16)))
    (l16 : K.lookup f16 = some ⟨oc16, od16, .func (PySem.W.fnOf "_law_wrong" "_law_wrong" (defArgs s__law_wrong) (defBody s__law_wrong) (defScope s__law_wrong) .none kV16 dc16 pm16 an16 cd16 ct16), sl16⟩)
    (c16 : PySem.W.codeIn K cd16 "_law_wrong" = true)
    (k16 : PySem.W.keepIn K (.ref f16) = true)
    (a17 : PySem.W.nsIn K mainGlobals "_law_told" = some (some (.ref f17)))
    (l17 : K.lookup f17 = some ⟨oc17, od17, .func (PySem.W.fnOf "_law_told" "_law_told" (defArgs sTold) (defBody sTold) (defScope sTold) .none kV17 dc17 pm17 an17 cd17 ct17), sl17⟩)
    (c17 : PySem.W.codeIn K cd17 "_law_told" = true)
    (k17 : PySem.W.keepIn K (.ref f17) = true)
    (a18 : PySem.W.nsIn K mainGlobals "law" = some (some (.ref f18)))
    (l18 : K.lookup f18 = some ⟨oc18, od18, .func (PySem.W.fnOf "law" "law" (defArgs sLaw) (defBody sLaw) (defScope sLaw) .none kV18 dc18 pm18 an18 cd18 ct18), sl18⟩)
    (c18 : PySem.W.codeIn K cd18 "law" = true)
    (k18 : PySem.W.keepIn K (.ref f18) = true)
    (aAl : PySem.W.nsIn K mainGlobals "ALPHABET" = some (some (.str "abcdefghijklmnopqrstuvwxyz" tA)))
    (aTE : PySem.W.nsIn K mainGlobals "TextorlistError" = some (some (.ref TE)))
    (lTE : K.lookup TE = some (excClassObj nmT qT TE NT bsT mrT hdT snT subT abT colT ddT m0T m1T m2T m3T m5T "ValueError.__new__"))
    (tTE : PySem.W.typeIn K (.ref TE) = some (.type "type"))
    (hn : PySem.W.specialIn K (.builtin "object.__class__") "__get__" = some (some (.builtin "getset_descriptor.__get__")))
    (ht : PySem.W.takesIn K (.builtin "object.__class__") = some true)
    (aCBV : PySem.W.nsIn K mainGlobals "BadValue" = some (some (.ref BV)))
    (xBV : K.lookup BV = some (excClassObj nmBV qBV BV NBV bsBV [.ref TE, .type "ValueError", .type "Exception", .type "BaseException", .type "object"] true snBV subBV abBV colBV ddBV m0BV m1BV m2BV m3BV m5BV "ValueError.__new__"))
    (saBV : PySem.W.findIn K (.ref BV) "__setattr__" = some (some (.builtin "object.__setattr__")))
    (gaBV : PySem.W.findIn K (.ref BV) "__getattribute__" = some (some (.builtin "BaseException.__getattribute__")))
    (ggBV : PySem.W.findIn K (.ref BV) "__getattr__" = some none)
    (haBV : PySem.W.findIn K (.ref BV) "__class__" = some (some (.builtin "object.__class__")))
    (kcBV : PySem.W.keepIn K (.ref BV) = true)
    (aI : PySem.W.findIn K (.ref BV) "__init__" = some (some (.ref fI)))
    (lI : K.lookup fI = some ⟨ocI, odI, .func (PySem.W.fnOf "__init__" "BadValue.__init__" (defArgs mBadValue_init) (defBody mBadValue_init) (defScope mBadValue_init) .none kVI dcI pmI anI cdI ctI), slI⟩)
    (cI : PySem.W.codeIn K cdI "BadValue.__init__" = true)
    (kI : PySem.W.keepIn K (.ref fI) = true)
    (nP : PySem.W.findIn K (.ref BV) "place" = some none)
    (ti : PySem.W.typeIn K (.ref fI) = some (.type "function"))
    (aCNP : PySem.W.nsIn K mainGlobals "NoPlace" = some (some (.ref NP)))
    (xNP : K.lookup NP = some (excClassObj nmNP qNP NP NNP bsNP [.ref TE, .type "ValueError", .type "Exception", .type "BaseException", .type "object"] true snNP subNP abNP colNP ddNP m0NP m1NP m2NP m3NP m5NP "ValueError.__new__"))
    (saNP : PySem.W.findIn K (.ref NP) "__setattr__" = some (some (.builtin "object.__setattr__")))
    (gaNP : PySem.W.findIn K (.ref NP) "__getattribute__" = some (some (.builtin "BaseException.__getattribute__")))
    (ggNP : PySem.W.findIn K (.ref NP) "__getattr__" = some none)
    (haNP : PySem.W.findIn K (.ref NP) "__class__" = some (some (.builtin "object.__class__")))
    (kcNP : PySem.W.keepIn K (.ref NP) = true)
    (aCBP : PySem.W.nsIn K mainGlobals "BadProgram" = some (some (.ref BP)))
    (xBP : K.lookup BP = some (excClassObj nmBP qBP BP NBP bsBP [.ref TE, .type "ValueError", .type "Exception", .type "BaseException", .type "object"] true snBP subBP abBP colBP ddBP m0BP m1BP m2BP m3BP m5BP "ValueError.__new__"))
    (saBP : PySem.W.findIn K (.ref BP) "__setattr__" = some (some (.builtin "object.__setattr__")))
    (gaBP : PySem.W.findIn K (.ref BP) "__getattribute__" = some (some (.builtin "BaseException.__getattribute__")))
    (ggBP : PySem.W.findIn K (.ref BP) "__getattr__" = some none)
    (haBP : PySem.W.findIn K (.ref BP) "__class__" = some (some (.builtin "object.__class__")))
    (kcBP : PySem.W.keepIn K (.ref BP) = true)
    (zisinstance : PySem.W.nsIn K mainGlobals "isinstance" = some none)
    (zlist : PySem.W.nsIn K mainGlobals "list" = some none)
    (ztuple : PySem.W.nsIn K mainGlobals "tuple" = some none)
    (zlen : PySem.W.nsIn K mainGlobals "len" = some none)
    (zabs : PySem.W.nsIn K mainGlobals "abs" = some none)
    (zenumerate : PySem.W.nsIn K mainGlobals "enumerate" = some none)
    (zint : PySem.W.nsIn K mainGlobals "int" = some none)
    (zrange : PySem.W.nsIn K mainGlobals "range" = some none)
    (zsum : PySem.W.nsIn K mainGlobals "sum" = some none)
    (zmin : PySem.W.nsIn K mainGlobals "min" = some none)
    (zmax : PySem.W.nsIn K mainGlobals "max" = some none)
    (zrepr : PySem.W.nsIn K mainGlobals "repr" = some none)
    (zall : PySem.W.nsIn K mainGlobals "all" = some none)
    (zstr : PySem.W.nsIn K mainGlobals "str" = some none)
    (zValueError : PySem.W.nsIn K mainGlobals "ValueError" = some none)
    (n0 : BV ≠ TE)
    (n1 : BV ≠ NP)
    (n2 : BV ≠ BP)
    (m1 : NP ≠ TE)
    (m2 : BP ≠ TE) :
    ∃ fd : FuncData, (∀ (s : Shared) (v : Value), BindsTo s fd ⟨[v], []⟩ [("_law_script", v)]) ∧ ∀ base : Heap, K.In base → base.Ns mainGlobals mg → FnG P w K mg base CX0 22 fa fd ["_law_script"] (spLaw K) := by
  have e := hfa.symm.trans (PySem.W.mg_of X G a18)
  cases e
  have F0 := fun_mk (st := sParts) l0 c0 k0
  have F1 := fun_mk (st := sCopy) l1 c1 k1
  have F2 := fun_mk (st := s_is_text) l2 c2 k2
  have F3 := fun_mk (st := s_place_of_last) l3 c3 k3
  have F4 := fun_mk (st := s_first_fault) l4 c4 k4
  have F5 := fun_mk (st := s_check_value) l5 c5 k5
  have F6 := fun_mk (st := s_is_value) l6 c6 k6
  have F7 := fun_mk (st := sBag) l7 c7 k7
  have F8 := fun_mk (st := sTake) l8 c8 k8
  have F9 := fun_mk (st := sText) l9 c9 k9
  have F10 := fun_mk (st := sSize) l10 c10 k10
  have F11 := fun_mk (st := sValue) l11 c11 k11
  have F12 := fun_mk (st := sGreat) l12 c12 k12
  have F13 := fun_mk (st := s__law_spots) l13 c13 k13
  have F14 := fun_mk (st := s__law_put) l14 c14 k14
  have F15 := fun_mk (st := s__law_odd) l15 c15 k15
  have F16 := fun_mk (st := s__law_wrong) l16 c16 k16
  have F17 := fun_mk (st := sTold) l17 c17 k17
  have F18 := fun_mk (st := sLaw) l18 c18 k18
  have b0 := F0.binds (ps := ["thing"]) fun _ _ _ _ _ _ us hl => match us, hl with | [_], _ => rfl
  have g0 := PySem.W.mg_of X G a0
  have b1 := F1.binds (ps := ["thing"]) fun _ _ _ _ _ _ us hl => match us, hl with | [_], _ => rfl
  have g1 := PySem.W.mg_of X G a1
  have b2 := F2.binds (ps := ["thing"]) fun _ _ _ _ _ _ us hl => match us, hl with | [_], _ => rfl
  have g2 := PySem.W.mg_of X G a2
  have b3 := F3.binds (ps := ["steps"]) fun _ _ _ _ _ _ us hl => match us, hl with | [_], _ => rfl
  have g3 := PySem.W.mg_of X G a3
  have b4 := F4.binds (ps := ["thing"]) fun _ _ _ _ _ _ us hl => match us, hl with | [_], _ => rfl
  have g4 := PySem.W.mg_of X G a4
  have b5 := F5.binds (ps := ["thing"]) fun _ _ _ _ _ _ us hl => match us, hl with | [_], _ => rfl
  have g5 := PySem.W.mg_of X G a5
  have b6 := F6.binds (ps := ["thing"]) fun _ _ _ _ _ _ us hl => match us, hl with | [_], _ => rfl
  have g6 := PySem.W.mg_of X G a6
  have b7 := F7.binds (ps := ["_law_script", "_law_at"]) fun _ _ _ _ _ _ us hl => match us, hl with | [_, _], _ => rfl
  have g7 := PySem.W.mg_of X G a7
  have b8 := F8.binds (ps := ["_law_bag_here", "_law_many"]) fun _ _ _ _ _ _ us hl => match us, hl with | [_, _], _ => rfl
  have g8 := PySem.W.mg_of X G a8
  have b9 := F9.binds (ps := ["_law_bag_here", "_law_most"]) fun _ _ _ _ _ _ us hl => match us, hl with | [_, _], _ => rfl
  have g9 := PySem.W.mg_of X G a9
  have b10 := F10.binds (ps := ["_law_value_here"]) fun _ _ _ _ _ _ us hl => match us, hl with | [_], _ => rfl
  have g10 := PySem.W.mg_of X G a10
  have b11 := F11.binds (ps := ["_law_bag_here", "_law_deep", "_law_room"]) fun _ _ _ _ _ _ us hl => match us, hl with | [_, _, _], _ => rfl
  have g11 := PySem.W.mg_of X G a11
  have b12 := F12.binds (ps := ["_law_bag_here"]) fun _ _ _ _ _ _ us hl => match us, hl with | [_], _ => rfl
  have g12 := PySem.W.mg_of X G a12
  have b13 := F13.binds (ps := ["_law_value_here"]) fun _ _ _ _ _ _ us hl => match us, hl with | [_], _ => rfl
  have g13 := PySem.W.mg_of X G a13
  have b14 := F14.binds (ps := ["_law_value_here", "_law_place", "_law_thing"]) fun _ _ _ _ _ _ us hl => match us, hl with | [_, _, _], _ => rfl
  have g14 := PySem.W.mg_of X G a14
  have b15 := F15.binds (ps := ["_law_bag_here", "_law_turn"]) fun _ _ _ _ _ _ us hl => match us, hl with | [_, _], _ => rfl
  have g15 := PySem.W.mg_of X G a15
  have b16 := F16.binds (ps := ["_law_thing"]) fun _ _ _ _ _ _ us hl => match us, hl with | [_], _ => rfl
  have g16 := PySem.W.mg_of X G a16
  have b17 := F17.binds (ps := ["_law_thing"]) fun _ _ _ _ _ _ us hl => match us, hl with | [_], _ => rfl
  have g17 := PySem.W.mg_of X G a17
  have EI := fun_mk (st := mBadValue_init) lI cI kI
  have bI := EI.binds (ps := ["self", "place"]) fun _ _ _ _ _ _ us hl => match us, hl with | [_, _], _ => rfl
  have hTp : ∀ x : Str, PySem.W.nsIn K mainGlobals x = some none → mg x = none := fun x z => PySem.W.mg_none_of X G z
  have NM : Nm mg := ⟨hTp _ zisinstance, hTp _ zlist, hTp _ ztuple⟩
  have NB : Nb mg := ⟨hTp _ zlen, hTp _ zabs, hTp _ zenumerate, hTp _ zint⟩
  have NK : Nk mg := ⟨hTp _ zstr⟩
  have NV : Nv mg := ⟨hTp _ zrange, hTp _ zsum, hTp _ zmin⟩
  have cB := cl_of (PySem.W.mg_of X G aCBV) xBV saBV gaBV ggBV haBV hn ht kcBV
  have cN := cl_of (PySem.W.mg_of X G aCNP) xNP saNP gaNP ggNP haNP hn ht kcNP
  have cP := cl_of (PySem.W.mg_of X G aCBP) xBP saBP gaBP ggBP haBP hn ht kcBP
  have hcT : ∃ cd, PySem.W.clsIn K TE = some cd := by
    refine ⟨{ name := nmT, bases := bsT, mro := .ref TE :: mrT, ns := NT, qualname := qT, hasDict := hdT, slotNames := snT, subclasses := subT, abstract := abT, collection := colT, hasDel := false }, ?_⟩
    unfold PySem.W.clsIn
    rw [lTE] <;> rfl
  obtain ⟨cdT, hcT⟩ := hcT
  refine ⟨PySem.W.fnOf "law" "law" (defArgs sLaw) (defBody sLaw) (defScope sLaw) .none kV18 dc18 pm18 an18 cd18 ct18, fun s v => .of_eq rfl, fun base _ _ => ?_⟩
  have GC : FnOk P w K mg base CX0 2 f1 _ ["thing"] (spCopy K) := ok_copy (k := 0) F1 NM F0 b0 g0
  have GI : FnOk P w K mg base CX0 3 fI _ ["self", "place"] (spIn1 K BV "place") := ok_inBv EI GC g1 k1 b1
  have GIT : FnOk P w K mg base CX0 1 f2 _ ["thing"] (spIsText K) := ok_isText F2 NM NK (PySem.W.mg_of X G aAl)
  have GLa : FnOk P w K mg base CX0 1 f3 _ ["steps"] (spLast K) := ok_last F3 NM NB
  have GF : FnOk P w K mg base CX0 2 f4 _ ["thing"] (spFault K) := ok_fault F4 NM NB NV GIT g2 k2 b2 GLa g3 k3 b3
  have GCh := ok_check F5 cB aI ti nP GI bI GF g4 k4 b4
  have GIV : FnOk P w K mg base CX0 3 f6 _ ["thing"] (spIsValue K) := ok_isValue F6 GF g4 k4 b4
  have GB : FnOk P w K mg base CX0 1 f7 _ ["_law_script", "_law_at"] (spBag K) := ok_bag (k := 0) F7 NB
  have GT : FnOk P w K mg base CX0 1 f8 _ ["_law_bag_here", "_law_many"] spTake := ok_take (k := 0) F8 NB
  have GX : FnOk P w K mg base CX0 2 f9 _ ["_law_bag_here", "_law_most"] spText := ok_text F9 NB NV F8 b8 g8
  have C1 : Vc P w K mg base f8 f9 f10 (PySem.W.fnOf "_law_take" "_law_take" (defArgs sTake) (defBody sTake) (defScope sTake) .none kV8 dc8 pm8 an8 cd8 ct8) (PySem.W.fnOf "_law_text" "_law_text" (defArgs sText) (defBody sText) (defScope sText) .none kV9 dc9 pm9 an9 cd9 ct9) (PySem.W.fnOf "_law_size" "_law_size" (defArgs sSize) (defBody sSize) (defScope sSize) .none kV10 dc10 pm10 an10 cd10 ct10) := ⟨GT, b8, g8, k8, GX, b9, g9, k9, fun N => ok_size F10 NM NB NV b10 g10 N, b10, g10, k10⟩
  have GV := ok_values F11 b11 g11 NV C1 4
  have GG := ok_great F12 NV C1 GV g11 k11 b11
  have GW : FnOk P w K mg base CX0 21 f16 _ ["_law_thing"] (spWrongD K 20) := fn_imp (ok_wrong F16 NM NK NB (hTp _ zall) b16 g16 20) wrong_imp
  have GTo := ok_told F17 NM ⟨hTp _ zValueError⟩ cB cN cP nP (PySem.W.mg_of X G aTE) hcT tTE n0 n1 n2 m1 m2 GCh g5 k5 b5
  have GS : FnOk P w K mg base CX0 21 f13 _ ["_law_value_here"] (spSpots K 20) := ok_spots F13 NM NB b13 g13 20
  have GP : FnOk P w K mg base CX0 21 f14 _ ["_law_value_here", "_law_place", "_law_thing"] (spPut K 20) := ok_put F14 NM NB b14 g14 20
  have GO := ok_odd F15 NB GT b8 g8 k8 GX b9 g9 k9
  exact ok_law F18 ⟨hTp _ zmax, hTp _ zrepr⟩ NB NV ⟨GB, GG, GW, GTo, GIV, GS, GP, GT, GO, b7, b12, b16, b17, b6, b13, b14, b8, b15, g7, g12, g16, g17, g6, g13, g14, g8, g15, k7, k12, k16, k17, k6, k13, k14, k8, k15⟩
end TX
open PySem PySem.W PyProof.Rows
set_option maxRecDepth 100000 in
set_option maxHeartbeats 0 in
theorem PySem.Challenge.cw_textorlist_k01_values_checked_holds : PySem.Challenge.rw_textorlist_k01_values_checked.Holds := by
  w_on; o_law; k_head; (case hw => w_witness2)
  k_fill
  refine TX.walkG (l := PySem.Challenge.rw_textorlist_k01_values_checked) (n := 63) (k := 22) (x := "_law_script") (sp := fun w => TX.spLaw _) rfl (by decide) rfl ⟨rfl, by decide, by decide⟩ (fun w h Y => PySem.W.kIn_of Y) ?F (fun _ _ a ns hl _ hS => ⟨a, ns, rfl, hS, hl, fun _ => rfl⟩)
  case F =>
    intro w mg fa h KX G hmg
    refine' TX.all_mk KX G hmg ?a0 ?l0 ?c0 ?k0 ?a1 ?l1 ?c1 ?k1 ?a2 ?l2 ?c2 ?k2 ?a3 ?l3 ?c3 ?k3 ?a4 ?l4 ?c4 ?k4 ?a5 ?l5 ?c5 ?k5 ?a6 ?l6 ?c6 ?k6 ?a7 ?l7 ?c7 ?k7 ?a8 ?l8 ?c8 ?k8 ?a9 ?l9 ?c9 ?k9 ?a10 ?l10 ?c10 ?k10 ?a11 ?l11 ?c11 ?k11 ?a12 ?l12 ?c12 ?k12 ?a13 ?l13 ?c13 ?k13 ?a14 ?l14 ?c14 ?k14 ?a15 ?l15 ?c15 ?k15 ?a16 ?l16 ?c16 ?k16 ?a17 ?l17 ?c17 ?k17 ?a18 ?l18 ?c18 ?k18 ?aAl ?aTE ?lTE ?tTE ?hn ?ht ?aCBV ?xBV ?saBV ?gaBV ?ggBV ?haBV ?kcBV ?aI ?lI ?cI ?kI ?nP ?ti ?aCNP ?xNP ?saNP ?gaNP ?ggNP ?haNP ?kcNP ?aCBP ?xBP ?saBP ?gaBP ?ggBP ?haBP ?kcBP ?zisinstance ?zlist ?ztuple ?zlen ?zabs ?zenumerate ?zint ?zrange ?zsum ?zmin ?zmax ?zrepr ?zall ?zstr ?zValueError ?n0 ?n1 ?n2 ?m1 ?m2
    (case a0 => k_is)
    (case l0 => k_is)
    (case c0 => k_is)
    (case k0 => k_is)
    (case a1 => k_is)
    (case l1 => k_is)
    (case c1 => k_is)
    (case k1 => k_is)
    (case a2 => k_is)
    (case l2 => k_is)
    (case c2 => k_is)
    (case k2 => k_is)
    (case a3 => k_is)
    (case l3 => k_is)
    (case c3 => k_is)
    (case k3 => k_is)
    (case a4 => k_is)
    (case l4 => k_is)
    (case c4 => k_is)
    (case k4 => k_is)
    (case a5 => k_is)
    (case l5 => k_is)
    (case c5 => k_is)
    (case k5 => k_is)
    (case a6 => k_is)
    (case l6 => k_is)
    (case c6 => k_is)
    (case k6 => k_is)
    (case a7 => k_is)
    (case l7 => k_is)
    (case c7 => k_is)
    (case k7 => k_is)
    (case a8 => k_is)
    (case l8 => k_is)
    (case c8 => k_is)
    (case k8 => k_is)
    (case a9 => k_is)
    (case l9 => k_is)
    (case c9 => k_is)
    (case k9 => k_is)
    (case a10 => k_is)
    (case l10 => k_is)
    (case c10 => k_is)
    (case k10 => k_is)
    (case a11 => k_is)
    (case l11 => k_is)
    (case c11 => k_is)
    (case k11 => k_is)
    (case a12 => k_is)
    (case l12 => k_is)
    (case c12 => k_is)
    (case k12 => k_is)
    (case a13 => k_is)
    (case l13 => k_is)
    (case c13 => k_is)
    (case k13 => k_is)
    (case a14 => k_is)
    (case l14 => k_is)
    (case c14 => k_is)
    (case k14 => k_is)
    (case a15 => k_is)
    (case l15 => k_is)
    (case c15 => k_is)
    (case k15 => k_is)
    (case a16 => k_is)
    (case l16 => k_is)
    (case c16 => k_is)
    (case k16 => k_is)
    (case a17 => k_is)
    (case l17 => k_is)
    (case c17 => k_is)
    (case k17 => k_is)
    (case a18 => k_is)
    (case l18 => k_is)
    (case c18 => k_is)
    (case k18 => k_is)
    (case aAl => k_is)
    (case aTE => k_is)
    (case lTE => k_is)
    (case tTE => k_is)
    (case hn => k_is)
    (case ht => k_is)
    (case aCBV => k_is)
    (case xBV => k_is)
    (case saBV => k_is)
    (case gaBV => k_is)
    (case ggBV => k_is)
    (case haBV => k_is)
    (case kcBV => k_is)
    (case aI => k_is)
    (case lI => k_is)
    (case cI => k_is)
    (case kI => k_is)
    (case nP => k_is)
    (case ti => k_is)
    (case aCNP => k_is)
    (case xNP => k_is)
    (case saNP => k_is)
    (case gaNP => k_is)
    (case ggNP => k_is)
    (case haNP => k_is)
    (case kcNP => k_is)
    (case aCBP => k_is)
    (case xBP => k_is)
    (case saBP => k_is)
    (case gaBP => k_is)
    (case ggBP => k_is)
    (case haBP => k_is)
    (case kcBP => k_is)
    (case zisinstance => k_is)
    (case zlist => k_is)
    (case ztuple => k_is)
    (case zlen => k_is)
    (case zabs => k_is)
    (case zenumerate => k_is)
    (case zint => k_is)
    (case zrange => k_is)
    (case zsum => k_is)
    (case zmin => k_is)
    (case zmax => k_is)
    (case zrepr => k_is)
    (case zall => k_is)
    (case zstr => k_is)
    (case zValueError => k_is)
    (case n0 => decide)
    (case n1 => decide)
    (case n2 => decide)
    (case m1 => decide)
    (case m2 => decide)
