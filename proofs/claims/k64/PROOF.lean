import PyProof.Rows.All
import PyProof.ListStr
import HandS.Flow
import HandS.StrMore
import HandS.Iter
import HandS.Walk
import Wide.All
import OpenK.AllK
import Wide.FinOn
import HandS.ForMost
import HandS.Style
import HandS.IsInst
import HandS.ExcInit
import HandS.ExcIs
import HandS.ExcField
import HandS.ForExc
import HandS.TupAny
import PyProof.InstNe
import PyProof.MeetsIn
import PyProof.Rows.Range3
import HandS.OwnEq
import HandS.Small
import KE.KOpsOwn
import HandS.Codes
import PyProof.LongRange
import PyProof.ListMulRight
import HandS.TupLe
import HandS.FStr
import OpenK.KOps
import KE.KIntText
import KE.SortData
import KE.KxField
import PyProof.ReprRoads
import HandS.Dict
import HandS.Conv
import PySem.Challenge.RW_textorlist_k64_survey_page
set_option Elab.async false
set_option linter.all false
set_option maxRecDepth 100000
set_option maxHeartbeats 4000000
namespace TX
open PySem PySem.Spec PyProof.Rows L2

/-! ### either of two rules -/
section
variable {X : Cx}
theorem pe_alt {e : Expr} {t u : TE} (h1 : PE X e t) (h2 : PE X e u) : PE X e (fun σ H Q => t σ H Q ∨ u σ H Q) :=
  ⟨fun pins s σ H Q I h => h.elim (h1.run pins s σ H Q I) (h2.run pins s σ H Q I)⟩
theorem ps_alt {e : Stmt} {t u : TS} (h1 : PS X e t) (h2 : PS X e u) : PS X e (fun D σ H => t D σ H ∨ u D σ H) :=
  ⟨fun pins s σ H D I h => h.elim (h1.run pins s σ H D I) (h2.run pins s σ H D I)⟩
theorem pi_alt {tg e : Expr} {t u : TI} (h1 : PI X tg e t) (h2 : PI X tg e u) : PI X tg e (fun σ H R => t σ H R ∨ u σ H R) :=
  ⟨fun pins s σ H R I h => h.elim (h1.run pins s σ H R I) (h2.run pins s σ H R I)⟩
end

/-! ### data stays where the heap grows -/
theorem same_sqt {K : PySem.W.Frag} {H H' : Hp} {a : Addr} {xs : List V} (e : Same H H') (h : SqT K H a xs) : SqT K H' a xs := by
  rcases h with (h | ⟨o, h⟩) | h
  · exact .inl (.inl (e _ _ h))
  · exact .inl (.inr ⟨o, e _ _ h⟩)
  · exact .inr h
mutual
theorem dp_same {K : PySem.W.Frag} {H H' : Hp} (e : Same H H') : ∀ (d : PyData) (v : V), Dp K H v d → Dp K H' v d
  | .none, _, h => by cases h; exact .non
  | .bool b, _, h => by cases h; exact .bl b
  | .int i, _, h => by cases h; exact .int i
  | .str x, _, h => by cases h; exact .str x
  | .list xs, _, h => by
    cases h with
    | lst h1 h2 => exact .lst (e.seq h1) (dpAll_same e xs _ h2)
  | .tuple xs, _, h => by
    cases h with
    | tup h1 h2 => exact .tup (same_sqt e h1) (dpAll_same e xs _ h2)
  | .dict _, _, h => nomatch h
theorem dpAll_same {K : PySem.W.Frag} {H H' : Hp} (e : Same H H') : ∀ (ds : List PyData) (vs : List V), DpAll K H vs ds → DpAll K H' vs ds
  | [], _, h => by cases h; exact .nil
  | d :: ds, _, h => by
    cases h with
    | cons h1 h2 => exact .cons (dp_same e d _ h1) (dpAll_same e ds _ h2)
end
theorem DpAll.length {K : PySem.W.Frag} {H : Hp} : ∀ {ds : List PyData} {vs : List V}, DpAll K H vs ds → vs.length = ds.length
  | [], _, h => by cases h; rfl
  | _ :: _, _, h => by
    cases h with
    | cons _ h2 => exact congrArg (· + 1) (DpAll.length h2)
theorem DpAll.append {K : PySem.W.Frag} {H : Hp} : ∀ {ds es : List PyData} {vs ws : List V}, DpAll K H vs ds → DpAll K H ws es → DpAll K H (vs ++ ws) (ds ++ es)
  | [], _, _, _, h, g => by cases h; exact g
  | _ :: _, _, _, _, h, g => by
    cases h with
    | cons h1 h2 => exact .cons h1 (DpAll.append h2 g)
theorem DpAll.split {K : PySem.W.Frag} {H : Hp} : ∀ {ds es : List PyData} {vs : List V}, DpAll K H vs (ds ++ es) → ∃ a b, vs = a ++ b ∧ DpAll K H a ds ∧ DpAll K H b es
  | [], _, vs, h => ⟨[], vs, rfl, .nil, h⟩
  | d :: ds, es, _, h => by
    cases h with
    | cons h1 h2 =>
      obtain ⟨a, b, rfl, ha, hb⟩ := DpAll.split (ds := ds) (es := es) h2
      exact ⟨_ :: a, b, rfl, .cons h1 ha, hb⟩
theorem same_upd {H : Hp} {p : Addr} {o : HO} (h : H p = none) : Same H (upd H p o) := fun b x e => by
  rw [upd_ne (ne_of_none e h)]
  exact e
/-- a fresh place may be written again and again -/
theorem same_fresh {H0 H : Hp} {p : Addr} {o : HO} (h : H0 p = none) (e : Same H0 H) : Same H0 (upd H p o) := fun b x q => by
  rw [upd_ne (ne_of_none q h)]
  exact e b x q

/-! ### the number of parts -/
mutual
def nd : PyData → Nat
  | .list xs => ndAll xs + 1
  | .tuple xs => ndAll xs + 1
  | _ => 1
def ndAll : List PyData → Nat
  | [] => 0
  | d :: ds => nd d + ndAll ds
end
theorem ndAll_append : ∀ (a b : List PyData), ndAll (a ++ b) = ndAll a + ndAll b
  | [], b => by simp [ndAll]
  | d :: a, b => by
    rw [List.cons_append, ndAll, ndAll, ndAll_append a b]
    omega
theorem nd_pos : ∀ d : PyData, 1 ≤ nd d
  | .none => by simp [nd]
  | .bool _ => by simp [nd]
  | .int _ => by simp [nd]
  | .str _ => by simp [nd]
  | .list _ => by simp [nd]
  | .tuple _ => by simp [nd]
  | .dict _ => by simp [nd]
theorem ndAll_len : ∀ ds : List PyData, ds.length ≤ ndAll ds
  | [] => by simp
  | d :: ds => by
    have := ndAll_len ds
    have := nd_pos d
    rw [ndAll, List.length_cons]
    omega

/-! ### what a value's type is, for isinstance -/
/-- the type of a value that represents data -/
def tyD : PyData → String
  | .none => "NoneType"
  | .bool _ => "bool"
  | .int _ => "int"
  | .str _ => "str"
  | .list _ => "list"
  | .tuple _ => "tuple"
  | .dict _ => "dict"
theorem dp_ty {K : PySem.W.Frag} {H : Hp} {v : V} {d : PyData} (h : Dp K H v d) : TyX K H v (.type (tyD d)) := by
  cases h with
  | non => exact .base .non
  | bl b => exact .base (.bl b)
  | int i => exact .base (.int i)
  | str x => exact .base (.str x)
  | lst h1 _ =>
    rcases h1 with (h | ⟨o, h⟩) | ⟨o, its, n, hk, hc, _⟩
    · exact .base (.lst h)
    · exact .base (.frz h)
    · exact .kList hk hc
  | tup h1 _ =>
    rcases h1 with (h | ⟨o, h⟩) | ⟨o, its, n, hk, hc, _⟩
    · exact .base (.tup h)
    · exact .fTuple h
    · exact .kTuple hk hc

/-! ### repr of data -/
section
variable {X : Cx}
def rRepr (K : PySem.W.Frag) : List V → Hp → VK → Prop := fun xs H Q => ∃ v d, xs = [v] ∧ Dp K H v d ∧ d.showable = true ∧ d.hasDict = false ∧ d.depth ≤ 60 ∧ d.shown.length ≤ sizeLine ∧ Q (.str d.shown) H
theorem call_repr (hg : X.A.guards = some []) (hu : X.A.units + 64 < cLine) : CallR X (.builtin "repr") (rRepr X.K) := by
  intro pins s σ H xs us Q I r h
  obtain ⟨v, d, rfl, hd, hs, hn, hz, hl, q⟩ := h
  obtain ⟨u, rfl, rv⟩ := r.one
  have fin : ∀ tk t, EP X pins σ Q (.str d.shown t) { s with toks := tk } := fun tk t => ⟨.str _, H, I.tok tk, ⟨t, rfl⟩, q⟩
  obtain ⟨as, rd⟩ := Dp.reads I d v u hd rv
  cases hd with
  | non =>
    cases rv
    simp only [PyData.shown] at fin
    exact PySem.P.repr_of_none (fin _ _)
  | bl b =>
    cases rv
    simp only [PyData.shown] at fin
    exact PySem.P.repr_of_bool (fin _ _)
  | int i =>
    obtain ⟨t, rfl⟩ := rv
    simp only [PyData.shown] at fin
    exact PySem.P.repr_of_int (by simpa [PyData.showable] using hs) (fin _ _)
  | str x =>
    obtain ⟨t, rfl⟩ := rv
    simp only [PyData.shown] at fin hl
    exact PySem.P.repr_of_str (fin _ _) hl
  | lst h1 h2 =>
    cases rv
    exact repr_of_reads' rd hs (PyData.noDict_hsm hn) hg (by omega) (fun _ _ e => e) (fun h' t tk hk => ⟨.str _, H, I.kept hk, ⟨t, rfl⟩, q⟩) hl
  | tup h1 h2 =>
    cases rv
    exact repr_of_reads' rd hs (PyData.noDict_hsm hn) hg (by omega) (fun _ _ e => e) (fun h' t tk hk => ⟨.str _, H, I.kept hk, ⟨t, rfl⟩, q⟩) hl
end
end TX
namespace TX
open PySem PySem.Spec PyProof.Rows L2
/-! ### a def that is called where nothing is being shown (no repr under way) -/
structure FnG (P : Program) (w : World) (K : PySem.W.Frag) (mg : Str → Option Value) (base : Heap) (C : CXT) (k : Nat) (f : Addr) (fd : FuncData) (ps : List Str) (sp : Sp) : Prop where
  len : ∀ vs H Q E, sp vs H Q E → vs.length = ps.length
  go : ∀ (A : Around), A.guards = some [] → ∀ (outer : List Env) (s : Shared) (H : Hp) (args : Args) (us : List Value) (vs : List V) (Q : VK) (E : XK), Room k A → Env0 P w K mg base A outer s H →
    BindsTo s fd args (ps.zip us) → Vals vs us → sp vs H Q E → codeAny (model P w) A (.call (.ref f) args) (CR C outer P w H s Q E) s
section
variable {P : Program} {w : World} {K : PySem.W.Frag} {mg : Str → Option Value} {base : Heap} {C : CXT} {k : Nat} {f : Addr} {fd : FuncData} {N ps : List Str} {sp : Sp}
theorem fng_of {x qual : Str} {st : Stmt} (F : Fun K x qual st f fd) (S : FnScope N ps (defScope st)) (len : ∀ vs H Q E, sp vs H Q E → vs.length = ps.length)
    (hb : ∀ (cdv : Value) (A : Around) (outer : List Env) (s : Shared) (H : Hp) (vs : List V) (Q : VK) (E : XK), A.guards = some [] → Room k (A.deeper (envOfC qual (defScope st) s.heap.objs.size f cdv)) → sp vs H Q E →
      ∃ t, PSs (cxOf CX0 P w K mg base N qual (defScope st) f cdv A outer s H E).nox (defBody st) t ∧ t { nx := fun _ H' => Q .non H', rt := Q } (start N vs) H) : FnG P w K mg base CX0 (k + 1) f fd ps sp := by
  obtain ⟨oc, od, kV, doc, pm, an, cdv, ct, osl, rfl, lk, hcd⟩ := F.ex
  refine ⟨len, fun A hg outer s H args us vs Q E hr e0 hbd r hsp => ?_⟩
  have up : ∀ b o, base.get? b = some o → s.heap.get? b = some o := fun b o e => (e0.bs b o e).1
  have KX : K.In s.heap := e0.mod.kin.keeps up
  have par : ∀ y ∈ ps.zip us, (defScope st).names.lookup y.1 = some .local ∨ ((defScope st).names.lookup y.1 = some .cell ∧ ((cellsFrom (s.heap.objs.size + 1) (defScope st).names []).lookup y.1).isSome = true) := by
    rintro ⟨n, v⟩ hy
    exact (S.par n (List.of_mem_zip hy).1).imp id fun q => ⟨q, PySem.W.cellsFrom_some _ _ _ (.inl q)⟩
  refine codeAny_call_function hr.depth (KX _ _ lk) rfl S.co S.gen rfl (PySem.W.codeRec_of KX hcd) (hbd _ _ _ _ (wpAny_newFunctionEnv_cells S.kind par fun env he s1 x => ?_))
  cases he
  obtain ⟨t, ht, hq⟩ := hb cdv A outer s H vs Q E hg (hr.deeper _) hsp
  refine ⟨(e0.mod.nolimit.keeps up).keeps x.toInCall.keep, codeAny_func (wpAny_mono (ht.nox.run [] s1 (start N vs) H _ (inv_start S hr.hd e0 (len _ _ _ _ hsp) r x) hq) (fun fl s' hs => ?_) fun e s' hs => hs)⟩
  cases fl with
  | next => exact let ⟨σ', H', J, q⟩ := hs; ⟨.non, H', J.os, J.bare, J.base, J.hok, rfl, q⟩
  | ret u => exact let ⟨v, σ', H', J, rv, q⟩ := hs; ⟨v, H', J.os, J.bare, J.base, J.hok, rv, q⟩
  | brk => exact let ⟨_, _, _, q⟩ := hs; False.elim q
  | cont => exact let ⟨_, _, _, q⟩ := hs; False.elim q
theorem deeper_guards {A : Around} {env : Env} : (A.deeper env).guards = A.guards := rfl
end
section
variable {X : Cx} {C : CXT} {k : Nat} {f : Addr} {fd : FuncData} {ps : List Str} {sp : Sp} {dvs : List V} {ds : List Value} {E : XK} {x : Str} {p pos : Pos} {e : Expr} {es : List Expr} {t : TA}
theorem pe_callG (F : FnG X.prog X.w X.K X.mg X.base C k f fd ps sp) (hgd : X.A.guards = some []) (hr : Room k X.A) (hg : Gl X x) (hm : X.mg x = some (.ref f)) (hk : PySem.W.keepIn X.K (.ref f) = true) (hb : Binds X.K fd ps ds) (hd : Vals dvs ds)
    (hx : Passes C X E) (ha : PA X (e :: es) t) (hdb : (x == ("__debug__" : Str)) = false := by decide) (he : starEach (e :: es) X.env = (false, eval e X.env) :: starEach es X.env := by rfl)
    (hpl : (backTo pos (starEach es X.env)).any (·.1) = false := by rfl) : PE X (.Call (.Name x p) (e :: es) [] pos) (tCall sp dvs E t) := by
  refine ⟨fun pins s σ H Q I h => wpAny_Call_Name_kw (ld_glob I hg hm (PySem.W.callWith_K (h₀ := X.base) I.ok.mod.kin hk (thn (ha.run pos pins s σ H _ I h) fun us s1 h1 => ?_) he hpl) hdb)⟩
  obtain ⟨vs, H1, I1, r, q⟩ := h1
  have r2 := r.append hd
  have hl : (us ++ ds).length = ps.length := r2.length.symm.trans (F.len _ _ _ _ q)
  refine ⟨I1.kIn, wpAny_call (codeAny_mono (F.go X.A hgd X.stack s1 H1 ⟨us, []⟩ _ _ _ _ hr I1.env0 (hb s1 us I1.kIn hl) r2 q) fun r s' hq => ?_)⟩
  cases r with
  | error er => exact hx pins σ H1 s1 er s' I1 hq
  | ok fl => cases fl with
    | ret u => exact I1.after hq
    | next => exact hq.elim
    | brk => exact hq.elim
    | cont => exact hq.elim
end
/-- the law's def, called by the claim -/
theorem lawG {P : Program} {w : World} {K : PySem.W.Frag} {mg mb : Str → Option Value} {k : Nat} {fa a : Addr} {fd : FuncData} {x : Str} {sp : Sp} {s₁ : Shared} {vs : List Value} {ns : List Int}
    (KX : K.In s₁.heap) (hns : s₁.heap.Ns mainGlobals mg) (hb : s₁.heap.Ns builtinsNs mb) (hbb : ∀ x : Str, x ≠ "__name__" → mb x = bootBuiltins x) (hlim : s₁.heap.NoLimit) (hg : s₁.gens = #[])
    (ha : s₁.heap.get? a = some { cls := .type "list", data := .seq vs.toArray }) (hi : IntsAre vs ns) (hl : ns.length ≤ sizeLine) (hr : Room k callerA)
    (F : ∀ base : Heap, K.In base → base.Ns mainGlobals mg → FnG P w K mg base CX0 k fa fd [x] sp) (hbind : ∀ (s : Shared) (u : Value), BindsTo s fd ⟨[u], []⟩ [(x, u)])
    (hsp : ∀ H : Hp, Only H → SqL K H a (ns.map V.int) → sp [.ref a] H (fun v _ => v = .bl true) fun _ _ _ => False) :
    codeAny (model P w) callerA (.call (.ref fa) ⟨[.ref a], []⟩) (fun r s' => r = .ok (.ret (.bool true)) ∧ OldK s₁.heap s'.heap ∧ s'.os = s₁.os ∧ AllBare s'.gens) s₁ := by
  have rv := vals_ints hi
  have lenV := hi.length
  have main : ∀ H : Hp, Only H → SqL K H a (ns.map V.int) → HOk P w H s₁.heap → (∀ b, H b ≠ none → b = a) → (H a ≠ none → K.lookup a = none) →
      codeAny (model P w) callerA (.call (.ref fa) ⟨[.ref a], []⟩) (fun r s' => r = .ok (.ret (.bool true)) ∧ OldK s₁.heap s'.heap ∧ s'.os = s₁.os ∧ AllBare s'.gens) s₁ := by
    intro H hO hS hok hA hK
    have atA : ∀ {b : Addr} {u : HO}, H b = some u → b = a := fun q => hA _ (by rw [q]; exact fun z => nomatch z)
    have noD : ∀ {b : Addr} {o : Obj} {es : Array DictEntry} {ep : Nat}, s₁.heap.get? b = some o → o.data = .dict es ep → H b = none := by
      intro b o es ep e d
      cases q : H b with
      | none => rfl
      | some u =>
        cases atA q
        rw [ha] at e
        cases e
        exact absurd d (fun z => nomatch z)
    have nsK : ∀ {b : Addr} {m : Str → Option Value}, s₁.heap.Ns b m → (hidT s₁.heap H).Ns b m := fun ⟨o, es, ep, e, d, r⟩ => ⟨o, es, ep, hidT_get e (noD e d), d, r⟩
    have hKb : K.In (hidT s₁.heap H) := by
      intro b o e
      refine hidT_get (KX b o e) ?_
      cases q : H b with
      | none => rfl
      | some u =>
        cases atA q
        rw [hK (by rw [q]; exact fun z => nomatch z)] at e
        cases e
    have hM : Mod K mg (hidT s₁.heap H) := ⟨hKb, nsK hns, ⟨mb, nsK hb, hbb⟩, let ⟨mc, h1, h2⟩ := hlim; ⟨mc, nsK h1, h2⟩⟩
    have e0 : Env0 P w K mg (hidT s₁.heap H) callerA [] s₁ H := ⟨rfl, hM, fun b o e => of_hidT e, Nat.le_of_eq (hidT_size _ _), trivial, fun b hb => (nomatch hb), hok, .of_eq hg⟩
    refine codeAny_mono ((F _ hKb (nsK hns)).go callerA rfl [] s₁ H ⟨[.ref a], []⟩ [.ref a] [.ref a] _ _ hr e0 (hbind s₁ (.ref a)) (.cons rfl .nil) (hsp H hO hS)) fun r s' h => ?_
    cases r with
    | error e => exact (show False from h).elim
    | ok fl => cases fl with
      | next => exact h.elim
      | brk => exact h.elim
      | cont => exact h.elim
      | ret u =>
        obtain ⟨v, H', os, bare, un, hok', r', q⟩ := h
        cases (show v = .bl true from q)
        cases (show u = Value.bool true from r')
        refine ⟨rfl, OldK.of_keep fun b o e => ?_, os, bare⟩
        cases q : H b with
        | none => exact un.keep b o e q (fun z => nomatch z) (fun z => nomatch z)
        | some u =>
          rcases hO b with z | ⟨ob, xs, z⟩
          · rw [q] at z
            cases z
          · obtain ⟨e1, _⟩ := hok b _ z
            obtain ⟨e2, _⟩ := hok' b _ (un.frzs b ob _ z)
            rw [e] at e1
            cases e1
            exact e2
  cases hk : K.lookup a with
  | some o =>
    have e := KX a o hk
    rw [ha] at e
    cases e
    exact main (fun _ => none) (fun _ => .inl rfl) (.inr ⟨_, vs.toArray, _, hk, rfl, rfl, rfl, by rw [List.size_toArray, lenV]; exact hl, by simpa using rv⟩) (fun b u z => nomatch z) (fun b z => absurd rfl z) fun z => absurd rfl z
  | none =>
    refine main (fun b => if b = a then some (.frz { cls := .type "list", data := .seq vs.toArray } (.lst (ns.map V.int))) else none) (fun b => ?_) (.inl (.inr ⟨{ cls := .type "list", data := .seq vs.toArray }, if_pos rfl⟩)) (fun b u z => ?_) (fun b z => ?_) fun _ => hk
    · by_cases hb : b = a
      · exact .inr ⟨_, _, if_pos hb⟩
      · exact .inl (if_neg hb)
    · by_cases hb : b = a
      · cases hb
        cases (if_pos rfl).symm.trans z
        exact ⟨ha, by rw [List.length_map]; exact hl, vs, _, rv, ha⟩
      · cases (if_neg hb).symm.trans z
    · exact Classical.byContradiction fun hb => z (if_neg hb)
theorem walkG {l : PySem.W.OpenLaw} {n k : Nat} {q : Program} {loose : List Str} {XP : (Str → Option Value) → Heap → Prop} {YP : World → Heap → Prop} {d : DefRec} {K : Params → PySem.W.Frag} {sp : World → Sp} {x : Str}
    (hn : l.most = some n) (hn2 : n ≤ sizeLine) (hdf : d.params.defaults = []) (hr : Room k callerA) (hY : ∀ (w : World) (h : Heap), YP w h → (K w.params).In h)
    (F : ∀ (w : World) (mg : Str → Option Value) (fa : Addr) (h : Heap), (K w.params).In h → h.Ns mainGlobals mg → mg d.name = some (.ref fa) →
      ∃ fd : FuncData, (∀ (s : Shared) (u : Value), BindsTo s fd ⟨[u], []⟩ [(x, u)]) ∧ ∀ base : Heap, (K w.params).In base → base.Ns mainGlobals mg → FnG l.prog w (K w.params) mg base CX0 k fa fd [x] (sp w))
    (hsp : ∀ (w : World) (H : Hp) (a : Addr) (ns : List Int), ns.length ≤ n → Only H → SqL (K w.params) H a (ns.map V.int) → sp w [.ref a] H (fun v _ => v = .bl true) fun _ _ _ => False) :
    PySem.W.WalkO q loose XP YP l.row.toRowW d [] (fun f vs => PySem.call f vs) := by
  refine Att.attach_call hn hdf fun w s₀ s₁ mg mb fa o pm cd doc a vs ns G Y ho hd hcd hmg hobj hints hlen hg => ?_
  obtain ⟨fd, hb, hF⟩ := F w mg fa _ (hY w _ Y) G.T.g hmg
  exact lawG (hY w _ Y) G.T.g G.T.b G.T.builtins G.T.nolimit hg hobj hints (Nat.le_trans hlen hn2) hr hF hb fun H hO hS => hsp w H a ns hlen hO hS
end TX
namespace TX
open PySem PySem.Spec PyProof.Rows L2
section
variable {prog : Program} {w : World} {A : Around} {E : Value → Shared → Prop} {s : Shared}
theorem slAdj_back (n : Nat) : Builtin.Slice.sliceAdjust none none (-1) (n : Int) = ((n : Int) - 1, -1) := rfl
theorem slPl_back (n : Nat) : Builtin.Slice.slicePlaces ((n : Int) - 1) (-1) (-1) = n := by
  unfold Builtin.Slice.slicePlaces
  rw [if_neg (by decide)]
  split
  · have e : -(-1 : Int) = 1 := by decide
    rw [e, Int.ediv_one]
    omega
  · omega
theorem slApp_back {sl : Addr} {n : Nat} {u : Tok} {Q : Int × Int × Nat → Shared → Prop} (hs : s.heap.IsSliceOf sl .none .none (.int (-1) u)) (h : Q ((n : Int) - 1, -1, n) s) :
    wpAny (model prog w) A (Builtin.Slice.sliceApplied (.ref sl) (pure (n : Int))) Q E s := by
  obtain ⟨os, g1, g2, g3⟩ := hs
  unfold Builtin.Slice.sliceApplied Builtin.Slice.sliceFields
  refine wpAny_bind (wpAny_bind (wpAny_field g1 g3 (x := .none) rfl (wpAny_bind (wpAny_field g1 g3 (x := .none) rfl (wpAny_bind (wpAny_field g1 g3 (x := .int (-1) u) rfl (wpAny_pure ?_)))))))
  refine wpAny_bind (slicePart_int ?_)
  show wpAny _ _ (if ((-1 : Int) == 0) = true then _ else _) _ _ s
  rw [if_neg (by decide)]
  refine wpAny_bind (slicePart_none (wpAny_bind (slicePart_none (wpAny_bind (wpAny_pure ?_)))))
  show wpAny _ _ (match Builtin.Slice.sliceAdjust none none (-1) (n : Int) with | (lo, hi) => pure (lo, (-1 : Int), Builtin.Slice.slicePlaces lo hi (-1))) _ _ s
  rw [slAdj_back]
  show wpAny _ _ (pure ((n : Int) - 1, (-1 : Int), Builtin.Slice.slicePlaces ((n : Int) - 1) (-1) (-1))) _ _ s
  rw [slPl_back]
  exact wpAny_pure h
theorem fm_congr {f g : Nat → Option Value} : ∀ l : List Nat, (∀ k ∈ l, f k = g k) → l.filterMap f = l.filterMap g
  | [], _ => rfl
  | k :: l, h => by
    rw [List.filterMap_cons, List.filterMap_cons, h k List.mem_cons_self, fm_congr l fun j hj => h j (List.mem_cons_of_mem _ hj)]
theorem pick_back (l : List Value) : ((List.range l.length).filterMap fun (k : Nat) => l.toArray[(((l.length : Nat) : Int) - 1 + (k : Int) * (-1)).toNat]?) = l.reverse := by
  have e : ∀ k ∈ List.range l.length, (fun (k : Nat) => l.toArray[(((l.length : Nat) : Int) - 1 + (k : Int) * (-1)).toNat]?) k = (some ∘ fun k => (l.reverse[k]?).getD .none) k := by
    intro k hk
    have hk' := List.mem_range.mp hk
    have e1 : (((l.length : Nat) : Int) - 1 + (k : Int) * (-1)).toNat = l.length - 1 - k := by omega
    show l.toArray[(((l.length : Nat) : Int) - 1 + (k : Int) * (-1)).toNat]? = some ((l.reverse[k]?).getD .none)
    rw [e1, List.getElem?_toArray, List.getElem?_reverse (by omega), List.getElem?_eq_getElem (by omega)]
    rfl
  rw [fm_congr _ e, List.filterMap_eq_map]
  apply List.ext_getElem?
  intro i
  rw [List.getElem?_map]
  by_cases h : i < l.length
  · rw [List.getElem?_range h, List.getElem?_eq_getElem (by simpa using h)]
    simp [List.getElem?_eq_getElem, h]
  · rw [List.getElem?_eq_none (by simpa using h), List.getElem?_eq_none (by simpa using h)]
    rfl
/-- t[::-1] of a tuple -/
theorem getItem_tuple_back {t sl : Addr} {items : List Value} {u : Tok} {Q : Value → Shared → Prop} (ht : IsTup s.heap t items.toArray) (hs : s.heap.IsSliceOf sl .none .none (.int (-1) u))
    (h : Q (.ref s.heap.objs.size) { s with heap := s.heap.push { cls := .type "tuple", data := .seq items.reverse.toArray } }) (hsz : items.length ≤ sizeLine) : wpAny (model prog w) A (getItem (.ref t) (.ref sl)) Q E s := by
  have hTs : s.TypeIs (.ref sl) "slice" := let ⟨os, g1, g2, _⟩ := hs; ⟨os, g1, g2⟩
  have hfit : sizeOk (.seq items.reverse.toArray) := by
    show items.reverse.toArray.size ≤ sizeLine
    rw [List.size_toArray, List.length_reverse]
    exact hsz
  unfold getItem
  try with_reducible refine wpAny_holding ?_
  first | refine wpAny_bind (wpAny_pure ?_) | skip
  refine wpAny_bind (wpAny_sequenceKey ht.typeIs (by decide) ?_)
  refine wpAny_bind (wpAny_callSpecial?_slot (name := Str.ofString "__getitem__") ht.typeIs PyProof.Rows.slot_tuple_getitem (wpAny_call_entry PyProof.Rows.slot_tuple_getitem ht.typeIs entry_tuple_getitem ?_ (args_tuple_getitem _ _)))
  show wpAny _ _ (Builtin.Tuple.tupleItemsOf (.ref t) >>= _) _ _ s
  refine wpAny_bind (tupleItemsOf_ ht (wpAny_bind (wpAny_typeOf hTs ?_)))
  rw [if_pos (by decide)]
  refine wpAny_bind (slApp_back hs ?_)
  have no : ¬ ((((items.toArray.size : Nat) : Int) - 1 == 0 && (-1 : Int) == 1 && items.toArray.size == items.toArray.size) = true) := by
    intro q
    rw [Bool.and_eq_true, Bool.and_eq_true] at q
    exact absurd (eq_of_beq q.1.2) (by decide)
  show wpAny _ _ (if (((items.toArray.size : Nat) : Int) - 1 == 0 && (-1 : Int) == 1 && items.toArray.size == items.toArray.size) = true then _ else _) _ _ s
  rw [if_neg no]
  have e : ((List.range items.toArray.size).filterMap fun (k : Nat) => items.toArray[(((items.toArray.size : Nat) : Int) - 1 + (k : Int) * (-1)).toNat]?) = items.reverse := by
    rw [List.size_toArray]
    exact pick_back items
  rw [e]
  first
    | exact wpAny_bind (m := Builtin.Tuple.tupleExact _) (wpAny_newObj_type (wpAny_pure ⟨_, rfl, wpAny_pure h⟩) hfit)
    | exact wpAny_bind (m := Builtin.Tuple.tupleExact _) (wpAny_newObj_type (wpAny_bind (wpAny_pure (wpAny_pure ⟨_, rfl, wpAny_pure h⟩))) hfit)
    | exact wpAny_bind (wpAny_bind (m := Builtin.Tuple.tupleExact _) (wpAny_newObj_type (wpAny_pure (wpAny_pure ⟨_, rfl, wpAny_pure h⟩)) hfit))
    | exact wpAny_bind (wpAny_bind (m := Builtin.Tuple.tupleExact _) (wpAny_newObj_type (wpAny_pure ⟨_, rfl, wpAny_pure h⟩) hfit))
end
section
variable {X : Cx}
def tRevT (K : PySem.W.Frag) (te : TE) : TE := fun σ H Q => te σ H fun x H1 => ∃ a xs, x = .ref a ∧ SqT K H1 a xs ∧ ∀ p, H1 p = none → Q (.ref p) (upd H1 p (.tup xs.reverse))
theorem pe_revT {e : Expr} {te : TE} {k : Nat} {p1 p2 p3 pos : Pos} (he : PE X e te) : PE X (.Subscript e (.Slice none none (some (.UnaryOp .USub (.Constant (.int 1) k p1) p2)) p3) pos) (tRevT X.K te) := by
  refine ⟨fun pins s σ H Q I h => Subscript_ (thn (he.run pins s σ H _ I h) fun v s1 ⟨x, H1, I1, r1, a, xs, ex, hx, q⟩ => ?_)⟩
  subst ex
  cases r1
  have hst : PO X (some (.UnaryOp .USub (.Constant (.int 1) k p1) p2)) (tPart (tUn (rU fun i => .int (-i)) (tC (.int 1)))) := po_some (pe_un un_neg pe_int)
  refine wpAny_Slice (thn (po_none.run pins s1 σ H1 (fun o H2 => o = none ∧ H2 = H1) I1 ⟨rfl, rfl⟩) fun vl s2 ⟨l, H2, I2, pl, el, e2⟩ => ?_)
  subst el e2
  refine thn (po_none.run pins s2 σ H2 (fun o H3 => o = none ∧ H3 = H2) I2 ⟨rfl, rfl⟩) fun vu s3 ⟨u, H3, I3, pu, eu, e3⟩ => ?_
  subst eu e3
  refine thn (hst.run pins s3 σ H3 (fun o H4 => o = some (-1) ∧ H4 = H3) I3 ⟨1, rfl, -1, rfl, rfl, rfl⟩) fun vs s4 ⟨o, H4, I4, ps, eo, e4⟩ => ?_
  subst eo e4
  have I5 : Inv X pins σ H4 { s4 with heap := s4.heap.push { cls := .type "slice", data := .fields #[vl, vu, vs] } } := I4.kept (t' := s4.toks) fun b ob q => Heap.get?_push_of_some _ q
  obtain ⟨its, r, ht, hz⟩ := I5.tuple hx
  have hlen := r.length
  cases pl
  cases pu
  obtain ⟨tk, rfl⟩ : ∃ tk, vs = .int (-1) tk := by
    cases ps
    exact ⟨_, rfl⟩
  show wpAny (model X.prog X.w) X.A (subscriptTail e (.Slice none none (some (.UnaryOp .USub (.Constant (.int 1) k p1) p2)) p3) (.ref a) (.ref s4.heap.objs.size)) (EP X pins σ Q) X.xe { s4 with heap := s4.heap.push { cls := .type "slice", data := .fields #[.none, .none, .int (-1) tk] } }
  refine tail_any (ops := [.ref a, .ref s4.heap.objs.size]) ht.typeIs PyProof.Rows.slot_tuple_getitem.lookup ?_ (by with_unfolding_all rfl)
  refine getItem_tuple_back ht (Heap.IsSliceOf.new _ _ _ _) ?_ (by omega)
  refine ⟨.ref _, _, I5.laid (t' := s4.toks) (o := .tup xs.reverse) (fun b ob q => Heap.get?_push_of_some _ q) (Nat.le_refl _) ?_, rfl, q _ (I5.hok.fresh (Nat.le_refl _))⟩
  exact ⟨by rw [List.length_reverse]; exact hz, _, r.reverse, ⟨_, Heap.get?_push_size _ rfl, rfl, _, rfl⟩⟩
end
theorem ext_tup (l : Addr) (items : Array Value) (n : Nat) (b : Addr) (items2 : Array Value) (n2 : Nat) (dd : Option Addr) (sl : Array (Option Value)) (hs0 : ¬(!items.isEmpty && Builtin.List.listTooLong (items.size + items2.size)) = true)
    (hs1 : items.size ≤ sizeLine) (hs2 : items.size + items2.size ≤ sizeLine + 1) :
    Meets (Builtin.«list.extend» ⟨[.ref l, .ref b], []⟩) (fun _ R s => s.heap.get? l = some { cls := .type "list", dict := none, data := .seq items n, slots := #[] } ∧ s.heap.get? b = some { cls := .type "tuple", dict := dd, data := .seq items2 n2, slots := sl } ∧
      R (.ok (.ret Value.none)) { s with heap := s.heap.update l (Obj.mapSeq fun x => x ++ items2), toks := s.toks }) :=
  .of_wp fun prog w A R s h => by
    obtain ⟨hp, g, d, tk, os⟩ := s
    obtain ⟨hl, hb, h⟩ := h
    have f1 := AutoSeq1.idx_int
    have f2 := AutoSeq1.sub_tuple_tuple
    have f3 := AutoSeq1.sub_list_list
    have f4 := AutoSeq1.sub_tuple_list
    have f5 := AutoSeq1.sub_list_tuple
    have hz' : (items ++ items2).size ≤ sizeLine + 1 := by
      rw [Array.size_append]
      exact hs2
    wp_walk using (wpAny_updateSeq hl rfl (hz := hs1) (_hz' := hz')), AutoSeq1.wpAny_loadPart' hl, AutoSeq1.wpAny_loadPart' hb
    exact ⟨_, rfl, h⟩
section
variable {X : Cx}
def rExtT (K : PySem.W.Frag) : V → List V → Hp → VK → Prop := fun x vs H Q => ∃ l b xs zs, x = .ref l ∧ vs = [.ref b] ∧ H l = some (.lst xs) ∧ SqT K H b zs ∧ xs.length + zs.length ≤ sizeLine ∧ Q .non (upd H l (.lst (xs ++ zs)))
theorem mt_extT : MtM X "list.extend" (rExtT X.K) := by
  intro pins s σ H x vs v us Q I rx rv h
  obtain ⟨l, b, xs, zs, rfl, rfl, hH, hB, hz, q⟩ := h
  cases rx
  obtain ⟨u, rfl, ru⟩ := rv.one
  cases ru
  obtain ⟨z, its, n, r, hl, e⟩ := I.lstM hH
  obtain ⟨its2, r2, ⟨⟨cls, dd, data, sl⟩, e2, hc, n2, hd⟩, hz2⟩ := I.tuple hB
  simp only at hc hd
  subst hc hd
  have hl2 := r2.length
  have hsz : its.toArray.size + its2.toArray.size ≤ sizeLine := by
    rw [List.size_toArray, List.size_toArray]
    omega
  have hlong : ¬ (!its.toArray.isEmpty && Builtin.List.listTooLong (its.toArray.size + its2.toArray.size)) = true := by
    rw [notLongL hsz, Bool.and_false]
    exact Bool.false_ne_true
  refine call_meets F.slot_list_extend ⟨_, e, rfl⟩ F.entry_list_extend (F.args_list_extend_2 _ _) (ext_tup l its.toArray n b its2.toArray n2 dd sl hlong (by rw [List.size_toArray]; omega) (by omega)) ⟨e, e2, ?_⟩
  refine ⟨.non, _, I.lset (its' := its ++ its2) hH e (by simp) (r.append r2) ?_, rfl, q⟩
  rw [List.length_append]
  omega
end
end TX
namespace TX
open PySem PySem.Spec PySem.Calls PyProof.Rows L2
open PySem.W (Frag InstAt findIn subIn hasDictIn specialIn takesIn mroIn clsIn Looks looks_findIn looks_find looks_subIn KitX)
section
variable {prog : Program} {w : World} {A : Around} {E : Value → Shared → Prop} {s : Shared} {K : Frag} {x D : Addr} {ox : Obj} {od : Option Obj}
theorem clsSome {D : Addr} (h : hasDictIn K D = true) : (clsIn K D).isSome = true := by
  unfold hasDictIn at h
  cases e : clsIn K D with
  | none => rw [e] at h; cases h
  | some c => rfl
theorem findData {C : Addr} {name : Str} {a g : Value} (hc : (clsIn K C).isSome = true) (ha : findIn K (.ref C) name = some (some a)) (hg : specialIn K a "__get__" = some (some g)) (ht : takesIn K a = some true) :
    PySem.W.findObj K C od name = some (.bind g a) := by
  obtain ⟨cd, hc⟩ := Option.isSome_iff_exists.mp hc
  simp [PySem.W.findObj, hc, ha, hg, ht]
/-- e.__class__ of an exception of an own class, with or without a dict of its own -/
theorem classOf {Q : Option Value → Shared → Prop} (T : ExcC K D) (X : K.In s.heap) (I : InstAt s.heap x ox D od) (h : Q (some (.ref D)) { s with toks := s.toks + 1 }) : wpAny (model prog w) A (getAttr? (.ref x) "__class__") Q E s := by
  have hf : PySem.W.findObj K D od "__class__" = some (.bind (.builtin "getset_descriptor.__get__") (.builtin "object.__class__")) := findData (clsSome T.hd) T.ha T.hn T.ht
  obtain ⟨hp, g, d, t, os⟩ := s
  have L0 := I.type (M := model prog w)
  have L1 := looks_findIn (M := model prog w) X T.hg
  have L2 := looks_findIn (M := model prog w) X T.hk
  have L3 := looks_find (M := model prog w) X I hf
  have sub : Looks (model prog w) hp (isInstance (.ref x) (.type "BaseException")) true := L0.andThen (looks_subIn X T.hs)
  have n0 : (false && onTheHeap (Value.builtin "BaseException.__getattribute__")) = false := rfl
  have n2 : (Value.builtin "BaseException.__getattribute__" == Value.builtin "object.__getattribute__") = false := by decide +kernel
  have n1 : (onTheHeap (Value.ref D) && Value.builtin "BaseException.__getattribute__" == Value.builtin "object.__getattribute__") = false := by
    rw [n2]
    rfl
  unfold getAttr? getAttrBy? getAttrBy
  refine wpAny_bind (wpAny_mkText (wpAny_bind (wpAny_attempt (wpAny_holding (wpAny_bind (L0.at (wpAny_bind (L1.at ?_))))))))
  show wpAny _ _ (if (onTheHeap (Value.ref D) && Value.builtin "BaseException.__getattribute__" == Value.builtin "object.__getattribute__") = true then _ else _) _ _ _
  rw [n1, if_neg Bool.false_ne_true]
  unfold getAttrByItsOwn hookBefore
  refine wpAny_bind ?_
  rw [if_pos (show onTheHeap (Value.ref D) = true from rfl)]
  refine L2.at (wpAny_bind (wpAny_attempt (wpAny_holding ?_)))
  unfold callGetattribute
  rw [n0, if_neg Bool.false_ne_true]
  unfold boundAndCalled
  rw [PySem.F.excAttr_ValueError.ga.bind (.ref x)]
  refine wpAny_bind (wpAny_pure ?_)
  show wpAny _ _ (call (.builtin "BaseException.__getattribute__") [.ref x, .str "__class__" t]) _ _ _
  refine wpAny_call (codeAny_call_builtin PySem.F.excAttr_ValueError.ga.plain PySem.F.entry_bexc_ga ?_)
  refine @PySem.W.check_slot (model prog w) _ _ ⟨hp, g, d, t + 1, os⟩ "BaseException.__getattribute__" "BaseException" "__getattribute__" (.ref x) [.str "__class__" t] [] _ (by decide +kernel) (by decide +kernel) sub (PySem.F.args_bexc_ga (.ref x) (.str "__class__" t)) ?_
  unfold Builtin.«object.__getattribute__»
  refine wpAny_bind (wpAny_of_eq (a := ((Value.ref x : Value), [Value.str "__class__" t])) (by first | rfl | (simp only [slotArgs]; rfl)) ?_)
  refine wpAny_bind (wpAny_pure (wpAny_bind (L0.at (wpAny_bind (L3.at ?_)))))
  show wpAny _ _ (holding [Value.builtin "object.__class__"] (call (.builtin "getset_descriptor.__get__") [.builtin "object.__class__", .ref x, .ref D]) >>= ret) _ _ _
  refine wpAny_bind (wpAny_holding (wpAny_call (PySem.W.class_get (s := ⟨hp, g, d, t + 1, os⟩) (ox := ox) (od := od) X I T.hm (wpAny_pure ?_))))
  show wpAny _ _ (handedOut (.ref D)) _ _ _
  rw [PySem.W.handedOut_of (v := .ref D) rfl]
  first
    | exact wpAny_pure (wpAny_pure h)
    | exact wpAny_pure h
    | exact wpAny_pure (wpAny_bind (wpAny_pure (wpAny_pure h)))
theorem kitE (T : ExcC K D) : KitX K (.ref x) (.ref D) (fun h => InstAt h x ox D od) where
  ty := fun _ _ _ I => I.type
  it := fun _ _ X _ => by
    obtain ⟨cd, hc⟩ := Option.isSome_iff_exists.mp (clsSome T.hd)
    unfold clsIn at hc
    split at hc
    · rename_i c' d' cd' sl' ho
      intro A' Q' E' s' k q
      unfold isType loadHead
      exact wpAny_bind (wpAny_loadPart (k _ _ (X _ _ ho)) (wpAny_pure q))
    · cases hc
  ne := fun h tp dd its n sl X htp => by
    obtain ⟨cd, hc⟩ := Option.isSome_iff_exists.mp (clsSome T.hd)
    refine Bool.eq_false_iff.mpr fun q => ?_
    have e : D = tp := Value.ref.inj (beq_iff_eq.mp q)
    subst e
    unfold clsIn at hc
    split at hc
    · rename_i c' d' cd' sl' ho
      have z := (X _ _ ho).symm.trans htp
      cases z
    · cases hc
  ca := fun X I k => classOf T X I k
end
/-- the exception that the suite holds, as the state has it -/
theorem atE {X : Cx} {pins : List (Addr × Obj)} {σ : L2.St} {H : Hp} {s : Shared} {a D : Addr} {oe : Obj} {d : Option Addr} {pn : List (Addr × Obj)} (I : Inv (X.suite a ((a, oe) :: pn)) pins σ H s) (hz : Zc (.ref D) d oe) (hf : ∃ vs, oe.data = .fields vs)
    (hd : ∀ dd, d = some dd → ∃ fs, H dd = some (.xd fs)) : ∃ od, InstAt s.heap a oe D od := by
  obtain ⟨hget, _⟩ := I.pin (a, oe) (List.mem_append.mpr (.inl List.mem_cons_self))
  obtain ⟨vs, hv⟩ := hf
  obtain ⟨oc, odd, oda, osl⟩ := oe
  obtain ⟨h1, h2⟩ := hz
  dsimp only at h1 h2 hv
  subst h1 h2 hv
  cases odd with
  | none => exact ⟨none, hget, rfl, rfl, trivial⟩
  | some dd =>
    obtain ⟨fs, hx⟩ := hd dd rfl
    have ob : ObjOk X.prog X.w H s.heap dd (.xd fs) := I.hok dd _ hx
    obtain ⟨mA, ⟨o, es, ep, ho, _⟩, _⟩ := ob
    exact ⟨some o, hget, rfl, rfl, ho⟩
/-- isinstance(e, c) -/
def rIsE2 (K : Frag) (D a : Addr) (d : Option Addr) : List V → Hp → VK → Prop := fun xs H Q => ∃ (c : V) (cv : Value) (b : Bool), xs = [.ref a, c] ∧ ClsV c cv ∧ PySem.W.kitOne K (.ref D) cv = some b ∧ (∀ dd, d = some dd → ∃ fs, H dd = some (.xd fs)) ∧ Q (.bl b) H
theorem call_isE2 {X : Cx} {a D : Addr} {oe : Obj} {d : Option Addr} {pn : List (Addr × Obj)} (C : ExcC X.K D) (hz : Zc (.ref D) d oe) (hf : ∃ vs, oe.data = .fields vs) : CallR (X.suite a ((a, oe) :: pn)) (.builtin "isinstance") (rIsE2 X.K D a d) := by
  intro pins s σ H xs us Q I r h
  obtain ⟨c, cv, b, rfl, hcv, e, hd, q⟩ := h
  obtain ⟨u1, u2, rfl, r1, r2⟩ := vals2 r
  cases (show u1 = Value.ref a from r1)
  cases hcv.eq r2
  obtain ⟨od, J⟩ := atE I hz hf hd
  exact PySem.W.kia_one (kitE C) I.kIn J e (fun z => nomatch z) fun tk => ⟨.bl b, H, I.tok tk, rfl, q⟩
/-- isinstance(e, (c1, c2, ..)) -/
def rIsET (K : Frag) (D a : Addr) (d : Option Addr) : List V → Hp → VK → Prop := fun xs H Q => ∃ (tp : Addr) (cs : List V) (us : List Value) (b : Bool), xs = [.ref a, .ref tp] ∧ H tp = some (.tup cs) ∧ Paired ClsV cs us ∧ PySem.W.kitAny K (.ref D) us = some b ∧
  (∀ dd, d = some dd → ∃ fs, H dd = some (.xd fs)) ∧ Q (.bl b) H
theorem call_isET {X : Cx} {a D : Addr} {oe : Obj} {d : Option Addr} {pn : List (Addr × Obj)} (C : ExcC X.K D) (hz : Zc (.ref D) d oe) (hf : ∃ vs, oe.data = .fields vs) : CallR (X.suite a ((a, oe) :: pn)) (.builtin "isinstance") (rIsET X.K D a d) := by
  intro pins s σ H xs us Q I r h
  obtain ⟨tp, cs, ws, b, rfl, hT, k, e, hd, q⟩ := h
  obtain ⟨u1, u2, rfl, r1, r2⟩ := vals2 r
  cases (show u1 = Value.ref a from r1)
  cases (show u2 = Value.ref tp from r2)
  obtain ⟨_, its, rv, o, h1, h2, n, h3⟩ := (show ObjOk X.prog X.w H s.heap tp (.tup cs) from I.hok tp _ hT)
  cases ClsV.all k rv
  obtain ⟨oc, odd, dt, sl⟩ := o
  simp only at h2 h3
  subst h2 h3
  obtain ⟨od, J⟩ := atE I hz hf hd
  exact PySem.W.kia_tup (kitE C) I.kIn J h1 e (fun z => nomatch z) fun tk => ⟨.bl b, H, I.tok tk, rfl, q⟩
/-! ### X(), an own exception class whose __init__ stores nothing -/
def tMkN (C : Addr) (sp : Sp) : L2.St → Hp → XK → Prop := fun _ H Q => ∀ a, H a = none → sp [.ref a] (upd H a (exo a C none)) (fun v H2 => v = .non ∧ H2 a = some (exo a C none) ∧ Q (.ref C) none (del H2 a)) (fun _ _ _ => False)
theorem pmk_oexN {X : Cx} {CX : CXT} {x : Str} {C fI : Addr} {k : Nat} {fd : FuncData} {ps : List Str} {sp : Sp} {p pos : Pos} (T : OexC X.K C) (iC : findIn X.K (.ref C) "__init__" = some (some (.ref fI))) (tI : PySem.W.typeIn X.K (.ref fI) = some (.type "function"))
    (F1 : FnOk X.prog X.w X.K X.mg X.base CX k fI fd ps sp) (hr : Room (k + 1) X.A) (hb : Binds X.K fd ps []) (hx : Passes CX X (fun _ _ _ => False)) (hg : Gl X x) (hm : X.mg x = some (.ref C)) (hdb : (x == ("__debug__" : Str)) = false := by decide) :
    PMk X (.Call (.Name x p) [] [] pos) (tMkN C sp) := by
  intro pins s σ H Q I h
  obtain ⟨nm, q, N, bs, bm, sn, sub, ab, col, dd, k0, k1, k2, k3, k5, hC, hbm⟩ := T.cls
  refine wpAny_Call_Name_kw (ld_glob I hg hm (PySem.W.callWith_K0 I.kIn T.kC ?_) hdb)
  obtain ⟨hp, g, dr, tk, os⟩ := s
  have hsz : hp.objs.size ≤ hp.objs.size + 1 := Nat.le_succ _
  have hn : H (hp.objs.size + 1) = none := I.hok.fresh hsz
  have hq := h (hp.objs.size + 1) hn
  have kk : ∀ b o, hp.get? b = some o → ((hp.push (PySem.W.kdv_tup [])).push (PySem.HandSPX.excO C hp.objs.size)).get? b = some o := fun b o e => Heap.get?_push_of_some _ (Heap.get?_push_of_some _ e)
  have hget : ((hp.push (PySem.W.kdv_tup [])).push (PySem.HandSPX.excO C hp.objs.size)).get? (hp.objs.size + 1) = some (PySem.HandSPX.excO C hp.objs.size) := by heap_get
  have I2 : Inv X pins σ (upd H (hp.objs.size + 1) (exo (hp.objs.size + 1) C none)) ⟨(hp.push (PySem.W.kdv_tup [])).push (PySem.HandSPX.excO C hp.objs.size), g, dr, tk, os⟩ :=
    I.laid (t' := tk) (a := hp.objs.size + 1) (o := exo (hp.objs.size + 1) C none) (h' := (hp.push (PySem.W.kdv_tup [])).push (PySem.HandSPX.excO C hp.objs.size)) kk hsz (exo_ok hget)
  have r2 : Vals [V.ref (hp.objs.size + 1)] [Value.ref (hp.objs.size + 1)] := .cons rfl .nil
  have hl : ([Value.ref (hp.objs.size + 1)] ++ ([] : List Value)).length = ps.length := (F1.len _ _ _ _ hq).symm ▸ rfl
  refine wpAny_call (PySem.HandSPX.call_own F.excBase_ValueError (fun Y => PySem.HandSPX.refsVE_contains Y bm hbm) (I.kIn _ _ hC) (looks_findIn I.kIn iC) (fun self => PySem.W.bind_fn I.kIn self tI) (by show 0 ≤ sizeLine; exact Nat.zero_le _)
    (codeAny_mono (F1.run _ X.stack _ _ ⟨[Value.ref (hp.objs.size + 1)], []⟩ [Value.ref (hp.objs.size + 1)] _ _ (fun _ _ _ => False) (hr.make C [] []) (I2.env0.make C [] []) (hb _ [Value.ref (hp.objs.size + 1)] I2.kIn hl) r2 hq) fun r s' hq' => ?_))
  cases r with
  | error er => exact hx pins σ _ _ er s' I2 hq'
  | ok fl => cases fl with
    | next => exact False.elim hq'
    | brk => exact False.elim hq'
    | cont => exact False.elim hq'
    | ret u =>
      obtain ⟨v, H2, os2, bare2, un2, hok2, rv, ev, ea, q2⟩ := hq'
      subst ev
      refine ⟨rv, ?_⟩
      obtain ⟨h2, g2, d2, t2, os'⟩ := s'
      generalize hA : hp.objs.size + 1 = a at *
      obtain ⟨t0, hoe⟩ := exo_at hok2 ea
      obtain ⟨G, g1', g2'⟩ := restrict h2 fun b => decide (b ≠ a)
      have gk : ∀ b, b ≠ a → G.get? b = h2.get? b := fun b hb => g1' b (decide_eq_true hb)
      have ge : G.get? a = none := g2' a (by simp)
      have nha : ∀ {b : Addr} {o : Obj}, hp.get? b = some o → b ≠ a := fun {b o} z => Nat.ne_of_lt (Nat.lt_of_lt_of_le (Heap.lt_size z) hsz)
      have up : ∀ {b : Addr}, b ≠ a → H b = none → upd H a (exo a C none) b = none := fun {b} hb n => by
        rw [upd_ne hb]
        exact n
      have U : Un (frs X.stack) [] H (del H2 a) hp G := {
        keep := fun b o z n hf hx => (gk b (nha z)).trans (un2.keep b o (kk b o z) (up (nha z) n) hf hx)
        slot := fun b o z n hf hx => by
          rw [gk b (nha z)]
          exact un2.slot b o (kk b o z) (up (nha z) n) hf hx
        free := fun b o z n hx => by
          rw [del_ne (nha z)]
          exact un2.free b o (kk b o z) (up (nha z) n) hx
        there := fun b o z hx => by
          rw [gk b (nha z)]
          exact un2.there b o (kk b o z) hx
        tups := fun b xs z => by
          rw [del_ne (ne_of_none z hn)]
          exact un2.tups b xs (by rw [upd_ne (ne_of_none z hn)]; exact z)
        frzs := fun b o v z => by
          rw [del_ne (ne_of_none z hn)]
          exact un2.frzs b o v (by rw [upd_ne (ne_of_none z hn)]; exact z)
        tbls := fun b ps z => by
          rw [del_ne (ne_of_none z hn)]
          exact un2.tbls b ps (by rw [upd_ne (ne_of_none z hn)]; exact z) }
      have hok3 : HOk X.prog X.w (del H2 a) G := fun b o z => by
        have hba : b ≠ a := fun e => by
          rw [e, del_same] at z
          cases z
        rw [del_ne hba] at z
        have noa : ∀ {c : Addr}, H2 c = some (.own b) → c ≠ a := fun {c} hc => at_ne ea hc exo_own
        refine (hok2 b o z).stay (fun c v hc y => ?_) (fun c hc => by rw [del_ne (noa hc)]; exact hc) (fun c xs hc => by rw [del_ne (at_ne ea hc exo_tup)]; exact hc)
        have hca : c ≠ a := hc.elim (fun e => e ▸ hba) noa
        exact (gk c hca).trans y
      have J : Inv X pins σ (del H2 a) ⟨G, g2, d2, t2, os'⟩ := I.call' (ch := []) os2 U hok3 bare2 (fun b z => absurd z (by simp))
      refine ⟨a, _, _, ⟨G, g2, d2, t2, os'⟩, _, .ref C, none, rfl, J, fun b o z => ?_, ge, hoe, ⟨rfl, rfl⟩, rfl, rfl, del_same, rfl, bare2, raises_own T.exC T.tyC, q2⟩
      by_cases hba : b = a
      · rw [hba] at z
        have z' : G.get? a = some o := z
        rw [ge] at z'
        cases z'
      · exact (gk b hba).symm.trans z
end TX
namespace TX
open PySem PySem.Spec PyProof.Rows L2
def top (i : Nat) : Stmt := PySem.Challenge.pw_textorlist_k64_survey_page.main.body.getD i (.Pass ⟨0, 0, 0, 0⟩)
abbrev sParts : Stmt := top 1
abbrev s_shown : Stmt := top 2
abbrev s_survey_page : Stmt := top 4
abbrev sBag : Stmt := top 6
abbrev sTake : Stmt := top 7
abbrev s__law_of : Stmt := top 8
abbrev sText : Stmt := top 9
abbrev sValue : Stmt := top 10
abbrev sLaw : Stmt := top 11
end TX
namespace TX
open PySem PySem.Spec PyProof.Rows L2
/-! ### the walk over data: a step takes the first of the parts that wait -/
inductive Stp (K : PySem.W.Frag) (H : Hp) : List V × List PyData → V → List V × List PyData → Prop
  | leaf {v : V} {d : PyData} {r : List V} {rd : List PyData} : Dp K H v d → (tyD d == "list" || tyD d == "tuple") = false → Stp K H (v :: r, d :: rd) v (r, rd)
  | lst {a : Addr} {xs r : List V} {es rd : List PyData} : SqL K H a xs → DpAll K H xs es → Stp K H (.ref a :: r, .list es :: rd) (.ref a) (xs ++ r, es ++ rd)
  | tup {a : Addr} {xs r : List V} {es rd : List PyData} : SqT K H a xs → DpAll K H xs es → Stp K H (.ref a :: r, .tuple es :: rd) (.ref a) (xs ++ r, es ++ rd)
/-- the parts so far, the last one first -/
inductive Path (K : PySem.W.Frag) (H : Hp) (S0 : List V × List PyData) : List V → List V × List PyData → Prop
  | nil : Path K H S0 [] S0
  | cons {rs : List V} {S S' : List V × List PyData} {p : V} : Path K H S0 rs S → Stp K H S p S' → Path K H S0 (p :: rs) S'
theorem isLT (d : PyData) (K : PySem.W.Frag) : PySem.W.kitAny K (.type (tyD d)) [.type "list", .type "tuple"] = some (tyD d == "list" || tyD d == "tuple") := by
  cases d with
  | none => exact kitAny_cons (b := false) (kit_ty (a := "NoneType") (b := "list") (by decide +kernel)) (fun _ => kitAny_cons (b := false) (kit_ty (a := "NoneType") (b := "tuple") (by decide +kernel)) (fun _ => kitAny_nil) (fun z => nomatch z)) (fun z => nomatch z)
  | bool _ => exact kitAny_cons (b := false) (kit_ty (a := "bool") (b := "list") (by decide +kernel)) (fun _ => kitAny_cons (b := false) (kit_ty (a := "bool") (b := "tuple") (by decide +kernel)) (fun _ => kitAny_nil) (fun z => nomatch z)) (fun z => nomatch z)
  | int _ => exact kitAny_cons (b := false) (kit_ty (a := "int") (b := "list") (by decide +kernel)) (fun _ => kitAny_cons (b := false) (kit_ty (a := "int") (b := "tuple") (by decide +kernel)) (fun _ => kitAny_nil) (fun z => nomatch z)) (fun z => nomatch z)
  | str _ => exact kitAny_cons (b := false) (kit_ty (a := "str") (b := "list") (by decide +kernel)) (fun _ => kitAny_cons (b := false) (kit_ty (a := "str") (b := "tuple") (by decide +kernel)) (fun _ => kitAny_nil) (fun z => nomatch z)) (fun z => nomatch z)
  | dict _ => exact kitAny_cons (b := false) (kit_ty (a := "dict") (b := "list") (by decide +kernel)) (fun _ => kitAny_cons (b := false) (kit_ty (a := "dict") (b := "tuple") (by decide +kernel)) (fun _ => kitAny_nil) (fun z => nomatch z)) (fun z => nomatch z)
  | list _ => exact kitAny_cons (b := true) (kit_ty (a := "list") (b := "list") (by decide +kernel)) (fun z => nomatch z) (fun _ => rfl)
  | tuple _ => exact kitAny_cons (b := false) (kit_ty (a := "tuple") (b := "list") (by decide +kernel)) (fun _ => kitAny_cons (b := true) (kit_ty (a := "tuple") (b := "tuple") (by decide +kernel)) (fun z => nomatch z) (fun _ => rfl)) (fun z => nomatch z)
/-- what the walk asks of the names of the top -/
structure Nm (mg : Str → Option Value) : Prop where
  isi : mg "isinstance" = none
  lst : mg "list" = none
  tpl : mg "tuple" = none
def spParts (K : PySem.W.Frag) : Sp := fun vs H Q _ => ∃ (v : V) (d : PyData) (Hv : Hp), vs = [v] ∧ Same Hv H ∧ Dp K Hv v d ∧ nd d ≤ 1000000 ∧
  ∀ (H' : Hp) (p : Addr) (rs : List V), Same H H' → H p = none → H' p = some (.lst rs.reverse) → Path K Hv ([v], [d]) rs ([], []) → rs.length = nd d → Q (.ref p) H'
section
variable {P : Program} {w : World} {K : PySem.W.Frag} {mg : Str → Option Value} {base : Heap}
theorem scParts : FnScope ["thing", "waiting", "parts", "part"] ["thing"] (defScope sParts) := ⟨rfl, rfl, rfl, by decide +kernel, rfl, by decide +kernel, by decide +kernel⟩
theorem ok_parts {f : Addr} {fd : FuncData} {k : Nat} (F : Fun K "all_parts" "all_parts" sParts f fd) (T : Nm mg) : FnOk P w K mg base CX0 (k + 1) f fd ["thing"] (spParts K) := by
  refine F.ok scParts (fun vs H Q E h => ?_) (fun cdv A outer s H vs Q E hr h => ?_)
  · obtain ⟨v, d, Hv, rfl, _⟩ := h
    rfl
  · obtain ⟨v, d, Hv, rfl, sv, hd, hn, q⟩ := h
    refine ⟨_, pss_cons (ps_set (i := 1) scParts.nd rfl (.inl rfl) (pe_lst (pa_cons (pv 0) pa_nil)))
      (pss_cons (ps_set (i := 2) scParts.nd rfl (.inl rfl) (pe_lst pa_nil))
      (pss_cons (ps_while PassesOwn.never (pt_truth (pv 1) (by intro _; rfl))
        (pss_cons (ps_set (i := 3) scParts.nd rfl (.inl rfl) (pe_bm0 PySem.F.plainAttrs_list PySem.F.slot_list_pop PySem.F.type_list_pop mt_pop (pv 1)))
        (pss_cons (ps_expr (pe_bm PySem.F.plainAttrs_list PySem.F.slot_list_append PySem.F.type_list_append mt_append (pv 2) (pa_cons (pv 3) pa_nil)))
        (pss_one (ps_if (pt_val (pe_callB call_isiT (by rfl) T.isi (by decide +kernel) (pa_cons (pv 3) (pa_cons (pe_tup (pa_cons (pe_bltn (v := .ty "list") (by rfl) T.lst (by decide +kernel) rfl) (pa_cons (pe_bltn (v := .ty "tuple") (by rfl) T.tpl (by decide +kernel) rfl) pa_nil))) pa_nil))))
          (pss_one (ps_alt (ps_expr (pe_bm PySem.F.plainAttrs_list PySem.F.slot_list_extend PySem.F.type_list_extend mt_extend (pv 1) (pa_cons (pe_revL (pv 3)) pa_nil)))
            (ps_expr (pe_bm PySem.F.plainAttrs_list PySem.F.slot_list_extend PySem.F.type_list_extend mt_extT (pv 1) (pa_cons (pe_revT (pv 3)) pa_nil)))))
          pss_nil)))))
      (pss_one (ps_ret (pv 2))))), ?_⟩
    refine ⟨_, rfl, (by show 1 ≤ sizeLine; decide), fun wa nwa => ⟨by decide, fun pa npa => ?_⟩⟩
    have nwa' : pa ≠ wa := fun e => by
      rw [e, upd_same] at npa
      cases npa
    have npa0 : H pa = none := by
      rw [upd_ne nwa'] at npa
      exact npa
    -- the invariant
    refine ⟨fun m σ H1 => ∃ (rs : List V) (S : List V × List PyData) (y : Option V), σ = [some v, some (.ref wa), some (.ref pa), y] ∧ Same H H1 ∧ H1 wa = some (.lst S.1.reverse) ∧ H1 pa = some (.lst rs.reverse) ∧
      DpAll K Hv S.1 S.2 ∧ Path K Hv ([v], [d]) rs S ∧ rs.length + ndAll S.2 = nd d ∧ m = ndAll S.2, ⟨_, [], ([v], [d]), none, rfl, (same_upd nwa).trans (same_upd npa), ?_, upd_same, .cons hd .nil, .nil, ?_, rfl⟩, ?_⟩
    · rw [upd_ne nwa'.symm, upd_same]
      rfl
    · simp [ndAll]
    rintro m σ H1 ⟨rs, ⟨vs, ds⟩, y, rfl, sm, hw, hp, hS, hP, hc, rfl⟩
    refine ⟨_, rfl, _, .inl ⟨_, SqL.of hw, rfl⟩, ?_⟩
    cases hS with
    | nil =>
      -- nothing waits any more
      refine iteF ?_
      refine ⟨_, rfl, q H1 pa rs sm npa0 hp hP ?_⟩
      simpa [ndAll] using hc
    | @cons v1 r1 d1 rd1 h1 h2 =>
      have hne : (!((v1 :: r1, d1 :: rd1) : List V × List PyData).1.reverse.isEmpty) = true := by simp
      rw [hne]
      refine iteT ?_
      have hlen : rs.length + (nd d1 + ndAll rd1) = nd d := by simpa [ndAll] using hc
      have hrl : rs.length ≤ 1000000 := by omega
      have hvl : r1.length ≤ ndAll rd1 := by
        have e := DpAll.length h2
        have e2 := ndAll_len rd1
        omega
      refine ⟨fun σ' H2 => ∃ (S' : List V × List PyData), σ' = [some v, some (.ref wa), some (.ref pa), some v1] ∧ Same H H2 ∧ H2 wa = some (.lst S'.1.reverse) ∧ H2 pa = some (.lst (v1 :: rs).reverse) ∧ DpAll K Hv S'.1 S'.2 ∧ Stp K Hv (v1 :: r1, d1 :: rd1) v1 S' ∧ ndAll S'.2 + 1 = nd d1 + ndAll rd1, ?_, ?_⟩
      · rintro σ' H2 ⟨S', rfl, g1, g2, g3, g4, g5, g6⟩
        exact ⟨_, by simp only [ndAll]; omega, v1 :: rs, S', _, rfl, g1, g2, g3, g4, .cons hP g5, by rw [List.length_cons]; omega, rfl⟩
      -- part = waiting.pop()
      have ep : ((v1 :: r1, d1 :: rd1) : List V × List PyData).1.reverse = r1.reverse ++ [v1] := by simp
      rw [ep] at hw
      refine ⟨_, rfl, .inl ⟨rfl, _, SqL.of hw⟩, wa, _, v1, rfl, rfl, hw, by simp, ?_⟩
      rw [List.dropLast_concat]
      have sm1 : Same H (upd H1 wa (.lst r1.reverse)) := same_fresh nwa sm
      have hp1 : (upd H1 wa (.lst r1.reverse)) pa = some (.lst rs.reverse) := by
        rw [upd_ne nwa']
        exact hp
      -- parts.append(part)
      refine ⟨_, rfl, .inl ⟨rfl, _, SqL.of hp1⟩, _, rfl, pa, _, _, rfl, rfl, hp1, Nat.lt_of_le_of_lt (by simpa using hrl) (by decide), ?_⟩
      have sm2 := same_fresh (o := .lst (rs.reverse ++ [v1])) npa0 sm1
      have hw2 : (upd (upd H1 wa (.lst r1.reverse)) pa (.lst (rs.reverse ++ [v1]))) wa = some (.lst r1.reverse) := by
        rw [upd_ne nwa'.symm, upd_same]
      have hp2 : (upd (upd H1 wa (.lst r1.reverse)) pa (.lst (rs.reverse ++ [v1]))) pa = some (.lst (rs.reverse ++ [v1])) := upd_same
      -- if isinstance(part, (list, tuple))
      refine ⟨_, rfl, by decide, fun tp ntp => ?_⟩
      have t1 : wa ≠ tp := ne_of_none hw2 ntp
      have t2 : pa ≠ tp := ne_of_none hp2 ntp
      have sm3 : Same H (upd (upd (upd H1 wa (.lst r1.reverse)) pa (.lst (rs.reverse ++ [v1]))) tp (.tup [.ty "list", .ty "tuple"])) := sm2.trans (same_upd ntp)
      have hw3 : (upd (upd (upd H1 wa (.lst r1.reverse)) pa (.lst (rs.reverse ++ [v1]))) tp (.tup [.ty "list", .ty "tuple"])) wa = some (.lst r1.reverse) := by
        rw [upd_ne t1]
        exact hw2
      have hp3 : (upd (upd (upd H1 wa (.lst r1.reverse)) pa (.lst (rs.reverse ++ [v1]))) tp (.tup [.ty "list", .ty "tuple"])) pa = some (.lst (rs.reverse ++ [v1])) := by
        rw [upd_ne t2]
        exact hp2
      refine ⟨v1, tp, _, .type (tyD d1), [.type "list", .type "tuple"], _, rfl, upd_same, .cons (.ty _) (.cons (.ty _) .nil), dp_ty (dp_same (sv.trans sm3) _ _ h1), isLT d1 K, _, rfl, ?_⟩
      have er : (v1 :: rs).reverse = rs.reverse ++ [v1] := by simp
      generalize hG : upd (upd (upd H1 wa (.lst r1.reverse)) pa (.lst (rs.reverse ++ [v1]))) tp (.tup [.ty "list", .ty "tuple"]) = G at sm3 hw3 hp3
      -- what the reversed part puts behind
      have go : ∀ (rp : Addr) (o : HO) (xs : List V) (es : List PyData), G rp = none → DpAll K Hv xs es → nd d1 = ndAll es + 1 → Stp K Hv (v1 :: r1, d1 :: rd1) v1 (xs ++ r1, es ++ rd1) →
          ∃ S' : List V × List PyData, Same H (upd (upd G rp o) wa (.lst (r1.reverse ++ xs.reverse))) ∧ (upd (upd G rp o) wa (.lst (r1.reverse ++ xs.reverse))) wa = some (.lst S'.1.reverse) ∧
            (upd (upd G rp o) wa (.lst (r1.reverse ++ xs.reverse))) pa = some (.lst (v1 :: rs).reverse) ∧ DpAll K Hv S'.1 S'.2 ∧ Stp K Hv (v1 :: r1, d1 :: rd1) v1 S' ∧ ndAll S'.2 + 1 = nd d1 + ndAll rd1 := by
        intro rp o xs es nrp hxs hnd hst
        refine ⟨(xs ++ r1, es ++ rd1), same_fresh nwa (sm3.trans (same_upd nrp)), ?_, ?_, DpAll.append hxs h2, hst, ?_⟩
        · rw [upd_same]
          simp
        · rw [upd_ne nwa', upd_ne (ne_of_none hp3 nrp), er]
          exact hp3
        · show ndAll (es ++ rd1) + 1 = _
          rw [ndAll_append]
          omega
      have fit : ∀ (xs : List V) (es : List PyData), DpAll K Hv xs es → nd d1 = ndAll es + 1 → r1.reverse.length + xs.reverse.length ≤ sizeLine := by
        intro xs es hxs hnd
        have e1 := DpAll.length hxs
        have e2 := ndAll_len es
        rw [List.length_reverse, List.length_reverse]
        exact Nat.le_trans (show r1.length + xs.length ≤ 1000000 by omega) (by decide)
      have wne : ∀ {rp : Addr}, G rp = none → wa ≠ rp := fun h => ne_of_none hw3 h
      have leafy : (tyD d1 == "list" || tyD d1 == "tuple") = false → nd d1 = 1 → if (tyD d1 == "list" || tyD d1 == "tuple") = true then False else ∃ S' : List V × List PyData, Same H G ∧ G wa = some (.lst S'.1.reverse) ∧ G pa = some (.lst (v1 :: rs).reverse) ∧ DpAll K Hv S'.1 S'.2 ∧ Stp K Hv (v1 :: r1, d1 :: rd1) v1 S' ∧ ndAll S'.2 + 1 = nd d1 + ndAll rd1 := by
        intro e1 e2
        rw [e1]
        refine iteF ⟨(r1, rd1), sm3, hw3, by rw [er]; exact hp3, h2, .leaf h1 e1, ?_⟩
        show ndAll rd1 + 1 = _
        omega
      cases h1 with
      | non => exact let ⟨S', g⟩ := leafy rfl rfl; ⟨S', rfl, g⟩
      | bl b => exact let ⟨S', g⟩ := leafy rfl rfl; ⟨S', rfl, g⟩
      | int i => exact let ⟨S', g⟩ := leafy rfl rfl; ⟨S', rfl, g⟩
      | str x => exact let ⟨S', g⟩ := leafy rfl rfl; ⟨S', rfl, g⟩
      | @lst a xs es g1 g2 =>
        refine iteT (.inl ?_)
        refine ⟨_, rfl, .inl ⟨rfl, _, SqL.of hw3⟩, _, rfl, a, xs, rfl, (sv.trans sm3).seq g1, fun rp nrp => ?_⟩
        obtain ⟨S', g⟩ := go rp (.lst xs.reverse) xs es nrp g2 rfl (.lst g1 g2)
        exact ⟨wa, rp, _, _, rfl, rfl, by rw [upd_ne (wne nrp)]; exact hw3, upd_same, fit xs es g2 rfl, S', rfl, g⟩
      | @tup a xs es g1 g2 =>
        refine iteT (.inr ?_)
        refine ⟨_, rfl, .inl ⟨rfl, _, SqL.of hw3⟩, _, rfl, a, xs, rfl, same_sqt (sv.trans sm3) g1, fun rp nrp => ?_⟩
        obtain ⟨S', g⟩ := go rp (.tup xs.reverse) xs es nrp g2 rfl (.tup g1 g2)
        exact ⟨wa, rp, _, _, rfl, rfl, by rw [upd_ne (wne nrp)]; exact hw3, .inl (.inl upd_same), fit xs es g2 rfl, S', rfl, g⟩
end
end TX
namespace TX
open PySem PySem.Spec PyProof.Rows L2
def newp (H H' : Hp) : Hp := fun b => match H b with
  | none => H' b
  | some _ => none
theorem newp_at {H H' : Hp} {b : Addr} (h : H b = none) : newp H H' b = H' b := by
  unfold newp
  rw [h]
theorem newp_old {H H' : Hp} {b : Addr} {o : HO} (h : H b = some o) : newp H H' b = none := by
  unfold newp
  rw [h]
theorem newp_less {H H1 H2 : Hp} (h : Same H H1) : Same (newp H1 H2) (newp H H2) := fun b o e => by
  cases h1 : H1 b with
  | some u =>
    rw [newp_old h1] at e
    cases e
  | none =>
    rw [newp_at h1] at e
    rw [newp_at (h.free h1)]
    exact e
theorem newp_same {H H' : Hp} : Same (newp H H') H' := fun b o e => by
  cases h : H b with
  | none =>
    rw [newp_at h] at e
    exact e
  | some u =>
    rw [newp_old h] at e
    cases e
theorem newp_mono {H H2 H3 : Hp} {p : Addr} (pH : H p ≠ none) (k : ∀ b o, b ≠ p → H2 b = some o → H3 b = some o) : Same (newp H H2) (newp H H3) := fun b o e => by
  cases h : H b with
  | some u =>
    rw [newp_old h] at e
    cases e
  | none =>
    rw [newp_at h] at e ⊢
    exact k b o (fun z => pH (z ▸ h)) e
theorem newp_sub {H H2 H3 : Hp} (k : ∀ b, H b ≠ none → H2 b ≠ none) : Same (newp H2 H3) (newp H H3) := fun b o e => by
  cases h2 : H2 b with
  | some u =>
    rw [newp_old h2] at e
    cases e
  | none =>
    rw [newp_at h2] at e
    have h : H b = none := Classical.byContradiction fun z => k b z h2
    rw [newp_at h]
    exact e
/-- the entries of H are still there -/

structure Nb (mg : Str → Option Value) : Prop where
  len : mg "len" = none
  abs : mg "abs" = none
  int : mg "int" = none
/-- a bag of draws: the digits, the number, how many were mixed (at most n) -/
def BagAt (H : Hp) (p : Addr) (n : Int) : Prop := ∃ x y z : Int, H p = some (.lst [.int x, .int y, .int z]) ∧ 0 ≤ y ∧ y ≤ 11529215047000000000 ∧ 0 ≤ z ∧ z ≤ n
def spBag (K : PySem.W.Frag) : Sp := fun vs H Q _ => ∃ (a : Addr) (ns : List Int) (at_ : Nat), vs = [.ref a, .int at_] ∧ SqL K H a (ns.map V.int) ∧ at_ ≤ 63 ∧
  ∀ (H' : Hp) (p : Addr), Same H H' → H p = none → BagAt H' p 0 → Q (.ref p) H'
def spTake : Sp := fun vs H Q _ => ∃ (p : Addr) (m n : Int), vs = [.ref p, .int m] ∧ BagAt H p n ∧ n ≤ 1000000000 ∧ 0 < m ∧ m ≤ 1000000 ∧
  ∀ (x y z d : Int), 0 ≤ y → y ≤ 11529215047000000000 → 0 ≤ z → z ≤ n + 1 → 0 ≤ d → d < m → Q (.int d) (upd H p (.lst [.int x, .int y, .int z]))
section
variable {P : Program} {w : World} {K : PySem.W.Frag} {mg : Str → Option Value} {base : Heap}
theorem scBag : FnScope ["_law_script", "_law_at", "_law_cell"] ["_law_script", "_law_at"] (defScope sBag) := ⟨rfl, rfl, rfl, by decide +kernel, rfl, by decide +kernel, by decide +kernel⟩
theorem ok_bag {f : Addr} {fd : FuncData} {k : Nat} (F : Fun K "_law_bag" "_law_bag" sBag f fd) (T : Nb mg) : FnOk P w K mg base CX0 (k + 1) f fd ["_law_script", "_law_at"] (spBag K) := by
  refine F.ok scBag (fun vs H Q E h => ?_) (fun cdv A outer s H vs Q E hr h => ?_)
  · obtain ⟨a, ns, i, rfl, _⟩ := h
    rfl
  · obtain ⟨a, ns, i, rfl, hS, hi, q⟩ := h
    refine ⟨_, pss_cons (ps_set (i := 2) scBag.nd rfl (.inl rfl) (pe_ifExp (pt_cmpR op_lt (pv 1) (pe_callB call_len_seq (by rfl) T.len PySem.boot_len (pa_cons (pv 0) pa_nil)) (nomark _)) (pe_callB call_abs (by rfl) T.abs (by decide +kernel) (pa_cons (pe_ix ix_list (pv 0) (pv 1) (fun _ _ => rfl)) pa_nil)) pe_int)) <|
      pss_one (ps_ret (pe_lst (pa_cons (pe_ifExp (pt_cmpR op_ge (pv 2) (pe_op op_pow pe_int pe_int) (nomark _)) (pv 2) pe_int) (pa_cons (pe_op op_add (pe_op op_add (pe_op op_mul (pe_op op_mod (pe_callTy call_int1 (by rfl) T.int (by decide +kernel) (pa_cons (pv 2) pa_nil)) pe_int) pe_int) (pe_op op_mul pe_int (pv 1))) pe_int) (pa_cons pe_int pa_nil))))), ?_⟩
    have rest : ∀ c : Int, 0 ≤ c → ∀ u : Int, u = c ∨ u = 0 → ∀ H' p, Same H H' → H p = none → H' p = some (.lst [.int u, .int (c % 2305843009213693951 * 5 + 104729 * i + 7919), .int 0]) → Q (.ref p) H' := by
      intro c hc u hu H' p sm np hp
      have h1 := Int.emod_nonneg c (show (2305843009213693951 : Int) ≠ 0 by decide)
      have h2 := Int.emod_lt_of_pos c (show (0 : Int) < 2305843009213693951 by decide)
      exact q H' p sm np ⟨_, _, _, hp, by omega, by omega, by omega, by omega⟩
    have fin : ∀ c : Int, 0 ≤ c → (tRet (tLst (tCons (tIf (tTest (tOp (rI0 fun i j => .bl (decide (j ≤ i))) (tVar 2) (tOp (rI CPow fun i j => .int (i ^ j.toNat)) (tC (.int 10)) (tC (.int 18))))) (tVar 2) (tC (.int 0))) (tCons (tOp (rI0 fun i j => .int (i + j)) (tOp (rI0 fun i j => .int (i + j)) (tOp (rI CMul fun i j => .int (i * j)) (tOp (rI (fun _ j => 0 < j) fun i j => .int (i % j)) (tCB (fun xs H Q => (∃ i, xs = [.int i] ∧ Q (.int i) H) ∨ ∃ k, xs = [.bl k] ∧ Q (.int (if k then 1 else 0)) H) (tCons (tVar 2) tNil)) (tC (.int 2305843009213693951))) (tC (.int 5))) (tOp (rI CMul fun i j => .int (i * j)) (tC (.int 104729)) (tVar 1))) (tC (.int 7919))) (tCons (tC (.int 0)) tNil))))) { nx := fun _ H' => Q .non H', rt := Q } [some (.ref a), some (.int i), some (.int c)] H := by
      intro c hc
      refine ⟨_, rfl, _, _, rfl, rfl, ⟨by decide, by decide, by decide⟩, _, _, rfl, rfl, _, rfl, ?_⟩
      refine ite2 (fun _ => ?_) (fun _ => ?_)
      · exact ⟨_, rfl, ⟨_, rfl, .inl ⟨_, rfl, _, _, rfl, rfl, (by show (0 : Int) < 2305843009213693951; decide), _, _, rfl, rfl, .inr ⟨by decide, by decide⟩, _, rfl, _, _, rfl, rfl, .inl ⟨by decide, by decide⟩, _, _, rfl, rfl, _, _, rfl, rfl, (by show 3 ≤ sizeLine; decide), fun p np => rest c hc _ (.inl rfl) _ p (same_upd np) np upd_same⟩⟩⟩
      · exact ⟨_, rfl, .inl ⟨_, rfl, _, _, rfl, rfl, (by show (0 : Int) < 2305843009213693951; decide), _, _, rfl, rfl, .inr ⟨by decide, by decide⟩, _, rfl, _, _, rfl, rfl, .inl ⟨by decide, by decide⟩, _, _, rfl, rfl, _, _, rfl, rfl, (by show 3 ≤ sizeLine; decide), fun p np => rest c hc _ (.inr rfl) _ p (same_upd np) np upd_same⟩⟩
    refine ⟨_, rfl, _, rfl, a, _, rfl, .inl hS, _, _, rfl, rfl, _, rfl, ?_⟩
    refine ite2 (fun hlt => ?_) (fun hge => ?_)
    · have hlt' : i < ns.length := by
        have e := of_decide_eq_true hlt
        rw [List.length_map] at e
        omega
      refine ⟨_, rfl, _, rfl, a, _, _, .int ns[i], rfl, rfl, hS, atI_nat (by rw [List.getElem?_map, List.getElem?_eq_getElem hlt']; rfl), _, rfl, fin _ ?_⟩
      split <;> omega
    · exact fin 0 (Int.le_refl _)
theorem scTake : FnScope ["_law_bag_here", "_law_many", "_law_digit", "_law_mixed"] ["_law_bag_here", "_law_many"] (defScope sTake) := ⟨rfl, rfl, rfl, by decide +kernel, rfl, by decide +kernel, by decide +kernel⟩
theorem ok_take {f : Addr} {fd : FuncData} {k : Nat} (F : Fun K "_law_take" "_law_take" sTake f fd) (T : Nb mg) : FnOk P w K mg base CX0 (k + 1) f fd ["_law_bag_here", "_law_many"] spTake := by
  refine F.ok scTake (fun vs H Q E h => ?_) (fun cdv A outer s H vs Q E hr h => ?_)
  · obtain ⟨p, m, n, rfl, _⟩ := h
    rfl
  · obtain ⟨p, m, n, rfl, ⟨x, y, z, hp, hy0, hy1, hz0, hz1⟩, hn, hm, hm2, q⟩ := h
    refine ⟨_, pss_cons (ps_if (pt_cmpR op_gt (pe_ix ix_list (pv 0) pe_int (fun _ _ => rfl)) pe_int (nomark _))
        (pss_cons (ps_set (i := 2) scTake.nd rfl (.inl rfl) (pe_op op_mod (pe_callTy call_int1 (by rfl) T.int (by decide +kernel) (pa_cons (pe_ix ix_list (pv 0) pe_int (fun _ _ => rfl)) pa_nil)) (pv 1))) <|
         pss_cons (ps_asg (pe_op op_fdiv (pe_ix ix_list (pv 0) pe_int (fun _ _ => rfl)) (pv 1)) (pg_sub (pv 0) pe_int set_list)) <|
         pss_one (ps_ret (pv 2))) pss_nil) <|
      pss_cons (ps_asg (pe_op op_add (pe_ix ix_list (pv 0) pe_int (fun _ _ => rfl)) pe_int) (pg_sub (pv 0) pe_int set_list)) <|
      pss_cons (ps_set (i := 3) scTake.nd rfl (.inl rfl) (pe_op op_mod (pe_callTy call_int1 (by rfl) T.int (by decide +kernel) (pa_cons (pe_op op_pow (pe_op op_add (pe_ix ix_list (pv 0) pe_int (fun _ _ => rfl)) (pe_op op_mul pe_int (pe_ix ix_list (pv 0) pe_int (fun _ _ => rfl)))) pe_int) pa_nil)) pe_int)) <|
      pss_cons (ps_set (i := 3) scTake.nd rfl (.inl rfl) (pe_op op_mod (pe_callTy call_int1 (by rfl) T.int (by decide +kernel) (pa_cons (pe_op op_pow (pe_op op_add (pv 3) (pe_op op_mul pe_int (pe_ix ix_list (pv 0) pe_int (fun _ _ => rfl)))) pe_int) pa_nil)) pe_int)) <|
      pss_one (ps_ret (pe_op op_mod (pe_callTy call_int1 (by rfl) T.int (by decide +kernel) (pa_cons (pe_op op_fdiv (pv 3) pe_int) pa_nil)) (pv 1))), ?_⟩
    have i0 : atI [V.int x, V.int y, V.int z] 0 = some (.int x) := atI_nat (j := 0) rfl
    have i1 : atI [V.int x, V.int y, V.int (z + 1)] 1 = some (.int y) := atI_nat (j := 1) rfl
    have i2 : atI [V.int x, V.int y, V.int z] 2 = some (.int z) := atI_nat (j := 2) rfl
    have j2 : atI [V.int x, V.int y, V.int (z + 1)] 2 = some (.int (z + 1)) := atI_nat (j := 2) rfl
    refine ⟨_, rfl, p, _, 0, _, rfl, rfl, SqL.of hp, i0, _, _, rfl, rfl, _, rfl, ?_⟩
    refine ite2 (fun hx => ?_) (fun hx => ?_)
    · refine ⟨_, rfl, p, _, 0, _, rfl, rfl, SqL.of hp, i0, .inl ⟨_, rfl, _, rfl, _, _, rfl, rfl, hm, ?_⟩⟩
      refine ⟨_, rfl, p, _, 0, _, rfl, rfl, SqL.of hp, i0, _, rfl, _, _, rfl, rfl, ⟨hm, by omega⟩, ?_⟩
      refine ⟨_, rfl, p, _, 0, 0, rfl, rfl, hp, rfl, ?_⟩
      refine ⟨_, rfl, ?_⟩
      exact q _ y z _ hy0 hy1 hz0 (by omega) (Int.emod_nonneg _ (by omega)) (Int.emod_lt_of_pos _ hm)
    · refine ⟨_, rfl, p, _, 2, _, rfl, rfl, SqL.of hp, i2, _, _, rfl, rfl, ?_⟩
      refine ⟨_, rfl, p, _, 2, 2, rfl, rfl, hp, rfl, ?_⟩
      have hq : upd H p (.lst [.int x, .int y, .int (z + 1)]) p = some (.lst [.int x, .int y, .int (z + 1)]) := upd_same
      refine ⟨_, rfl, p, _, 1, _, rfl, rfl, SqL.of hq, i1, _, rfl, p, _, 2, _, rfl, rfl, SqL.of hq, j2, _, _, rfl, rfl, .inl ⟨by decide, by decide⟩, _, _, rfl, rfl, _, _, rfl, rfl, ⟨by decide, by decide, by omega⟩, .inl ⟨_, rfl, _, _, rfl, rfl, (by show (0 : Int) < 2305843009213693921; decide), ?_⟩⟩
      generalize hM : (y + 15485863 * (z + 1)) ^ ((3 : Int).toNat) % 2305843009213693921 = M
      have m0 : 0 ≤ M := hM ▸ Int.emod_nonneg _ (by decide)
      have m1 : M < 2305843009213693921 := hM ▸ Int.emod_lt_of_pos _ (by decide)
      refine ⟨_, rfl, _, rfl, p, _, 2, _, rfl, rfl, SqL.of hq, j2, _, _, rfl, rfl, .inl ⟨by decide, by decide⟩, _, _, rfl, rfl, _, _, rfl, rfl, ⟨by decide, by decide, by omega⟩, .inl ⟨_, rfl, _, _, rfl, rfl, (by show (0 : Int) < 2305843009213693951; decide), ?_⟩⟩
      refine ⟨_, rfl, _, _, rfl, rfl, ⟨by decide, by decide⟩, .inl ⟨_, rfl, _, rfl, _, _, rfl, rfl, hm, ?_⟩⟩
      exact q _ y (z + 1) _ hy0 hy1 (by omega) (by omega) (Int.emod_nonneg _ (by omega)) (Int.emod_lt_of_pos _ hm)
end
end TX
namespace TX
open PySem PySem.Spec PyProof.Rows L2
/-! ### values as data -/
def Lt (z : Str) : Prop := ∀ c ∈ z.cps.toList, 97 ≤ c ∧ c ≤ 122
mutual
def valD : PyData → Prop
  | .none => True
  | .str x => Lt x
  | .list xs => valAll xs
  | _ => False
def valAll : List PyData → Prop
  | [] => True
  | d :: ds => valD d ∧ valAll ds
end
mutual
def sz : PyData → Nat
  | .str x => x.length + 1
  | .list xs => szAll xs + 1
  | _ => 1
def szAll : List PyData → Nat
  | [] => 0
  | d :: ds => sz d + szAll ds
end
theorem szAll_append : ∀ (a b : List PyData), szAll (a ++ b) = szAll a + szAll b
  | [], b => by simp [szAll]
  | d :: a, b => by
    rw [List.cons_append, szAll, szAll, szAll_append a b]
    omega
theorem valAll_append : ∀ (a b : List PyData), valAll (a ++ b) ↔ valAll a ∧ valAll b
  | [], b => by simp [valAll]
  | d :: a, b => by
    rw [List.cons_append, valAll, valAll, valAll_append a b]
    exact ⟨fun ⟨x, y, z⟩ => ⟨⟨x, y⟩, z⟩, fun ⟨⟨x, y⟩, z⟩ => ⟨x, y, z⟩⟩
theorem depthAll_append : ∀ (a b : List PyData), PyData.depthAll (a ++ b) = max (PyData.depthAll a) (PyData.depthAll b)
  | [], b => by simp [PyData.depthAll]
  | d :: a, b => by
    rw [List.cons_append, PyData.depthAll, PyData.depthAll, depthAll_append a b]
    omega
theorem DpAll.get {K : PySem.W.Frag} {H : Hp} : ∀ {ds : List PyData} {vs : List V} {i : Nat} {v : V}, DpAll K H vs ds → vs[i]? = some v → ∃ d, ds[i]? = some d ∧ Dp K H v d
  | [], _, i, v, h, e => by
    cases h
    simp at e
  | d :: ds, _, 0, v, h, e => by
    cases h with
    | cons h1 h2 =>
      simp at e
      subst e
      exact ⟨d, rfl, h1⟩
  | d :: ds, _, i + 1, v, h, e => by
    cases h with
    | cons h1 h2 =>
      obtain ⟨d', e1, e2⟩ := DpAll.get (ds := ds) (i := i) h2 (by simpa using e)
      exact ⟨d', by simpa using e1, e2⟩
theorem val_get : ∀ {ds : List PyData} {i : Nat} {d : PyData}, valAll ds → ds[i]? = some d → valD d
  | [], i, d, h, e => by simp at e
  | x :: ds, 0, d, h, e => by
    simp at e
    subst e
    exact h.1
  | x :: ds, i + 1, d, h, e => val_get h.2 (by simpa using e)
theorem depth_get : ∀ {ds : List PyData} {i : Nat} {d : PyData}, ds[i]? = some d → d.depth ≤ PyData.depthAll ds
  | [], i, d, e => by simp at e
  | x :: ds, 0, d, e => by
    simp at e
    subst e
    simp only [PyData.depthAll]
    omega
  | x :: ds, i + 1, d, e => by
    have := depth_get (ds := ds) (i := i) (d := d) (by simpa using e)
    simp only [PyData.depthAll]
    omega
theorem sz_get : ∀ {ds : List PyData} {i : Nat} {d : PyData}, ds[i]? = some d → sz d ≤ szAll ds
  | [], i, d, e => by simp at e
  | x :: ds, 0, d, e => by
    simp at e
    subst e
    simp only [szAll]
    omega
  | x :: ds, i + 1, d, e => by
    have := sz_get (ds := ds) (i := i) (d := d) (by simpa using e)
    simp only [szAll]
    omega
theorem szAll_sum : ∀ ds : List PyData, ((ds.map fun d => ((sz d : Nat) : Int)).sum : Int) = ((szAll ds : Nat) : Int)
  | [] => rfl
  | d :: ds => by
    rw [List.map_cons, List.sum_cons, szAll_sum ds, szAll]
    omega
theorem szAll_len : ∀ ds : List PyData, ds.length ≤ szAll ds
  | [] => by simp
  | d :: ds => by
    have := szAll_len ds
    have h1 : 1 ≤ sz d := by cases d <;> simp [sz]
    rw [szAll, List.length_cons]
    omega
/-! ### isinstance against one built-in type -/
theorem kitL (d : PyData) (K : PySem.W.Frag) : PySem.W.kitOne K (.type (tyD d)) (.type "list") = some (tyD d == "list") := by
  cases d with
  | none => exact (kit_ty (a := "NoneType") (b := "list") (r := false) (by decide +kernel)).trans (by simp [tyD])
  | bool _ => exact (kit_ty (a := "bool") (b := "list") (r := false) (by decide +kernel)).trans (by simp [tyD])
  | int _ => exact (kit_ty (a := "int") (b := "list") (r := false) (by decide +kernel)).trans (by simp [tyD])
  | str _ => exact (kit_ty (a := "str") (b := "list") (r := false) (by decide +kernel)).trans (by simp [tyD])
  | list _ => exact (kit_ty (a := "list") (b := "list") (r := true) (by decide +kernel)).trans (by simp [tyD])
  | tuple _ => exact (kit_ty (a := "tuple") (b := "list") (r := false) (by decide +kernel)).trans (by simp [tyD])
  | dict _ => exact (kit_ty (a := "dict") (b := "list") (r := false) (by decide +kernel)).trans (by simp [tyD])
theorem kitS (d : PyData) (K : PySem.W.Frag) : PySem.W.kitOne K (.type (tyD d)) (.type "str") = some (tyD d == "str") := by
  cases d with
  | none => exact (kit_ty (a := "NoneType") (b := "str") (r := false) (by decide +kernel)).trans (by simp [tyD])
  | bool _ => exact (kit_ty (a := "bool") (b := "str") (r := false) (by decide +kernel)).trans (by simp [tyD])
  | int _ => exact (kit_ty (a := "int") (b := "str") (r := false) (by decide +kernel)).trans (by simp [tyD])
  | str _ => exact (kit_ty (a := "str") (b := "str") (r := true) (by decide +kernel)).trans (by simp [tyD])
  | list _ => exact (kit_ty (a := "list") (b := "str") (r := false) (by decide +kernel)).trans (by simp [tyD])
  | tuple _ => exact (kit_ty (a := "tuple") (b := "str") (r := false) (by decide +kernel)).trans (by simp [tyD])
  | dict _ => exact (kit_ty (a := "dict") (b := "str") (r := false) (by decide +kernel)).trans (by simp [tyD])
theorem lt_append {a b : Str} (h : Lt a) (g : Lt b) : Lt (a ++ b) := by
  intro c hc
  have e : (a ++ b).cps.toList = a.cps.toList ++ b.cps.toList := by
    show (a.cps ++ b.cps).toList = _
    simp
  rw [e] at hc
  rcases List.mem_append.mp hc with x | x
  · exact h c x
  · exact g c x
/-- what is no list: one, or one more than the letters -/
theorem val_leaf {K : PySem.W.Frag} {H : Hp} {v : V} {d : PyData} (h : Dp K H v d) (hv : valD d) (e : (tyD d == "list") = false) : (v = .non ∧ d = .none) ∨ ∃ x, v = .str x ∧ d = .str x := by
  cases h with
  | non => exact .inl ⟨rfl, rfl⟩
  | str x => exact .inr ⟨x, rfl, rfl⟩
  | bl _ => exact hv.elim
  | int _ => exact hv.elim
  | lst _ _ => simp [tyD] at e
  | tup _ _ => exact hv.elim
mutual
theorem nd_sz : ∀ d : PyData, valD d → nd d ≤ sz d
  | .none, _ => by simp [nd, sz]
  | .str _, _ => by simp [nd, sz]
  | .list es, h => by
    have := ndAll_sz es h
    simp only [nd, sz]
    omega
  | .bool _, h => h.elim
  | .int _, h => h.elim
  | .tuple _, h => h.elim
  | .dict _, h => h.elim
theorem ndAll_sz : ∀ ds : List PyData, valAll ds → ndAll ds ≤ szAll ds
  | [], _ => by simp [ndAll]
  | d :: ds, h => by
    have h1 := nd_sz d h.1
    have h2 := ndAll_sz ds h.2
    simp only [ndAll, szAll]
    omega
end
end TX
namespace TX
open PySem PySem.Spec PyProof.Rows L2
structure Nv (mg : Str → Option Value) : Prop where
  range : mg "range" = none
theorem BagAt.le {H : Hp} {p : Addr} {n m : Int} (h : BagAt H p n) (e : n ≤ m) : BagAt H p m := let ⟨x, y, z, a, b, c, d, f⟩ := h; ⟨x, y, z, a, b, c, d, Int.le_trans f e⟩
theorem BagAt.up {H H' : Hp} {p : Addr} {n : Int} (h : BagAt H p n) (e : Same H H') : BagAt H' p n := let ⟨x, y, z, a, b⟩ := h; ⟨x, y, z, e _ _ a, b⟩
theorem BagAt.ne {H : Hp} {p : Addr} {n : Int} (h : BagAt H p n) : H p ≠ none := by
  obtain ⟨x, y, z, a, _⟩ := h
  rw [a]
  exact fun z => nomatch z
theorem BagAt.nex {H : Hp} {p q : Addr} {n : Int} (h : BagAt H p n) (e : H q = none) : p ≠ q := fun z => h.ne (z ▸ e)
def spOf : Sp := fun vs H Q _ => ∃ (p l : Addr) (xs : List V) (n : Int), vs = [.ref p, .ref l] ∧ BagAt H p n ∧ n ≤ 1000000000 ∧ H l = some (.lst xs) ∧ l ≠ p ∧ 0 < xs.length ∧ xs.length ≤ 1000000 ∧
  ∀ (x y z : Int) (v : V), BagAt (upd H p (.lst [.int x, .int y, .int z])) p (n + 1) → v ∈ xs → Q v (upd H p (.lst [.int x, .int y, .int z]))
def spText : Sp := fun vs H Q _ => ∃ (p : Addr) (m n : Int), vs = [.ref p, .int m] ∧ BagAt H p n ∧ 0 ≤ m ∧ m ≤ 1000 ∧ n + m ≤ 1000000000 ∧
  ∀ (H' : Hp) (z : Str), (∀ b o, b ≠ p → H b = some o → H' b = some o) → BagAt H' p (n + m) → Lt z → (z.length : Int) = m → Q (.str z) H'
theorem glued_e : ∀ (ts : List Str) (acc : Array Nat), (ts.foldl (fun acc p => acc ++ ("" : Str).cps ++ p.cps) acc).toList = acc.toList ++ (ts.map fun t => t.cps.toList).flatten
  | [], acc => by simp
  | t :: ts, acc => by
    rw [List.foldl_cons, glued_e ts]
    have e : ("" : Str).cps.toList = [] := by decide +kernel
    simp only [Array.toList_append, e]
    simp
theorem join_e (ts : List Str) : (Txt.join "" ts).cps.toList = (ts.map fun t => t.cps.toList).flatten := by
  cases ts with
  | nil => decide +kernel
  | cons t ts =>
    show (ts.foldl (fun acc p => acc ++ ("" : Str).cps ++ p.cps) t.cps).toList = _
    rw [glued_e ts]
    rfl
theorem ones_lt {ts : List Str} (h : ∀ z ∈ ts, z.length = 1 ∧ Lt z) : Lt (Txt.join "" ts) := by
  intro c hc
  rw [join_e] at hc
  obtain ⟨l, hl, hm⟩ := List.mem_flatten.mp hc
  obtain ⟨z, hz, rfl⟩ := List.mem_map.mp hl
  exact (h z hz).2 c hm
theorem ones_len : ∀ {ts : List Str}, (∀ z ∈ ts, z.length = 1 ∧ Lt z) → ((ts.map fun t => t.cps.toList).flatten).length = ts.length ∧ (ts.map (·.length)).sum = ts.length
  | [], _ => by simp
  | t :: ts, h => by
    obtain ⟨a, b⟩ := ones_len fun z hz => h z (List.mem_cons_of_mem _ hz)
    have c := (h t List.mem_cons_self).1
    have c2 : t.cps.toList.length = 1 := by simpa [Str.length] using c
    simp only [List.map_cons, List.flatten_cons, List.length_append, List.sum_cons, List.length_cons]
    omega
theorem join_len1 {ts : List Str} (h : ∀ z ∈ ts, z.length = 1 ∧ Lt z) : (Txt.join "" ts).length = ts.length := by
  have e := (ones_len h).1
  rw [← join_e] at e
  simpa [Str.length] using e
section
variable {P : Program} {w : World} {K : PySem.W.Frag} {mg : Str → Option Value} {base : Heap} {fT : Addr} {dT : FuncData}
theorem scOf : FnScope ["_law_bag_here", "_law_some"] ["_law_bag_here", "_law_some"] (defScope s__law_of) := ⟨rfl, rfl, rfl, by decide +kernel, rfl, by decide +kernel, by decide +kernel⟩
theorem ok_of {f : Addr} {fd : FuncData} (F : Fun K "_law_of" "_law_of" s__law_of f fd) (B : Nb mg) (GT : FnOk P w K mg base CX0 1 fT dT ["_law_bag_here", "_law_many"] spTake) (gT : mg "_law_take" = some (.ref fT)) (kT : PySem.W.keepIn K (.ref fT) = true) (bT : Binds K dT ["_law_bag_here", "_law_many"] []) :
    FnOk P w K mg base CX0 2 f fd ["_law_bag_here", "_law_some"] spOf := by
  refine F.ok scOf (fun vs H Q E h => ?_) (fun cdv A outer s H vs Q E hr h => ?_)
  · obtain ⟨p, l, xs, n, rfl, _⟩ := h
    rfl
  · obtain ⟨p, l, xs, n, rfl, bag, hn, hl, lp, x0, x1, q⟩ := h
    refine ⟨_, pss_one (ps_ret (pe_ix ix_list (pv 1) (pe_call GT hr (by rfl) gT kT bT .nil pass0 (pa_cons (pv 0) (pa_cons (pe_callB call_len_seq (by rfl) B.len PySem.boot_len (pa_cons (pv 1) pa_nil)) pa_nil))) (fun _ _ => rfl))), ?_⟩
    refine ⟨_, rfl, _, rfl, _, rfl, l, xs, rfl, .inl (SqL.of hl), p, xs.length, n, rfl, bag, hn, by omega, by omega, fun x y z d h1 h2 h3 h4 h5 h6 => ?_⟩
    obtain ⟨j, rfl⟩ : ∃ j : Nat, d = j := ⟨d.toNat, by omega⟩
    have hj : j < xs.length := by omega
    exact ⟨l, xs, j, xs[j], rfl, rfl, SqL.of (by rw [upd_ne lp]; exact hl), atI_nat (List.getElem?_eq_getElem hj), q x y z _ ⟨x, y, z, upd_same, h1, h2, h3, h4⟩ (List.getElem_mem hj)⟩
theorem scText : FnScope ["_law_bag_here", "_law_many", "_law_k"] ["_law_bag_here", "_law_many"] (defScope sText) := ⟨rfl, rfl, rfl, by decide +kernel, rfl, by decide +kernel, by decide +kernel⟩
theorem abc_ok : (0 : Nat) < ("abcdefghijklmnopqrstuvwxyz" : Str).length ∧ ("abcdefghijklmnopqrstuvwxyz" : Str).length = 26 ∧ Lt "abcdefghijklmnopqrstuvwxyz" := ⟨by decide +kernel, by decide +kernel, by unfold Lt; decide +kernel⟩
theorem ok_text {f : Addr} {fd : FuncData} (F : Fun K "_law_text" "_law_text" sText f fd) (Y : Nv mg) (GT : FnOk P w K mg base CX0 1 fT dT ["_law_bag_here", "_law_many"] spTake) (gT : mg "_law_take" = some (.ref fT)) (kT : PySem.W.keepIn K (.ref fT) = true) (bT : Binds K dT ["_law_bag_here", "_law_many"] []) :
    FnOk P w K mg base CX0 2 f fd ["_law_bag_here", "_law_many"] spText := by
  refine F.ok scText (fun vs H Q E h => ?_) (fun cdv A outer s H vs Q E hr h => ?_)
  · obtain ⟨p, m, n, rfl, _⟩ := h
    rfl
  · obtain ⟨p, m, n, rfl, bag, hm0, hm1, hn, q⟩ := h
    refine ⟨_, pss_one (ps_ret (pe_join pe_str (pe_lc (own := [("_law_k", 2)]) (g := gName 2) (tt := tYes) (te := tOp rIxS (tC (.str "abcdefghijklmnopqrstuvwxyz")) (tCall spTake [] E0 (tCons (tVar 0) (tCons (tC (.int 26)) tNil)))) rfl scText.nd
        (pi_range1 (by rfl) Y.range (pa_cons (pv 1) pa_nil)) (blkOk_by (own := [("_law_k", 2)]) (N := ["_law_bag_here", "_law_many", "_law_k"]) (sc := defScope sText) (by decide +kernel))
        (fun _ _ _ _ _ => pg_name (i := 2) scText.nd rfl (Or.inl rfl)) (fun _ _ _ _ _ => pts_nil) (fun _ _ _ _ _ => pe_ix ix_str pe_str (pe_call GT hr (by rfl) gT kT bT .nil pass0 (pa_cons (pv 0) (pa_cons pe_int pa_nil))) (fun _ _ => rfl))))), ?_⟩
    generalize hA : ("abcdefghijklmnopqrstuvwxyz" : Str) = A0
    have hab : 0 < A0.length ∧ A0.length = 26 ∧ Lt A0 := hA ▸ abc_ok
    obtain ⟨k, rfl⟩ : ∃ k : Nat, m = k := ⟨m.toNat, by omega⟩
    refine ⟨⟨_, rfl⟩, _, rfl, (k : Int), rfl, by omega, by omega, fun D nD => lc_range (lo := 0) (n := (k : Int).toNat) (fun i H2 => ∃ zs : List Str, H2 D = some (.lst (zs.map V.str)) ∧ zs.length = i ∧ (∀ z ∈ zs, z.length = 1 ∧ Lt z) ∧ (∀ b o, b ≠ p → H b = some o → H2 b = some o) ∧ BagAt H2 p (n + i)) ?_ ?_ ?_⟩
    · exact ⟨[], upd_same, rfl, (fun z hz => nomatch hz), fun b o hb e => same_upd nD _ _ e, (bag.up (same_upd nD)).le (by omega)⟩
    · rintro i H2 hi ⟨zs, hD, zl, hz, kk, bb⟩
      have pD : D ≠ p := (bag.nex nD).symm
      refine ⟨rfl, _, rfl, p, 26, n + i, rfl, bb, by omega, by decide, by decide, fun x y z d h1 h2 h3 h4 h5 h6 => ?_⟩
      obtain ⟨j, rfl⟩ : ∃ j : Nat, d = j := ⟨d.toNat, by omega⟩
      have hl : A0.cps.toList.length = 26 := by
        have := hab.2.1
        simpa [Str.length] using this
      have hj : j < A0.cps.toList.length := by omega
      have lone : Lt ⟨#[A0.cps.toList[j]]⟩ := by
        intro c hc
        have e : c = A0.cps.toList[j] := by simpa using hc
        rw [e]
        exact hab.2.2 _ (List.getElem_mem hj)
      refine ⟨A0, _, _, rfl, rfl, by rw [hab.2.1]; decide, atI_nat (List.getElem?_eq_getElem hj), zs.map V.str, by rw [upd_ne pD]; exact hD, Nat.lt_of_le_of_lt (show (zs.map V.str).length ≤ 1000 by rw [List.length_map]; omega) (by decide), zs ++ [⟨#[A0.cps.toList[j]]⟩], ?_, by simp [zl], ?_, ?_, ?_⟩
      · rw [upd_same, List.map_append]
        rfl
      · intro z hz2
        rcases List.mem_append.mp hz2 with h | h
        · exact hz z h
        · rw [List.mem_singleton.mp h]
          exact ⟨rfl, lone⟩
      · intro b o hb e
        have e1 := kk b o hb e
        have bD : b ≠ D := ne_of_none e nD
        rw [upd_ne bD, upd_ne hb]
        exact e1
      · exact ⟨x, y, z, by rw [upd_ne pD.symm, upd_same], h1, h2, h3, by omega⟩
    · rintro H2 ⟨zs, hD, zl, hz, kk, bb⟩
      have e1 := (ones_len hz).2
      refine ⟨"", D, zs, rfl, rfl, .inl (SqL.of hD), ?_, q H2 _ kk (bb.le (by omega)) (ones_lt hz) (by rw [join_len1 hz]; omega)⟩
      rw [e1]
      have e2 : ("" : Str).length = 0 := by decide +kernel
      rw [e2]
      omega
end
end TX
namespace TX
open PySem PySem.Spec PyProof.Rows L2
def newB (H : Hp) (x : Addr) (H' : Hp) : Hp := fun b => if b = x then none else match H b with
  | none => H' b
  | some _ => none
theorem newB_newp {H H' : Hp} {x : Addr} : Same (newB H x H') (newp H H') := fun b o e => by
  unfold newB at e
  by_cases hb : b = x
  · rw [if_pos hb] at e
    cases e
  · rw [if_neg hb] at e
    exact e
theorem newB_at {H H' : Hp} {x b : Addr} (h : H b = none) (hx : b ≠ x) : newB H x H' b = H' b := by
  unfold newB
  rw [if_neg hx, h]
theorem eqT {n m : Int} {A B : Prop} (h : n = m) (a : A) : if decide (V.int n = V.int m) = true then A else B := by
  rw [h, decide_eq_true rfl]
  exact iteT a
theorem eqF {n m : Int} {A B : Prop} (h : n ≠ m) (b : B) : if decide (V.int n = V.int m) = true then A else B := by
  rw [decide_eq_false fun e => h (V.int.inj e)]
  exact iteF b
theorem ltT {n m : Int} {A B : Prop} (h : n < m) (a : A) : if decide (n < m) = true then A else B := by
  rw [decide_eq_true h]
  exact iteT a
theorem ltF {n m : Int} {A B : Prop} (h : ¬ n < m) (b : B) : if decide (n < m) = true then A else B := by
  rw [decide_eq_false h]
  exact iteF b
theorem growC {K : PySem.W.Frag} {H H2 H3 : Hp} {m : Addr} {C : Addr → Prop} {ws : List V} {ds : List PyData} {v : V} {d : PyData} (cH : ∀ b, C b → H b ≠ none) (nmH : H m = none) (t2 : ∀ b, H b ≠ none → H2 b ≠ none) (hm2 : H2 m = some (.lst ws))
    (hws : DpAll K (newB H m H2) ws ds) (k3 : ∀ b o, ¬ C b → H2 b = some o → H3 b = some o) (hv : Dp K (newp H2 H3) v d) :
    H3 m = some (.lst ws) ∧ DpAll K (newB H m (upd H3 m (.lst (ws ++ [v])))) (ws ++ [v]) (ds ++ [d]) := by
  have old : Same (newB H m H2) (newB H m (upd H3 m (.lst (ws ++ [v])))) := fun b o e => by
    by_cases bm : b = m
    · unfold newB at e
      rw [if_pos bm] at e
      cases e
    · cases hh : H b with
      | some u =>
        unfold newB at e
        rw [if_neg bm, hh] at e
        cases e
      | none =>
        rw [newB_at hh bm] at e ⊢
        rw [upd_ne bm]
        exact k3 b o (fun z => cH b z hh) e
  have new : Same (newp H2 H3) (newB H m (upd H3 m (.lst (ws ++ [v])))) := fun b o e => by
    cases h2 : H2 b with
    | some u =>
      rw [newp_old h2] at e
      cases e
    | none =>
      rw [newp_at h2] at e
      have hh : H b = none := Classical.byContradiction fun z => t2 b z h2
      have bm : b ≠ m := fun z => by
        rw [z, hm2] at h2
        cases h2
      rw [newB_at hh bm, upd_ne bm]
      exact e
  exact ⟨k3 m _ (fun z => cH m z nmH) hm2, DpAll.append (dpAll_same old _ _ hws) (.cons (dp_same new _ _ hv) .nil)⟩
def cv : Nat → Nat
  | 0 => 10
  | N + 1 => 10 + 3 * cv N
def sv : Nat → Nat
  | 0 => 60
  | N + 1 => 60 + 3 * sv N
theorem sv_up {a : Nat} : ∀ {b : Nat}, a ≤ b → sv a ≤ sv b
  | 0, h => by
    have e : a = 0 := by omega
    rw [e]
    exact Nat.le_refl _
  | b + 1, h => by
    by_cases e : a = b + 1
    · rw [e]
      exact Nat.le_refl _
    · have := sv_up (a := a) (b := b) (by omega)
      simp only [sv]
      omega
def spValue (K : PySem.W.Frag) (N : Nat) : Sp := fun vs H Q _ => ∃ (p r : Addr) (deep : Nat) (wt : Str) (n t : Int), vs = [.ref p, .int deep, .ref r, .str wt] ∧ BagAt H p n ∧ n + cv N ≤ 1000000000 ∧ deep ≤ N ∧ H r = some (.lst [.int t]) ∧ Lt wt ∧ wt.length ≤ 50 ∧
  ∀ (H' : Hp) (v : V) (d : PyData) (t2 : Int), (∀ b o, ¬ (b = p ∨ b = r) → H b = some o → H' b = some o) → BagAt H' p (n + cv N) → H' r = some (.lst [.int t2]) → Dp K (newp H H') v d → valD d → d.depth ≤ deep → sz d ≤ sv deep → Q v H'
section
variable {P : Program} {w : World} {K : PySem.W.Frag} {mg : Str → Option Value} {base : Heap}
theorem scValue : FnScope ["_law_bag_here", "_law_deep", "_law_room", "_law_wanted", "_law_sort", "_law_found", "_law_turn"] ["_law_bag_here", "_law_deep", "_law_room", "_law_wanted"] (defScope sValue) := ⟨rfl, rfl, rfl, by decide +kernel, rfl, by decide +kernel, by decide +kernel⟩
/-- what value calls -/
structure Vc (P : Program) (w : World) (K : PySem.W.Frag) (mg : Str → Option Value) (base : Heap) (fT fO fX : Addr) (dT dO dX : FuncData) : Prop where
  GT : FnOk P w K mg base CX0 1 fT dT ["_law_bag_here", "_law_many"] spTake
  bT : Binds K dT ["_law_bag_here", "_law_many"] []
  gT : mg "_law_take" = some (.ref fT)
  kT : PySem.W.keepIn K (.ref fT) = true
  GO : FnOk P w K mg base CX0 2 fO dO ["_law_bag_here", "_law_some"] spOf
  bO : Binds K dO ["_law_bag_here", "_law_some"] []
  gO : mg "_law_of" = some (.ref fO)
  kO : PySem.W.keepIn K (.ref fO) = true
  GX : FnOk P w K mg base CX0 2 fX dX ["_law_bag_here", "_law_many"] spText
  bX : Binds K dX ["_law_bag_here", "_law_many"] []
  gX : mg "_law_text" = some (.ref fX)
  kX : PySem.W.keepIn K (.ref fX) = true
theorem pe_ex {X : Cx} {i : Type} {e : Expr} {t : i → TE} (h : ∀ j, PE X e (t j)) : PE X e (fun σ H Q => ∃ j, t j σ H Q) := ⟨fun pins s σ H Q I ⟨j, q⟩ => (h j).run pins s σ H Q I q⟩
theorem ok_value {f fT fO fX : Addr} {fd dT dO dX : FuncData} (F : Fun K "_law_value" "_law_value" sValue f fd) (b : Binds K fd ["_law_bag_here", "_law_deep", "_law_room", "_law_wanted"] []) (g : mg "_law_value" = some (.ref f)) (Y : Nv mg) (C : Vc P w K mg base fT fO fX dT dO dX) (N : Nat)
    (G : ∀ j : { M : Nat // M + 1 = N }, FnOk P w K mg base CX0 (j.1 + 3) f fd ["_law_bag_here", "_law_deep", "_law_room", "_law_wanted"] (spValue K j.1)) : FnOk P w K mg base CX0 (N + 3) f fd ["_law_bag_here", "_law_deep", "_law_room", "_law_wanted"] (spValue K N) := by
  refine F.ok scValue (fun vs H Q E h => ?_) (fun cdv A outer s H vs Q E hr h => ?_)
  · obtain ⟨p, r, deep, wt, n, t, rfl, _⟩ := h
    rfl
  · obtain ⟨p, r, deep, wt, n, t, rfl, bag, hn, hdN, hrm, lwt, zwt, q⟩ := h
    have hrT : Room 1 _ := hr.mono (by omega)
    have hrX : Room 2 _ := hr.mono (by omega)
    have hrR : ∀ j : { M : Nat // M + 1 = N }, Room (j.1 + 3) _ := fun j => hr.mono (by have := j.2; omega)
    refine ⟨_, pss_cons (ps_set (i := 4) scValue.nd rfl (.inl rfl) (pe_call C.GT hrT (by rfl) C.gT C.kT C.bT .nil pass0 (pa_cons (pv 0) (pa_cons pe_int pa_nil)))) <|
      C8.pss_cut (ps_if (PW.pt (pw_and (pt_cmpR op_gt (pv 4) pe_int (nomark _)) (pw_and1 (pt_cmpR op_gt (pv 1) pe_int (nomark _)))))
        (pss_cons (ps_set (i := 5) scValue.nd rfl (.inl rfl) (pe_lst pa_nil)) <|
         pss_cons (ps_for PassesOwn.never rfl (pi_range1 (by rfl) Y.range (pa_cons (pe_call C.GT hrT (by rfl) C.gT C.kT C.bT .nil pass0 (pa_cons (pv 0) (pa_cons pe_int pa_nil))) pa_nil)) (pg_name (i := 6) scValue.nd rfl (.inl rfl))
          (pss_one (ps_if (pt_cmpR op_gt (pe_ix ix_list (pv 2) pe_int (fun _ _ => rfl)) pe_int (nomark _))
            (pss_cons (ps_asg (pe_op op_sub (pe_ix ix_list (pv 2) pe_int (fun _ _ => rfl)) pe_int) (pg_sub (pv 2) pe_int set_list)) <|
             pss_one (ps_expr (pe_bm PySem.F.plainAttrs_list PySem.F.slot_list_append PySem.F.type_list_append mt_append (pv 5) (pa_cons (pe_ex fun j => pe_call (G j) (hrR j) (by rfl) g F.kp b .nil pass0 (pa_cons (pv 0) (pa_cons (pe_op op_sub (pv 1) pe_int) (pa_cons (pv 2) (pa_cons (pv 3) pa_nil))))) pa_nil)))) pss_nil))) <|
         pss_one (ps_ret (pv 5))) pss_nil) <|
      pss_cons (ps_if (pt_cmpR op_eq (pv 4) pe_int (nomark _)) (pss_one (ps_ret pe_non)) pss_nil) <|
      pss_cons (ps_if (pt_cmpR op_eq (pv 4) pe_int (nomark _)) (pss_one (ps_ret (pe_op op_add_str (pv 3) (pe_call C.GX hrX (by rfl) C.gX C.kX C.bX .nil pass0 (pa_cons (pv 0) (pa_cons (pe_call C.GT hrT (by rfl) C.gT C.kT C.bT .nil pass0 (pa_cons (pv 0) (pa_cons pe_int pa_nil))) pa_nil)))))) pss_nil) <|
      pss_one (ps_ret (pe_call C.GX hrX (by rfl) C.gX C.kX C.bX .nil pass0 (pa_cons (pv 0) (pa_cons (pe_call C.GO hrX (by rfl) C.gO C.kO C.bO .nil pass0 (pa_cons (pv 0) (pa_cons (pe_lst (pa_cons pe_int (pa_cons pe_int (pa_cons pe_int (pa_cons pe_int (pa_cons pe_int (pa_cons pe_int pa_nil))))))) pa_nil))) pa_nil)))), ?_⟩
    have cvN : 10 ≤ cv N := by
      cases N with
      | zero => exact Nat.le_refl _
      | succ N => simp only [cv]; omega
    have svN : 60 ≤ sv deep := by
      have := sv_up (Nat.zero_le deep)
      simpa [sv] using this
    have pr : r ≠ p := fun e => by
      obtain ⟨x, y, z, e2, _⟩ := bag
      rw [← e, hrm] at e2
      cases e2
    have cH : ∀ b, (b = p ∨ b = r) → H b ≠ none := by
      rintro b (rfl | rfl)
      · exact bag.ne
      · rw [hrm]
        exact fun z => nomatch z
    refine ⟨_, rfl, p, 9, n, rfl, bag, by omega, by decide, by decide, fun x y z k h1 h2 h3 h4 h5 h6 => ?_⟩
    have k1 : ∀ b o, ¬ (b = p ∨ b = r) → H b = some o → upd H p (.lst [.int x, .int y, .int z]) b = some o := fun b o hb e => by
      rw [upd_ne fun e => hb (.inl e)]
      exact e
    have bag1 : BagAt (upd H p (.lst [.int x, .int y, .int z])) p (n + 1) := ⟨x, y, z, upd_same, h1, h2, h3, h4⟩
    have t1 : ∀ b, H b ≠ none → upd H p (.lst [.int x, .int y, .int z]) b ≠ none := fun b hb => by
      by_cases e : b = p
      · rw [e, upd_same]
        exact fun z => nomatch z
      · rw [upd_ne e]
        exact hb
    have r1 : upd H p (.lst [.int x, .int y, .int z]) r = some (.lst [.int t]) := by
      rw [upd_ne pr]
      exact hrm
    generalize upd H p (.lst [.int x, .int y, .int z]) = G1 at k1 bag1 t1 r1
    -- what is no list
    have leaf : ∀ Hx : Hp, (∀ b o, ¬ (b = p ∨ b = r) → H b = some o → Hx b = some o) → BagAt Hx p (n + cv N) → Hx r = some (.lst [.int t]) → ∀ zt : Str, Lt zt → zt.length ≤ 58 → Q (.str zt) Hx := fun Hx kx bx rx zt lz zz =>
      q Hx (.str zt) (.str zt) t kx bx rx (.str _) lz (by simp [PyData.depth]) (by simp only [sz]; omega)
    refine ⟨fun σ' G' => G' = G1 ∧ σ' = [some (.ref p), some (.int deep), some (.ref r), some (.str wt), some (.int k), none, none], ?_, ?_⟩
    · refine ⟨_, rfl, _, _, rfl, rfl, _, rfl, ?_⟩
      refine ite2 (fun hk => ?_) (fun hk => ?_)
      · refine ⟨_, rfl, _, _, rfl, rfl, _, rfl, ?_⟩
        refine ite2 (fun hd => ?_) (fun hd => ?_)
        · have hd' : (0 : Int) < (deep : Int) := of_decide_eq_true hd
          obtain ⟨e, rfl⟩ : ∃ e, deep = e + 1 := ⟨deep - 1, by omega⟩
          obtain ⟨M, rfl⟩ : ∃ M, N = M + 1 := ⟨N - 1, by omega⟩
          have cvE : cv (M + 1) = 10 + 3 * cv M := rfl
          have svE : sv (e + 1) = 60 + 3 * sv e := rfl
          refine ⟨Nat.zero_le _, fun L nL => ?_⟩
          have nLH : H L = none := Classical.byContradiction fun z => t1 L z nL
          have Lp : L ≠ p := (bag1.nex nL).symm
          have Lr : L ≠ r := fun z => by
            rw [z, r1] at nL
            cases nL
          have same1 : Same G1 (upd G1 L (.lst [])) := same_upd nL
          refine ⟨_, rfl, p, 4, n + 1, rfl, bag1.up same1, by omega, by decide, by decide, fun x2 y2 z2 m g1 g2 g3 g4 g5 g6 => ?_⟩
          have hL2 : upd (upd G1 L (.lst [])) p (.lst [.int x2, .int y2, .int z2]) L = some (.lst []) := by
            rw [upd_ne Lp, upd_same]
          have k2 : ∀ b o, ¬ (b = p ∨ b = r) → H b = some o → upd (upd G1 L (.lst [])) p (.lst [.int x2, .int y2, .int z2]) b = some o := fun b o hb e => by
            rw [upd_ne fun z => hb (.inl z)]
            exact same1 _ _ (k1 b o hb e)
          have r2 : upd (upd G1 L (.lst [])) p (.lst [.int x2, .int y2, .int z2]) r = some (.lst [.int t]) := by
            rw [upd_ne pr]
            exact same1 _ _ r1
          have b2 : BagAt (upd (upd G1 L (.lst [])) p (.lst [.int x2, .int y2, .int z2])) p (n + 1 + 1) := ⟨x2, y2, z2, upd_same, g1, g2, g3, g4⟩
          generalize upd (upd G1 L (.lst [])) p (.lst [.int x2, .int y2, .int z2]) = G2 at hL2 k2 r2 b2
          refine ⟨m, rfl, by omega, by omega, for_range (lo := 0) (n := m.toNat) (fun i σ H2 => ∃ (ws : List V) (ds : List PyData) (t2 : Int) (y6 : Option V), σ = [some (.ref p), some (.int ((e + 1 : Nat) : Int)), some (.ref r), some (.str wt), some (.int k), some (.ref L), y6] ∧
            H2 L = some (.lst ws) ∧ ws.length ≤ i ∧ DpAll K (newB H L H2) ws ds ∧ valAll ds ∧ PyData.depthAll ds ≤ e ∧ szAll ds ≤ i * sv e ∧ (∀ b o, ¬ (b = p ∨ b = r) → H b = some o → H2 b = some o) ∧ BagAt H2 p (n + 2 + ((i * cv M : Nat) : Int)) ∧ H2 r = some (.lst [.int t2])) ?_ ?_ ?_⟩
          · exact ⟨[], [], t, none, rfl, hL2, Nat.le_refl _, .nil, trivial, by simp [PyData.depthAll], by simp [szAll], k2, b2.le (by omega), r2⟩
          · rintro i σ H2 hi ⟨ws, ds, t2, y6, rfl, hL, wl, hws, hva, hde, hsz, kk, bb, hr2⟩
            refine ⟨_, rfl, r, _, 0, _, rfl, rfl, SqL.of hr2, atI_nat (j := 0) rfl, _, _, rfl, rfl, _, rfl, ?_⟩
            refine ite2 (fun hp => ?_) (fun hp => ?_)
            · refine ⟨_, rfl, r, _, 0, _, rfl, rfl, SqL.of hr2, atI_nat (j := 0) rfl, _, _, rfl, rfl, ?_⟩
              refine ⟨_, rfl, r, _, 0, 0, rfl, rfl, hr2, rfl, ?_⟩
              have sa : ∀ b, b ≠ r → upd H2 r (.lst [.int (t2 - 1)]) b = H2 b := fun b hb => upd_ne hb
              have ra : upd H2 r (.lst [.int (t2 - 1)]) r = some (.lst [.int (t2 - 1)]) := upd_same
              show ∃ _, _
              generalize hHa : upd H2 r (.lst [.int (t2 - 1)]) = Ha at sa ra
              have eHa : upd H2 r (.lst ([V.int t2].set 0 (.int (t2 - 1)))) = Ha := hHa
              rw [eHa]
              have ta : ∀ b, H b ≠ none → Ha b ≠ none := fun b hb => by
                by_cases eb : b = r
                · rw [eb, ra]
                  exact fun z => nomatch z
                · rw [sa b eb]
                  by_cases ep : b = p
                  · rw [ep]
                    exact bb.ne
                  · cases hh : H b with
                    | none => exact absurd hh hb
                    | some o =>
                      rw [kk b o (fun z => z.elim ep eb) hh]
                      exact fun z => nomatch z
              have La : Ha L = some (.lst ws) := by
                rw [sa L Lr]
                exact hL
              have bba : BagAt Ha p (n + 2 + ((i * cv M : Nat) : Int)) := by
                obtain ⟨x3, y3, z3, q1, q2⟩ := bb
                exact ⟨x3, y3, z3, by rw [sa p pr.symm]; exact q1, q2⟩
              have hwa : DpAll K (newB H L Ha) ws ds := dpAll_same (fun b o eb => by
                by_cases bL : b = L
                · unfold newB at eb
                  rw [if_pos bL] at eb
                  cases eb
                · cases hh : H b with
                  | some u =>
                    unfold newB at eb
                    rw [if_neg bL, hh] at eb
                    cases eb
                  | none =>
                    rw [newB_at hh bL] at eb ⊢
                    rw [sa b fun z => cH b (.inr z) hh]
                    exact eb) _ _ hws
              have hi3 : i * cv M + cv M ≤ 3 * cv M := by
                have : i + 1 ≤ 3 := by omega
                calc i * cv M + cv M = (i + 1) * cv M := by rw [Nat.add_mul, Nat.one_mul]
                  _ ≤ 3 * cv M := Nat.mul_le_mul_right _ this
              refine ⟨_, rfl, .inl ⟨rfl, _, SqL.of La⟩, ⟨M, rfl⟩, _, rfl, _, rfl, _, _, rfl, rfl, _, rfl, _, rfl, p, r, e, wt, n + 2 + ((i * cv M : Nat) : Int), t2 - 1, ?_, bba, ?_, Nat.le_of_succ_le_succ hdN, ra, lwt, zwt, fun H3 v d t4 k3 b3 r3 hv vd dd zd => ?_⟩
              · show [V.ref p, V.int (((e + 1 : Nat) : Int) - 1), V.ref r, V.str wt] = _
                rw [show ((e + 1 : Nat) : Int) - 1 = (e : Int) by omega]
              · show n + 2 + ((i * cv M : Nat) : Int) + ((cv M : Nat) : Int) ≤ 1000000000
                omega
              · obtain ⟨f1, f2⟩ := growC cH nLH ta La hwa k3 hv
                refine ⟨L, ws, v, rfl, rfl, f1, Nat.lt_of_le_of_lt (show ws.length ≤ 4 by omega) (by decide), ws ++ [v], ds ++ [d], t4, _, rfl, upd_same, by simp; omega, f2, (valAll_append _ _).mpr ⟨hva, vd, trivial⟩, ?_, ?_, ?_, ?_, ?_⟩
                · rw [depthAll_append]
                  simp only [PyData.depthAll]
                  omega
                · rw [szAll_append]
                  simp only [szAll]
                  rw [Nat.add_mul]
                  omega
                · intro b o hb eb
                  rw [upd_ne (ne_of_none eb nLH)]
                  refine k3 b o hb ?_
                  rw [sa b fun z => hb (.inr z)]
                  exact kk b o hb eb
                · obtain ⟨x3, y3, z3, q1, q2, q3, q4, q5⟩ := b3
                  exact ⟨x3, y3, z3, by rw [upd_ne Lp.symm]; exact q1, q2, q3, q4, Int.le_trans q5 (by show n + 2 + ((i * cv M : Nat) : Int) + ((cv M : Nat) : Int) ≤ n + 2 + (((i + 1) * cv M : Nat) : Int); rw [Nat.add_mul, Nat.one_mul]; omega)⟩
                · rw [upd_ne Lr.symm]
                  exact r3
            · exact ⟨ws, ds, t2, _, rfl, hL, by omega, hws, hva, hde, by rw [Nat.add_mul]; omega, kk, bb.le (by rw [Nat.add_mul, Nat.one_mul]; omega), hr2⟩
          · rintro σ H2 ⟨ws, ds, t2, y6, rfl, hL, wl, hws, hva, hde, hsz, kk, bb, hr2⟩
            have hm3 : m.toNat * sv e ≤ 3 * sv e := Nat.mul_le_mul_right _ (by omega)
            have hm4 : m.toNat * cv M ≤ 3 * cv M := Nat.mul_le_mul_right _ (by omega)
            refine ⟨_, rfl, q H2 _ (.list ds) t2 kk (bb.le ?_) hr2 (.lst (SqL.of ?_) (dpAll_same newB_newp _ _ hws)) hva ?_ ?_⟩
            · omega
            · rw [newp_at nLH]
              exact hL
            · simp only [PyData.depth]
              omega
            · simp only [sz]
              omega
        · exact ⟨rfl, rfl⟩
      · exact iteF ⟨rfl, rfl⟩
    · rintro σ' G' ⟨rfl, rfl⟩
      refine ⟨_, rfl, rfl, _, rfl, ?_⟩
      by_cases e0 : k = 0
      · exact eqT e0 (q _ .non .none t k1 (bag1.le (by omega)) r1 .non trivial (by simp [PyData.depth]) (by simp only [sz]; omega))
      refine eqF e0 ⟨_, rfl, rfl, _, rfl, ?_⟩
      have keepR : ∀ {Hx : Hp}, (∀ b o, b ≠ p → G' b = some o → Hx b = some o) → (∀ b o, ¬ (b = p ∨ b = r) → H b = some o → Hx b = some o) ∧ Hx r = some (.lst [.int t]) := fun {Hx} kx => ⟨fun b o hb e => kx b o (fun z => hb (.inl z)) (k1 b o hb e), kx r _ pr r1⟩
      by_cases e1 : k = 1
      · refine eqT e1 ⟨_, rfl, _, rfl, _, rfl, p, 2, n + 1, rfl, bag1, by omega, by decide, by decide, fun x2 y2 z2 c g1 g2 g3 g4 g5 g6 => ⟨p, c, n + 1 + 1, rfl, ⟨x2, y2, z2, upd_same, g1, g2, g3, g4⟩, g5, by omega, by omega, fun Hx zt kx bx lz ez => ?_⟩⟩
        obtain ⟨kk, rr⟩ := keepR fun b o hb e => kx b o hb (by rw [upd_ne hb]; exact e)
        exact ⟨wt, zt, rfl, rfl, Nat.le_trans (show wt.length + zt.length ≤ 100 by omega) (by decide), leaf Hx kk (bx.le (by omega)) rr _ (lt_append lwt lz) (by rw [strLen_append]; omega)⟩
      · refine eqF e1 ⟨_, rfl, _, rfl, (by show 6 ≤ sizeLine; decide), fun l nl => ⟨p, l, _, n + 1, rfl, bag1.up (same_upd nl), by omega, upd_same, (bag1.nex nl).symm, (by show 0 < 6; decide), (by show 6 ≤ 1000000; decide), fun x2 y2 z2 v b2 hv => ?_⟩⟩
        obtain ⟨m, rfl, m0, m1⟩ : ∃ m : Int, v = .int m ∧ 0 ≤ m ∧ m ≤ 5 := by
          simp only [List.mem_cons, List.not_mem_nil, or_false] at hv
          rcases hv with rfl | rfl | rfl | rfl | rfl | rfl <;> exact ⟨_, rfl, by decide, by decide⟩
        refine ⟨p, m, n + 1 + 1, rfl, b2, m0, by omega, by omega, fun Hx zt kx bx lz ez => ?_⟩
        obtain ⟨kk, rr⟩ := keepR fun b o hb e => kx b o hb (by rw [upd_ne hb]; exact same_upd nl _ _ e)
        exact leaf Hx kk (bx.le (by omega)) rr _ lz (by omega)
theorem ok_values {f fT fO fX : Addr} {fd dT dO dX : FuncData} (F : Fun K "_law_value" "_law_value" sValue f fd) (b : Binds K fd ["_law_bag_here", "_law_deep", "_law_room", "_law_wanted"] []) (g : mg "_law_value" = some (.ref f)) (Y : Nv mg) (C : Vc P w K mg base fT fO fX dT dO dX) :
    ∀ N : Nat, FnOk P w K mg base CX0 (N + 3) f fd ["_law_bag_here", "_law_deep", "_law_room", "_law_wanted"] (spValue K N)
  | 0 => ok_value F b g Y C 0 fun j => absurd j.2 (by omega)
  | N + 1 => ok_value F b g Y C (N + 1) fun ⟨M, e⟩ => by
    have e2 : M = N := by omega
    subst e2
    exact ok_values F b g Y C M
end
end TX
namespace TX
open PySem PySem.Spec PyProof.Rows L2
/-! ### what repr shows tells the data: for none, truth values, 0 and 1, texts of letters, lists and tuples -/
def cs (x : Str) : List Nat := x.cps.toList
theorem cs_app (a b : Str) : cs (a ++ b) = cs a ++ cs b := by
  show (a.cps ++ b.cps).toList = _
  simp [cs]
theorem cs_inj {a b : Str} (h : cs a = cs b) : a = b := by
  cases a
  cases b
  simp only [cs] at h
  have := Array.toList_inj.mp h
  rw [this]
def alC (c : Nat) : Bool := decide (97 ≤ c ∧ c ≤ 122) || (decide (65 ≤ c ∧ c ≤ 90) || decide (48 ≤ c ∧ c ≤ 57))
theorem al_lt {c : Nat} (h : alC c = true) : c < 123 ∧ c ≠ 39 ∧ c ≠ 34 := by
  simp only [alC, Bool.or_eq_true, decide_eq_true_eq] at h
  omega
theorem al_char {c : Nat} (h : alC c = true) : Builtin.Str.reprChar 39 c = [c] := by
  have k : ∀ c : Fin 123, alC c.1 = true → Builtin.Str.reprChar 39 c.1 = [c.1] := by decide +kernel
  exact k ⟨c, (al_lt h).1⟩ h
def alS (x : Str) : Prop := ∀ c ∈ cs x, alC c = true
theorem fold_al : ∀ (l : List Nat) (acc : Array Nat), (∀ c ∈ l, alC c = true) → l.foldl (fun out c => out ++ (Builtin.Str.reprChar 39 c).toArray) acc = acc ++ l.toArray
  | [], acc, _ => by simp
  | c :: l, acc, h => by
    rw [List.foldl_cons, al_char (h c List.mem_cons_self), fold_al l _ fun d hd => h d (List.mem_cons_of_mem _ hd)]
    simp
theorem quote_al {x : Str} (h : alS x) : reprQuote x = 39 := by
  unfold reprQuote
  have e : x.cps.contains 39 = false := by
    refine Bool.eq_false_iff.mpr fun z => ?_
    have z2 : 39 ∈ x.cps.toList := by simpa using z
    exact (al_lt (h 39 z2)).2.1 rfl
  rw [e]
  rfl
theorem cs_repr {x : Str} (h : alS x) : cs (reprText x) = 39 :: (cs x ++ [39]) := by
  unfold reprText cs
  rw [quote_al h, ← Array.foldl_toList, fold_al x.cps.toList _ h]
  simp
def tailC : List Str → List Nat
  | [] => []
  | t :: ts => 44 :: 32 :: (cs t ++ tailC ts)
def sepC : List Str → List Nat
  | [] => []
  | t :: ts => cs t ++ tailC ts
theorem cs_comma : cs (", " : Str) = [44, 32] := by decide +kernel
theorem text_tail : ∀ (ts : List Str) (k : Nat) (acc : Str), cs (textFrom (k + 1) acc ts) = cs acc ++ tailC ts
  | [], k, acc => by simp [textFrom, tailC]
  | t :: ts, k, acc => by
    show cs (textFrom (k + 1 + 1) (acc ++ (if k + 1 > 0 then ", " else "" : String) ++ t) ts) = _
    rw [text_tail ts (k + 1), cs_app, cs_app, if_pos (Nat.succ_pos k)]
    show cs acc ++ cs (", " : Str) ++ cs t ++ tailC ts = _
    rw [cs_comma]
    simp [tailC]
theorem text_sep (ts : List Str) (acc : Str) : cs (textFrom 0 acc ts) = cs acc ++ sepC ts := by
  cases ts with
  | nil => simp [textFrom, sepC]
  | cons t ts =>
    show cs (textFrom 1 (acc ++ (if 0 > 0 then ", " else "" : String) ++ t) ts) = _
    rw [text_tail ts 0, cs_app, cs_app, if_neg (by decide)]
    show cs acc ++ cs ("" : Str) ++ cs t ++ tailC ts = _
    rw [show cs ("" : Str) = [] by decide +kernel]
    simp [sepC]
theorem cs_list (ts : List Str) : cs (listText ts) = 91 :: (sepC ts ++ [93]) := by
  unfold listText
  rw [cs_app, text_sep]
  rw [show cs (("[" : String) : Str) = [91] by decide +kernel, show cs (("]" : String) : Str) = [93] by decide +kernel]
  simp
theorem join_sep : ∀ ts : List Str, cs (Str.join ", " ts) = sepC ts
  | [] => by
    show cs Str.empty = []
    decide +kernel
  | [t] => by
    show cs t = _
    simp [sepC, tailC]
  | t :: u :: ts => by
    show cs (t ++ ", " ++ Str.join ", " (u :: ts)) = _
    rw [cs_app, cs_app, join_sep (u :: ts), cs_comma]
    simp [sepC, tailC]
theorem cs_tuple (ts : List Str) : cs (tupleText ts) = 40 :: (sepC ts ++ (if ts.length = 1 then [44, 41] else [41])) := by
  unfold tupleText
  rw [cs_app, cs_app, join_sep, show cs ("(" : Str) = [40] by decide +kernel]
  by_cases h : ts.length = 1
  · have e : (ts.length == 1) = true := by simpa using h
    rw [if_pos h, e, if_pos rfl, show cs ((",)" : String) : Str) = [44, 41] by decide +kernel]
    simp
  · have e : (ts.length == 1) = false := by simpa using h
    rw [if_neg h, e, if_neg Bool.false_ne_true, show cs ((")" : String) : Str) = [41] by decide +kernel]
    simp
/-! what is shown of an int -/
def intC (i : Int) : List Nat := cs (toString i : String)
def numC (c : Nat) : Bool := decide (48 ≤ c ∧ c ≤ 57) || c == 45
theorem intC_nat (m : Nat) : intC ((m : Nat) : Int) = (Nat.toDigits 10 m).map Char.toNat := PySem.W.KIN.signs_num m
theorem intC_neg (m : Nat) : intC (Int.negSucc m) = 45 :: (Nat.toDigits 10 (m + 1)).map Char.toNat := by
  have e : (toString (Int.negSucc m) : String) = "-" ++ (Nat.repr (m + 1)) := rfl
  unfold intC cs
  rw [e, PyProof.Rows.signs_ofString, String.toList_append, List.map_append, Nat.toList_repr]
  rfl
theorem dig_num {m : Nat} : ∀ c ∈ (Nat.toDigits 10 m).map Char.toNat, 48 ≤ c ∧ c ≤ 57 := by
  intro c hc
  obtain ⟨ch, hch, e⟩ := List.mem_map.mp hc
  have r := PyProof.Rows.digit_range (Nat.isDigit_of_mem_toDigits (by decide) (by decide) hch)
  rw [← e]
  omega
theorem dig_ne (m : Nat) : (Nat.toDigits 10 m).map Char.toNat ≠ [] := by
  intro e
  have h := PySem.toDigits_len_ge 10 m
  rw [List.map_eq_nil_iff.mp e] at h
  exact absurd h (by decide)
theorem int_num (i : Int) : ∀ c ∈ intC i, numC c = true := by
  intro c hc
  cases i with
  | ofNat m =>
    rw [show Int.ofNat m = ((m : Nat) : Int) from rfl, intC_nat] at hc
    have := dig_num c hc
    simp only [numC, Bool.or_eq_true, decide_eq_true_eq]
    exact .inl this
  | negSucc m =>
    rw [intC_neg] at hc
    rcases List.mem_cons.mp hc with rfl | hc
    · rfl
    · have := dig_num c hc
      simp only [numC, Bool.or_eq_true, decide_eq_true_eq]
      exact .inl this
theorem int_ne (i : Int) : intC i ≠ [] := by
  cases i with
  | ofNat m =>
    rw [show Int.ofNat m = ((m : Nat) : Int) from rfl, intC_nat]
    exact dig_ne m
  | negSucc m =>
    rw [intC_neg]
    exact fun z => nomatch z
theorem dig_inj {m n : Nat} (h : (Nat.toDigits 10 m).map Char.toNat = (Nat.toDigits 10 n).map Char.toNat) : m = n := by
  have := congrArg PySem.NumText.digitsVal h
  rw [PySem.W.KIN.val_back, PySem.W.KIN.val_back] at this
  exact this
theorem int_inj {i j : Int} (h : intC i = intC j) : i = j := by
  have neg45 : ∀ {m n : Nat}, ¬ (Nat.toDigits 10 m).map Char.toNat = 45 :: (Nat.toDigits 10 n).map Char.toNat := by
    intro m n e
    have := dig_num (m := m) 45 (by rw [e]; exact List.mem_cons_self)
    omega
  cases i with
  | ofNat m =>
    cases j with
    | ofNat n =>
      rw [show Int.ofNat m = ((m : Nat) : Int) from rfl, show Int.ofNat n = ((n : Nat) : Int) from rfl, intC_nat, intC_nat] at h
      rw [dig_inj h]
    | negSucc n =>
      rw [show Int.ofNat m = ((m : Nat) : Int) from rfl, intC_nat, intC_neg] at h
      exact (neg45 h).elim
  | negSucc m =>
    cases j with
    | ofNat n =>
      rw [show Int.ofNat n = ((n : Nat) : Int) from rfl, intC_nat, intC_neg] at h
      exact (neg45 h.symm).elim
    | negSucc n =>
      rw [intC_neg, intC_neg] at h
      injection h with _ h
      have := dig_inj h
      rw [show m = n by omega]
mutual
def alD : PyData → Prop
  | .none => True
  | .bool _ => True
  | .int _ => True
  | .str x => alS x
  | .list es => alAll es
  | .tuple es => alAll es
  | .dict _ => False
def alAll : List PyData → Prop
  | [] => True
  | d :: ds => alD d ∧ alAll ds
end
/-- what may stand behind data in what is shown -/
def dl (r : List Nat) : Prop := r = [] ∨ ∃ c t, r = c :: t ∧ (c = 44 ∨ c = 93 ∨ c = 41)
/-- how a row of data ends -/
def cl (r : List Nat) : Prop := (∃ t, r = 93 :: t) ∨ (∃ t, r = 41 :: t) ∨ ∃ t, r = 44 :: 41 :: t
theorem dl_cl {r : List Nat} (h : cl r) : dl r := by
  rcases h with ⟨t, rfl⟩ | ⟨t, rfl⟩ | ⟨t, rfl⟩
  · exact .inr ⟨_, _, rfl, .inr (.inl rfl)⟩
  · exact .inr ⟨_, _, rfl, .inr (.inr rfl)⟩
  · exact .inr ⟨_, _, rfl, .inl rfl⟩
theorem dl_tail {ts : List Str} {r : List Nat} (h : cl r) : dl (tailC ts ++ r) := by
  cases ts with
  | nil => exact dl_cl h
  | cons t ts => exact .inr ⟨_, _, rfl, .inl rfl⟩
def tagD : PyData → Nat
  | .none => 78
  | .bool b => if b then 84 else 70
  | .int i => (intC i).headD 48
  | .str _ => 39
  | .list _ => 91
  | .tuple _ => 40
  | .dict _ => 123
theorem int_tag (i : Int) : numC (tagD (.int i)) = true := by
  simp only [tagD]
  cases e : intC i with
  | nil => exact (int_ne i e).elim
  | cons c t => exact int_num i c (by rw [e]; exact List.mem_cons_self)
theorem int_tag_no {i : Int} {c : Nat} (h : numC c = false) : ¬ tagD (.int i) = c := by
  intro e
  have := int_tag i
  rw [e, h] at this
  cases this
theorem shown_tag {d : PyData} (h : alD d) : ∃ t, cs d.shown = tagD d :: t := by
  cases d with
  | none => exact ⟨[111, 110, 101], by decide +kernel⟩
  | bool b =>
    cases b
    · exact ⟨[97, 108, 115, 101], by decide +kernel⟩
    · exact ⟨[114, 117, 101], by decide +kernel⟩
  | int i =>
    simp only [PyData.shown, tagD]
    show ∃ t, intC i = (intC i).headD 48 :: t
    cases e : intC i with
    | nil => exact (int_ne i e).elim
    | cons c t => exact ⟨t, rfl⟩
  | str x => exact ⟨_, by simp only [PyData.shown]; exact cs_repr h⟩
  | list es => exact ⟨_, by simp only [PyData.shown]; exact cs_list _⟩
  | tuple es => exact ⟨_, by simp only [PyData.shown]; exact cs_tuple _⟩
  | dict _ => exact h.elim
theorem tag_no (d : PyData) : tagD d ≠ 93 ∧ tagD d ≠ 41 ∧ tagD d ≠ 44 := by
  cases d with
  | bool b => cases b <;> decide
  | int i =>
    have h := int_tag i
    refine ⟨fun z => ?_, fun z => ?_, fun z => ?_⟩ <;> (rw [z] at h; exact absurd h (by decide))
  | _ => simp [tagD]
theorem span_uniq {p : Nat → Bool} : ∀ {xs ys r1 r2 : List Nat}, (∀ c ∈ xs, p c = true) → (∀ c ∈ ys, p c = true) → (∀ c t, r1 = c :: t → p c = false) → (∀ c t, r2 = c :: t → p c = false) → xs ++ r1 = ys ++ r2 → xs = ys ∧ r1 = r2
  | [], [], _, _, _, _, _, _, h => ⟨rfl, h⟩
  | [], y :: ys, r1, r2, _, hy, h1, _, h => by
    have h' : r1 = y :: (ys ++ r2) := h
    have a := h1 _ _ h'
    rw [hy y List.mem_cons_self] at a
    cases a
  | x :: xs, [], r1, r2, hx, _, _, h2, h => by
    have h' : r2 = x :: (xs ++ r1) := h.symm
    have a := h2 _ _ h'
    rw [hx x List.mem_cons_self] at a
    cases a
  | x :: xs, y :: ys, r1, r2, hx, hy, h1, h2, h => by
    injection h with e1 e2
    obtain ⟨e3, e4⟩ := span_uniq (fun c hc => hx c (List.mem_cons_of_mem _ hc)) (fun c hc => hy c (List.mem_cons_of_mem _ hc)) h1 h2 e2
    exact ⟨by rw [e1, e3], e4⟩
theorem tail_nil {t : Str} {ts : List Str} {r r2 : List Nat} (h : cl r) (e : r = tailC (t :: ts) ++ r2) : False := by
  have e2 : tailC (t :: ts) ++ r2 = 44 :: 32 :: (cs t ++ tailC ts ++ r2) := rfl
  rw [e2] at e
  rcases h with ⟨u, rfl⟩ | ⟨u, rfl⟩ | ⟨u, rfl⟩
  · cases e
  · cases e
  · cases e
theorem sep_nil {d : PyData} {ds : List PyData} {r r2 : List Nat} (hd : alD d) (h : cl r) (e : r = sepC (PyData.shownAll (d :: ds)) ++ r2) : False := by
  obtain ⟨t, et⟩ := shown_tag hd
  have n := tag_no d
  have e2 : sepC (PyData.shownAll (d :: ds)) ++ r2 = tagD d :: (t ++ tailC (PyData.shownAll ds) ++ r2) := by
    simp only [PyData.shownAll, sepC, et, List.cons_append]
  rw [e2] at e
  rcases h with ⟨u, rfl⟩ | ⟨u, rfl⟩ | ⟨u, rfl⟩
  · injection e with e3
    exact n.1 e3.symm
  · injection e with e3
    exact n.2.1 e3.symm
  · injection e with e3
    exact n.2.2 e3.symm
theorem len_all : ∀ ds : List PyData, (PyData.shownAll ds).length = ds.length
  | [] => rfl
  | d :: ds => by simp only [PyData.shownAll, List.length_cons, len_all ds]
mutual
theorem shown_pre : ∀ (a b : PyData) (r1 r2 : List Nat), alD a → alD b → dl r1 → dl r2 → cs a.shown ++ r1 = cs b.shown ++ r2 → a = b ∧ r1 = r2
  | a, b, r1, r2, ha, hb, h1, h2, h => by
    obtain ⟨ta, ea⟩ := shown_tag ha
    obtain ⟨tb, eb⟩ := shown_tag hb
    have et : tagD a = tagD b := by
      rw [ea, eb] at h
      injection h
    match a, b with
    | .none, .none => exact ⟨rfl, List.append_cancel_left h⟩
    | .bool x, .bool y =>
      have e : x = y := by
        cases x <;> cases y <;> first | rfl | exact absurd et (by simp [tagD])
      subst e
      exact ⟨rfl, List.append_cancel_left h⟩
    | .int x, .int y =>
      have h' : intC x ++ r1 = intC y ++ r2 := by simp only [PyData.shown] at h; exact h
      have nd : ∀ (r : List Nat), dl r → ∀ c t, r = c :: t → numC c = false := by
        intro r hr c t e
        rcases hr with z | ⟨c', t', e', hc⟩
        · rw [z] at e
          cases e
        · rw [e'] at e
          injection e with e1 _
          rw [← e1]
          rcases hc with rfl | rfl | rfl <;> decide
      obtain ⟨e1, e2⟩ := span_uniq (int_num x) (int_num y) (nd r1 h1) (nd r2 h2) h'
      exact ⟨by rw [int_inj e1], e2⟩
    | .str x, .str y =>
      simp only [PyData.shown] at h
      rw [cs_repr ha, cs_repr hb] at h
      injection h with _ h
      replace h : (cs x ++ [39]) ++ r1 = (cs y ++ [39]) ++ r2 := h
      rw [List.append_assoc, List.append_assoc] at h
      have n39 : alC 39 = false := by decide
      obtain ⟨e1, e2⟩ := span_uniq (p := alC) ha hb (fun c t e => by injection e with e _; rw [← e]; exact n39) (fun c t e => by injection e with e _; rw [← e]; exact n39) h
      injection e2 with _ e2
      exact ⟨by rw [cs_inj e1], e2⟩
    | .list xs, .list ys =>
      simp only [PyData.shown] at h
      rw [cs_list, cs_list] at h
      injection h with _ h
      replace h : (sepC (PyData.shownAll xs) ++ [93]) ++ r1 = (sepC (PyData.shownAll ys) ++ [93]) ++ r2 := h
      rw [List.append_assoc, List.append_assoc] at h
      obtain ⟨e1, e2⟩ := sep_pre xs ys ([93] ++ r1) ([93] ++ r2) ha hb (.inl ⟨_, rfl⟩) (.inl ⟨_, rfl⟩) h
      injection e2 with _ e2
      exact ⟨by rw [e1], e2⟩
    | .tuple xs, .tuple ys =>
      simp only [PyData.shown] at h
      rw [cs_tuple, cs_tuple] at h
      injection h with _ h
      replace h : (sepC (PyData.shownAll xs) ++ (if (PyData.shownAll xs).length = 1 then [44, 41] else [41])) ++ r1 = (sepC (PyData.shownAll ys) ++ (if (PyData.shownAll ys).length = 1 then [44, 41] else [41])) ++ r2 := h
      rw [List.append_assoc, List.append_assoc] at h
      have cc : ∀ (ts : List Str) (r : List Nat), cl ((if ts.length = 1 then [44, 41] else [41]) ++ r) := fun ts r => by
        by_cases hl : ts.length = 1
        · rw [if_pos hl]
          exact .inr (.inr ⟨_, rfl⟩)
        · rw [if_neg hl]
          exact .inr (.inl ⟨_, rfl⟩)
      obtain ⟨e1, e2⟩ := sep_pre xs ys _ _ ha hb (cc _ r1) (cc _ r2) h
      subst e1
      exact ⟨rfl, List.append_cancel_left e2⟩
    | .none, .bool y => cases y <;> exact absurd et (by simp [tagD])
    | .none, .int y => exact (int_tag_no (by decide : numC 78 = false) et.symm).elim
    | .none, .str _ => exact absurd et (by simp [tagD])
    | .none, .list _ => exact absurd et (by simp [tagD])
    | .none, .tuple _ => exact absurd et (by simp [tagD])
    | .bool x, .none => cases x <;> exact absurd et (by simp [tagD])
    | .bool x, .int y => cases x <;> exact (int_tag_no (by decide) et.symm).elim
    | .bool x, .str _ => cases x <;> exact absurd et (by simp [tagD])
    | .bool x, .list _ => cases x <;> exact absurd et (by simp [tagD])
    | .bool x, .tuple _ => cases x <;> exact absurd et (by simp [tagD])
    | .int x, .none => exact (int_tag_no (by decide : numC 78 = false) et).elim
    | .int x, .bool y => cases y <;> exact (int_tag_no (by decide) et).elim
    | .int x, .str _ => exact (int_tag_no (by decide : numC 39 = false) et).elim
    | .int x, .list _ => exact (int_tag_no (by decide : numC 91 = false) et).elim
    | .int x, .tuple _ => exact (int_tag_no (by decide : numC 40 = false) et).elim
    | .str _, .none => exact absurd et (by simp [tagD])
    | .str _, .bool y => cases y <;> exact absurd et (by simp [tagD])
    | .str _, .int y => exact (int_tag_no (by decide : numC 39 = false) et.symm).elim
    | .str _, .list _ => exact absurd et (by simp [tagD])
    | .str _, .tuple _ => exact absurd et (by simp [tagD])
    | .list _, .none => exact absurd et (by simp [tagD])
    | .list _, .bool y => cases y <;> exact absurd et (by simp [tagD])
    | .list _, .int y => exact (int_tag_no (by decide : numC 91 = false) et.symm).elim
    | .list _, .str _ => exact absurd et (by simp [tagD])
    | .list _, .tuple _ => exact absurd et (by simp [tagD])
    | .tuple _, .none => exact absurd et (by simp [tagD])
    | .tuple _, .bool y => cases y <;> exact absurd et (by simp [tagD])
    | .tuple _, .int y => exact (int_tag_no (by decide : numC 40 = false) et.symm).elim
    | .tuple _, .str _ => exact absurd et (by simp [tagD])
    | .tuple _, .list _ => exact absurd et (by simp [tagD])
    | .dict _, _ => exact ha.elim
    | _, .dict _ => exact hb.elim
theorem sep_pre : ∀ (as bs : List PyData) (r1 r2 : List Nat), alAll as → alAll bs → cl r1 → cl r2 → sepC (PyData.shownAll as) ++ r1 = sepC (PyData.shownAll bs) ++ r2 → as = bs ∧ r1 = r2
  | [], [], _, _, _, _, _, _, h => ⟨rfl, h⟩
  | [], b :: bs, r1, r2, _, hb, h1, _, h => (sep_nil hb.1 h1 h).elim
  | a :: as, [], r1, r2, ha, _, _, h2, h => (sep_nil ha.1 h2 h.symm).elim
  | a :: as, b :: bs, r1, r2, ha, hb, h1, h2, h => by
    simp only [PyData.shownAll, sepC] at h
    rw [List.append_assoc, List.append_assoc] at h
    obtain ⟨e1, e2⟩ := shown_pre a b _ _ ha.1 hb.1 (dl_tail h1) (dl_tail h2) h
    obtain ⟨e3, e4⟩ := tail_pre as bs r1 r2 ha.2 hb.2 h1 h2 e2
    exact ⟨by rw [e1, e3], e4⟩
theorem tail_pre : ∀ (as bs : List PyData) (r1 r2 : List Nat), alAll as → alAll bs → cl r1 → cl r2 → tailC (PyData.shownAll as) ++ r1 = tailC (PyData.shownAll bs) ++ r2 → as = bs ∧ r1 = r2
  | [], [], _, _, _, _, _, _, h => ⟨rfl, h⟩
  | [], b :: bs, r1, r2, _, hb, h1, _, h => (tail_nil h1 h).elim
  | a :: as, [], r1, r2, ha, _, _, h2, h => (tail_nil h2 h.symm).elim
  | a :: as, b :: bs, r1, r2, ha, hb, h1, h2, h => by
    simp only [PyData.shownAll, tailC] at h
    injection h with _ h
    injection h with _ h
    replace h : (cs a.shown ++ tailC (PyData.shownAll as)) ++ r1 = (cs b.shown ++ tailC (PyData.shownAll bs)) ++ r2 := h
    rw [List.append_assoc, List.append_assoc] at h
    obtain ⟨e1, e2⟩ := shown_pre a b _ _ ha.1 hb.1 (dl_tail h1) (dl_tail h2) h
    obtain ⟨e3, e4⟩ := tail_pre as bs r1 r2 ha.2 hb.2 h1 h2 e2
    exact ⟨by rw [e1, e3], e4⟩
end
theorem shown_inj {a b : PyData} (ha : alD a) (hb : alD b) (h : a.shown = b.shown) : a = b :=
  (shown_pre a b [] [] ha hb (.inl rfl) (.inl rfl) (by rw [h])).1
end TX
namespace TX
open PySem PySem.Spec PyProof.Rows L2
theorem rev_drop {c : List V} {j : Nat} {y : V} (h : c[j]? = some y) : (c.drop j).reverse = (c.drop (j + 1)).reverse ++ [y] := by
  obtain ⟨hj, e⟩ := List.getElem?_eq_some_iff.mp h
  rw [List.drop_eq_getElem_cons hj, e]
  simp
/-! ### shown: what repr gives, without repr of lists -/
theorem cs_len (x : Str) : (cs x).length = x.length := by
  simp [cs, Str.length]
theorem glued_tail : ∀ (ts : List Str) (acc : Array Nat), (ts.foldl (fun acc p => acc ++ (", " : Str).cps ++ p.cps) acc).toList = acc.toList ++ tailC ts
  | [], acc => by simp [tailC]
  | t :: ts, acc => by
    rw [List.foldl_cons, glued_tail ts]
    have e : (", " : Str).cps.toList = [44, 32] := cs_comma
    simp only [Array.toList_append, e, tailC, cs]
    simp
theorem cs_join (ts : List Str) : cs (Txt.join ", " ts) = sepC ts := by
  cases ts with
  | nil => decide +kernel
  | cons t ts =>
    show (ts.foldl (fun acc p => acc ++ (", " : Str).cps ++ p.cps) t.cps).toList = _
    rw [glued_tail]
    rfl
theorem shownAll_append : ∀ a b : List PyData, PyData.shownAll (a ++ b) = PyData.shownAll a ++ PyData.shownAll b
  | [], b => by simp [PyData.shownAll]
  | d :: a, b => by simp only [List.cons_append, PyData.shownAll, shownAll_append a b]
theorem list_shown (es : List PyData) : (Str.empty ++ "[" ++ Txt.join ", " (PyData.shownAll es) ++ "]" : Str) = (PyData.list es).shown := by
  apply cs_inj
  simp only [PyData.shown]
  rw [cs_app, cs_app, cs_app, cs_join, cs_list]
  rw [show cs (("[" : String) : Str) = [91] by decide +kernel, show cs (("]" : String) : Str) = [93] by decide +kernel, show cs Str.empty = [] from rfl]
  simp
def lenAll : List Str → Nat
  | [] => 0
  | t :: ts => t.length + 2 + lenAll ts
theorem tail_len : ∀ ts : List Str, (tailC ts).length = lenAll ts
  | [] => rfl
  | t :: ts => by
    simp only [tailC, lenAll, List.length_cons, List.length_append, cs_len, tail_len ts]
    omega
theorem sep_len : ∀ ts : List Str, (sepC ts).length ≤ lenAll ts
  | [] => Nat.le_refl _
  | t :: ts => by
    simp only [sepC, lenAll, List.length_append, cs_len, tail_len ts]
    omega
mutual
theorem shown_len : ∀ d : PyData, valD d → d.shown.length + 2 ≤ 6 * sz d
  | .none, _ => by decide +kernel
  | .str x, h => by
    have e : cs (reprText x) = 39 :: (cs x ++ [39]) := cs_repr (fun c hc => by
      have := h c hc
      simp only [alC, Bool.or_eq_true, decide_eq_true_eq]
      omega)
    have e2 : (cs (reprText x)).length = x.length + 2 := by
      rw [e]
      simp [cs_len]
    rw [cs_len] at e2
    simp only [PyData.shown, sz]
    omega
  | .list es, h => by
    have ih := showns_len es h
    have e : (cs (listText (PyData.shownAll es))).length ≤ lenAll (PyData.shownAll es) + 2 := by
      rw [cs_list]
      have := sep_len (PyData.shownAll es)
      simp
      omega
    rw [cs_len] at e
    simp only [PyData.shown, sz]
    omega
  | .bool _, h => h.elim
  | .int _, h => h.elim
  | .tuple _, h => h.elim
  | .dict _, h => h.elim
theorem showns_len : ∀ ds : List PyData, valAll ds → lenAll (PyData.shownAll ds) ≤ 6 * szAll ds
  | [], _ => Nat.le_refl _
  | d :: ds, h => by
    have a := shown_len d h.1
    have b := showns_len ds h.2
    simp only [PyData.shownAll, lenAll, szAll]
    omega
end
theorem join_len (ts : List Str) : (Txt.join ", " ts).length ≤ lenAll ts := by
  rw [← cs_len, cs_join]
  exact sep_len ts
theorem sum_len : ∀ ts : List Str, (ts.map (·.length)).sum + ts.length * 2 = lenAll ts
  | [] => rfl
  | t :: ts => by
    have := sum_len ts
    simp only [List.map_cons, List.sum_cons, List.length_cons, lenAll]
    omega
theorem path_val {K : PySem.W.Frag} {Hv : Hp} {S0 : List V × List PyData} (h0 : valAll S0.2) : ∀ {rs : List V} {S : List V × List PyData}, Path K Hv S0 rs S → valAll S.2 ∧ szAll S.2 ≤ szAll S0.2
  | _, _, .nil => ⟨h0, Nat.le_refl _⟩
  | _, _, .cons hP hs => by
    obtain ⟨a, b⟩ := path_val h0 hP
    cases hs with
    | leaf h e =>
      simp only [szAll] at b
      exact ⟨a.2, by dsimp only; omega⟩
    | lst h g =>
      simp only [szAll, sz] at b
      exact ⟨(valAll_append _ _).mpr ⟨a.1, a.2⟩, by dsimp only; rw [szAll_append]; omega⟩
    | tup h g => exact a.1.elim
section
variable {X : Cx}
def rReprL : List V → Hp → VK → Prop := fun xs H Q => (xs = [.non] ∧ Q (.str PyData.none.shown) H) ∨ ∃ x : Str, xs = [.str x] ∧ (reprText x).length ≤ sizeLine ∧ Q (.str (reprText x)) H
theorem call_reprL : CallR X (.builtin "repr") rReprL := by
  intro pins s σ H xs us Q I r h
  rcases h with ⟨rfl, q⟩ | ⟨x, rfl, hl, q⟩
  · obtain ⟨u, rfl, rv⟩ := r.one
    cases rv
    exact PySem.P.repr_of_none ⟨.str _, H, I.tok _, ⟨_, rfl⟩, q⟩
  · obtain ⟨u, rfl, t, rfl⟩ := vals1 r
    exact PySem.P.repr_of_str ⟨.str _, H, I.tok _, ⟨_, rfl⟩, q⟩ hl
end
def spShown (K : PySem.W.Frag) : Sp := fun vs H Q _ => ∃ (v : V) (d : PyData) (Hv : Hp), vs = [v] ∧ Same Hv H ∧ Dp K Hv v d ∧ valD d ∧ sz d ≤ 5000 ∧ ∀ H', Same H H' → Q (.str d.shown) H'
structure Nr (mg : Str → Option Value) : Prop where
  repr : mg "repr" = none
section
variable {P : Program} {w : World} {K : PySem.W.Frag} {mg : Str → Option Value} {base : Heap}
theorem scShown : FnScope ["value", "done", "part", "inner", "_"] ["value"] (defScope s_shown) := ⟨rfl, rfl, rfl, by decide +kernel, rfl, by decide +kernel, by decide +kernel⟩
theorem ok_shown {f fP : Addr} {fd fdP : FuncData} {k : Nat} (F : Fun K "shown" "shown" s_shown f fd) (T : Nm mg) (R : Nr mg) (GP : FnOk P w K mg base CX0 (k + 1) fP fdP ["thing"] (spParts K)) (kP : PySem.W.keepIn K (.ref fP) = true) (bP : Binds K fdP ["thing"] []) (gP : mg "all_parts" = some (.ref fP)) :
    FnOk P w K mg base CX0 (k + 2) f fd ["value"] (spShown K) := by
  refine F.ok scShown (fun vs H Q E h => ?_) (fun cdv A outer s H vs Q E hr h => ?_)
  · obtain ⟨v, d, Hv, rfl, _⟩ := h
    rfl
  · obtain ⟨v, d, Hv, rfl, sv, hd, vd, hz, q⟩ := h
    refine ⟨_, pss_cons (ps_set (i := 1) scShown.nd rfl (.inr rfl) (pe_lst pa_nil)) <|
      pss_cons (ps_for PassesOwn.never rfl (pi_list (pe_revL (pe_call GP hr (by rfl) gP kP bP .nil pass0 (pa_cons (pv 0) pa_nil)))) (pg_name (i := 2) scShown.nd rfl (.inl rfl)) (
        pss_one (ps_if (pt_val (pe_callB call_isi (by rfl) T.isi (by decide +kernel) (pa_cons (pv 2) (pa_cons (pe_bltn (v := .ty "list") (by rfl) T.lst (by decide +kernel) rfl) pa_nil))))
          (pss_cons (ps_set (i := 3) scShown.nd rfl (.inl rfl) (pe_join pe_str (pe_lc (own := [("_", 4)]) (g := gName 4) (tt := tYes) (te := tBM0 K "list" rPop (tVar 1)) rfl scShown.nd (pi_list (pv 2)) (blkOk_by (own := [("_", 4)]) (N := ["value", "done", "part", "inner", "_"]) (sc := defScope s_shown) (by decide +kernel))
              (fun _ _ _ _ _ => pg_name (i := 4) scShown.nd rfl (Or.inl rfl)) (fun _ _ _ _ _ => pts_nil) (fun _ _ _ _ _ => pe_bm0 PySem.F.plainAttrs_list PySem.F.slot_list_pop PySem.F.type_list_pop mt_pop (pv 1))))) <|
            pss_one (ps_expr (pe_bm PySem.F.plainAttrs_list PySem.F.slot_list_append PySem.F.type_list_append mt_append (pv 1) (pa_cons (pe_joined (PJ.cons pe_str (PJ.cons (pe_fmt (pv 3)) (PJ.cons pe_str PJ.nil)))) pa_nil))))
          (pss_one (ps_expr (pe_bm PySem.F.plainAttrs_list PySem.F.slot_list_append PySem.F.type_list_append mt_append (pv 1) (pa_cons (pe_callB call_reprL (by rfl) R.repr (by decide +kernel) (pa_cons (pv 2) pa_nil)) pa_nil))))))) <|
      pss_one (ps_ret (pe_ix ix_list (pv 1) pe_int (fun _ _ => rfl))), ?_⟩
    have hn := nd_sz d vd
    have fit : ∀ {n : Nat}, n ≤ 100000 → n ≤ sizeLine := fun h => Nat.le_trans h (by decide)
    have lt62 : ∀ {n : Nat}, n ≤ 10000 → n < sizeLine := fun h => Nat.lt_of_le_of_lt h (by decide)
    refine ⟨by decide, fun da nda => ?_⟩
    refine ⟨_, rfl, v, d, Hv, rfl, sv.trans (same_upd nda), hd, by omega, fun H1 p rs sm1 np hp hP hlen => ?_⟩
    have hda1 : H1 da = some (.lst []) := sm1 _ _ upd_same
    refine ⟨p, _, rfl, SqL.of hp, fun r nr => ?_⟩
    rw [List.reverse_reverse]
    have rda : da ≠ r := ne_of_none hda1 nr
    have s0 : Same H (upd H1 r (.lst rs)) := ((same_upd nda).trans sm1).trans (same_upd nr)
    have nda0 : H da = none := nda
    refine ⟨r, rfl, ⟨_, SqL.of upd_same⟩, for_list (K := K) (a := r) (xs := rs) (fun i σ H2 => ∃ (S : List V × List PyData) (y2 y3 : Option V), σ = [some v, some (.ref da), y2, y3, none] ∧ Same H H2 ∧ H2 r = some (.lst rs) ∧
      Path K Hv ([v], [d]) (rs.drop i) S ∧ H2 da = some (.lst ((PyData.shownAll S.2).map V.str).reverse)) ?_ ?_ ?_ ?_⟩
    · exact ⟨([], []), none, none, rfl, s0, upd_same, hP, by rw [upd_ne rda]; exact hda1⟩
    · rintro i σ H2 hi ⟨S, y2, y3, rfl, _, g, _⟩
      exact SqL.of g
    · rintro i x σ H2 hx ⟨S, y2, y3, rfl, sm, hrs, hPi, hda⟩
      have edrop : rs.drop i = x :: rs.drop (i + 1) := by
        obtain ⟨hj, e⟩ := List.getElem?_eq_some_iff.mp hx
        rw [List.drop_eq_getElem_cons hj, e]
      rw [edrop] at hPi
      cases hPi with
      | @cons _ S1 _ _ hP1 hst =>
      obtain ⟨v1, z1⟩ := path_val (S0 := ([v], [d])) ⟨vd, trivial⟩ hP1
      have z1' : szAll S1.2 ≤ sz d := by simpa [szAll] using z1
      clear z1
      have len2 : ∀ (ds : List PyData), ((PyData.shownAll ds).map V.str).reverse.length = ds.length := fun ds => by rw [List.length_reverse, List.length_map, len_all]
      cases hst with
      | @leaf v0 d0 r1 rd1 h e =>
        have vd0 : valD d0 := v1.1
        have lrd : rd1.length ≤ 5000 := by
          have := szAll_len rd1
          simp only [szAll] at z1'
          omega
        have zd0 : sz d0 ≤ 5000 := by
          simp only [szAll] at z1'
          omega
        have sl := shown_len d0 vd0
        refine ⟨_, rfl, x, .ty "list", .type (tyD d0), .type "list", _, rfl, .ty _, dp_ty (dp_same (sv.trans sm) _ _ h), kitL d0 K, _, rfl, ?_⟩
        rw [(Bool.or_eq_false_iff.mp e).1]
        refine iteF ?_
        refine ⟨_, rfl, .inl ⟨rfl, _, SqL.of hda⟩, _, rfl, ?_⟩
        have fin : ∀ (t : Str), t = d0.shown → ∃ l ys y, V.ref da = .ref l ∧ ([V.str t] : List V) = [y] ∧ H2 l = some (.lst ys) ∧ ys.length < sizeLine ∧ ∃ (S : List V × List PyData) (y2' y3' : Option V), ([some v, some (.ref da), some x, y3, none] : L2.St) = [some v, some (.ref da), y2', y3', none] ∧ Same H (upd H2 l (.lst (ys ++ [y]))) ∧ (upd H2 l (.lst (ys ++ [y]))) r = some (.lst rs) ∧
            Path K Hv ([v], [d]) (rs.drop (i + 1)) S ∧ (upd H2 l (.lst (ys ++ [y]))) da = some (.lst ((PyData.shownAll S.2).map V.str).reverse) := by
          rintro t rfl
          refine ⟨da, _, _, rfl, rfl, hda, lt62 (by rw [len2]; exact Nat.le_trans lrd (by decide)), _, _, _, rfl, same_fresh nda0 sm, by rw [upd_ne rda.symm]; exact hrs, hP1, ?_⟩
          rw [upd_same]
          simp [PyData.shownAll]
        rcases val_leaf h vd0 (Bool.or_eq_false_iff.mp e).1 with ⟨rfl, rfl⟩ | ⟨z, rfl, rfl⟩
        · exact .inl ⟨rfl, fin _ rfl⟩
        · refine .inr ⟨z, rfl, fit ?_, fin _ (by simp only [PyData.shown])⟩
          have e2 : (PyData.str z).shown = reprText z := by simp only [PyData.shown]
          rw [e2] at sl
          omega
      | @lst a xs r1 es rd1 g1 g2 =>
        have ve : valAll es := v1.1
        have sl := showns_len es ve
        have zz : szAll es ≤ 5000 ∧ szAll rd1 ≤ 5000 := by
          simp only [szAll, sz] at z1'
          omega
        have les := szAll_len es
        have lrd := szAll_len rd1
        have hxl : xs.length = (PyData.shownAll es).length := (DpAll.length g2).trans (len_all es).symm
        refine ⟨_, rfl, .ref a, .ty "list", .type "list", .type "list", _, rfl, .ty _, dp_ty (d := .list es) (.lst ((sv.trans sm).seq g1) (dpAll_same (sv.trans sm) _ _ g2)), kitL (.list es) K, _, rfl, iteT ?_⟩
        obtain ⟨c1, ec1⟩ : ∃ c1, c1 = (PyData.shownAll es).map V.str := ⟨_, rfl⟩
        obtain ⟨c2, ec2⟩ : ∃ c2, c2 = (PyData.shownAll rd1).map V.str := ⟨_, rfl⟩
        have hda' : H2 da = some (.lst (c1 ++ c2).reverse) := by
          rw [hda, ec1, ec2, shownAll_append, List.map_append]
        have lc1 : c1.length = xs.length := by rw [ec1, List.length_map, hxl]
        have lc2 : c2.length ≤ 5000 := by rw [ec2, List.length_map, len_all]; omega
        have lc1' : c1.length ≤ 5000 := by rw [ec1, List.length_map, len_all]; omega
        refine ⟨⟨_, rfl⟩, _, rfl, a, rfl, ⟨_, (sv.trans sm).seq g1⟩, fun D nD => lc_list (K := K) (a := a) (xs := xs) (fun j H4 => H4 da = some (.lst (c2.reverse ++ (c1.drop j).reverse)) ∧ H4 D = some (.lst (c1.take j)) ∧ ∀ b o, b ≠ da → b ≠ D → H2 b = some o → H4 b = some o) ?_ ?_ ?_ ?_⟩
        · have ne : da ≠ D := ne_of_none hda' nD
          refine ⟨?_, upd_same, fun b o _ hb e => by rw [upd_ne hb]; exact e⟩
          rw [upd_ne ne, hda']
          simp
        · rintro j H4 hj ⟨_, _, kp⟩
          have nDH : H D = none := sm.free nD
          exact Same.seq (fun b o e => kp b o (ne_of_none e nda0) (ne_of_none e nDH) (sm b o e)) (sv.seq g1)
        · rintro j y H4 hy ⟨k1, k2, kp⟩
          have ne : da ≠ D := ne_of_none hda' nD
          have hjl : j < c1.length := by
            have := (List.getElem?_eq_some_iff.mp hy).1
            omega
          have hcj : c1[j]? = some c1[j] := List.getElem?_eq_getElem hjl
          rw [rev_drop hcj, ← List.append_assoc] at k1
          refine ⟨rfl, .ref da, rfl, .inl ⟨rfl, _, SqL.of k1⟩, da, _, c1[j], rfl, rfl, k1, by simp, ?_⟩
          rw [List.dropLast_concat]
          refine ⟨c1.take j, by rw [upd_ne ne.symm]; exact k2, ?_, ?_, ?_, fun b o h1 h2 e => ?_⟩
          · refine lt62 ?_
            have := List.length_take_le j c1
            omega
          · rw [upd_ne ne, upd_same]
          · rw [upd_same, List.take_add_one, hcj]
            rfl
          · rw [upd_ne h2, upd_ne h1]
            exact kp b o h1 h2 e
        · rintro H4 ⟨k1, k2, kp⟩
          have ne : da ≠ D := ne_of_none hda' nD
          have nDH : H D = none := sm.free nD
          have sm4 : Same H H4 := fun b o e => kp b o (ne_of_none e nda0) (ne_of_none e nDH) (sm b o e)
          have rD : r ≠ D := ne_of_none hrs nD
          have hr4 : H4 r = some (.lst rs) := kp r _ rda.symm rD hrs
          rw [← lc1] at k1 k2
          rw [List.drop_length, List.reverse_nil, List.append_nil] at k1
          rw [List.take_length, ec1] at k2
          have sum := sum_len (PyData.shownAll es)
          have jl := join_len (PyData.shownAll es)
          have ls := shown_len (.list es) ve
          refine ⟨_, D, _, rfl, rfl, .inl (SqL.of k2), ?_, ?_⟩
          · have e : ((", " : Str)).length = 2 := rfl
            rw [e]
            omega
          have l1 : (Str.empty ++ "[" : Str).length = 1 := rfl
          have l2 : (Str.empty ++ "[" ++ Txt.join ", " (PyData.shownAll es) : Str).length = 1 + (Txt.join ", " (PyData.shownAll es)).length := by
            rw [size_cat, l1]
          have l3 : (Str.empty ++ "[" ++ Txt.join ", " (PyData.shownAll es) ++ "]" : Str).length = 1 + (Txt.join ", " (PyData.shownAll es)).length + 1 := by
            rw [size_cat, l2]
            rfl
          refine ⟨_, rfl, .inl ⟨rfl, _, SqL.of k1⟩, _, rfl, fit (by rw [l1]; decide), _, rfl, .inl ⟨_, rfl, fit (by omega), _, rfl, fit (by rw [l2]; omega), _, rfl, fit (by rw [l3]; omega), da, _, _, rfl, rfl, k1, lt62 (by rw [List.length_reverse]; omega), ?_⟩⟩
          refine ⟨_, _, _, rfl, same_fresh nda0 sm4, by rw [upd_ne rda.symm]; exact hr4, hP1, ?_⟩
          rw [upd_same, list_shown, ec2]
          simp [PyData.shownAll]
      | tup h g => exact v1.1.elim
    · rintro σ H2 ⟨S, y2, y3, rfl, sm, hrs, hPi, hda⟩
      rw [List.drop_length] at hPi
      cases hPi
      refine ⟨_, rfl, da, [.str d.shown], 0, .str d.shown, rfl, rfl, SqL.of ?_, atI_nat (j := 0) rfl, q H2 sm⟩
      rw [hda]
      simp [PyData.shownAll]
end
end TX
namespace TX
open PySem PySem.Spec PyProof.Rows L2
/-! ### repr of a dict whose keys are tuples of ints and texts -/
def kD : Key → PyData
  | .inl i => .int i
  | .inr x => .str x
theorem dp_key {K : PySem.W.Frag} {H : Hp} (k : Key) : Dp K H (kV k) (kD k) := by
  cases k with
  | inl i => exact .int i
  | inr x => exact .str x
theorem dp_keys {K : PySem.W.Frag} {H : Hp} : ∀ ks : List Key, DpAll K H (ks.map kV) (ks.map kD)
  | [] => .nil
  | k :: ks => .cons (dp_key k) (dp_keys ks)
/-- the data of a dict's rows -/
def rowsD (ks : List (List Key)) (ds : List PyData) : List (PyData × PyData) := List.zip (ks.map fun k => .tuple (k.map kD)) ds
section
variable {X : Cx}
def rReprDT (K : PySem.W.Frag) : List V → Hp → VK → Prop := fun xs H Q => ∃ (a : Addr) (kvs : List (List Key × V)) (ds : List PyData), xs = [.ref a] ∧ Rd H a (.dT kvs) ∧ DpAll K H (kvs.map (·.2)) ds ∧
  (PyData.dict (rowsD (kvs.map (·.1)) ds)).showable = true ∧ PyData.hasDictAll ds = false ∧ (PyData.dict (rowsD (kvs.map (·.1)) ds)).depth ≤ 60 ∧ (PyData.dict (rowsD (kvs.map (·.1)) ds)).shown.length ≤ sizeLine ∧
  Q (.str (PyData.dict (rowsD (kvs.map (·.1)) ds)).shown) H
theorem kd_noDict : ∀ ks : List Key, PyData.hasDictAll (ks.map kD) = false
  | [] => rfl
  | .inl i :: ks => by
    have := kd_noDict ks
    simpa [PyData.hasDictAll, PyData.hasDict, kD] using this
  | .inr x :: ks => by
    have := kd_noDict ks
    simpa [PyData.hasDictAll, PyData.hasDict, kD] using this
theorem keys_noDict : ∀ ks : List (List Key), PyData.hasDictAll (ks.map fun k => .tuple (k.map kD)) = false
  | [] => rfl
  | k :: ks => by
    have h1 := keys_noDict ks
    have h2 := kd_noDict k
    simp only [List.map_cons, PyData.hasDictAll, PyData.hasDict, h1, h2, Bool.or_false]
theorem rows_fst {ks : List (List Key)} {ds : List PyData} (h : ks.length = ds.length) : (rowsD ks ds).map (·.1) = ks.map fun k => .tuple (k.map kD) := by
  unfold rowsD
  rw [List.map_fst_zip]
  rw [List.length_map, h]
  exact Nat.le_refl _
theorem rows_snd {ks : List (List Key)} {ds : List PyData} (h : ks.length = ds.length) : (rowsD ks ds).map (·.2) = ds := by
  unfold rowsD
  rw [List.map_snd_zip]
  rw [List.length_map, h]
  exact Nat.le_refl _
theorem dT_reads {pins : List (Addr × Obj)} {σ : L2.St} {H : Hp} {s : Shared} (I : Inv X pins σ H s) {kvs : List (List Key × V)} {xs : List (List Key × Addr × Value)}
    (pr : Paired (fun (p : List Key × V) (q : List Key × Addr × Value) => p.1 = q.1 ∧ H q.2.1 = some (.tup (p.1.map kV)) ∧ RelV p.2 q.2.2) kvs xs) :
    DpAll X.K H (xs.map fun x => V.ref x.2.1) ((kvs.map (·.1)).map fun k => .tuple (k.map kD)) ∧ Vals (xs.map fun x => V.ref x.2.1) (xs.map fun x => Value.ref x.2.1) ∧ Vals (kvs.map (·.2)) (xs.map fun x => x.2.2) := by
  induction pr with
  | nil => exact ⟨.nil, .nil, .nil⟩
  | @cons p q ps qs hq t ih =>
    obtain ⟨i1, i2, i3⟩ := ih
    exact ⟨.cons (.tup (SqT.of hq.2.1) (dp_keys _)) i1, .cons rfl i2, .cons hq.2.2 i3⟩
theorem call_reprDT (hg : X.A.guards = some []) (hu : X.A.units + 64 < cLine) : CallR X (.builtin "repr") (rReprDT X.K) := by
  intro pins s σ H xs us Q I r h
  obtain ⟨a, kvs, ds, rfl, hd, hv, hs, hn, hz, hl, q⟩ := h
  obtain ⟨u, rfl, rv⟩ := r.one
  cases rv
  obtain ⟨_, hsy, es', pr, o, es, ep, h1, h2, h3, h4, h5⟩ := (show ObjOk X.prog X.w H s.heap a (.dT kvs) from hd.ok I.hok)
  obtain ⟨k1, k2, k3⟩ := dT_reads I pr
  have hlen : (kvs.map (·.1)).length = ds.length := by
    rw [List.length_map, ← DpAll.length hv, List.length_map]
  obtain ⟨as1, r1⟩ := Dp.readsAll I _ _ _ k1 k2
  obtain ⟨as2, r2⟩ := Dp.readsAll I _ _ _ hv k3
  have e1 : es.toList.map (·.key) = es'.map fun x => Value.ref x.2.1 := by
    rw [h4, List.map_map]
    rfl
  have e2 : es.toList.map (·.val) = es'.map fun x => x.2.2 := by
    rw [h4, List.map_map]
    rfl
  rw [← e1] at r1
  rw [← e2] at r2
  have rK := rows_fst hlen
  have rV := rows_snd hlen
  generalize rowsD (kvs.map (·.1)) ds = kd at *
  rw [← rK] at r1
  rw [← rV] at r2
  have n1 : PyData.hasDictAll (kd.map (·.1)) = false := by
    rw [rK]
    exact keys_noDict _
  have n2 : PyData.hasDictAll (kd.map (·.2)) = false := by
    rw [rV]
    exact hn
  have hz' : (dictText (PyData.shownKv kd)).length ≤ sizeLine := by simpa only [PyData.shown] using hl
  obtain ⟨hs1, hs2⟩ := PyData.showableKv_split kd (by simpa [PyData.showable] using hs)
  obtain ⟨b1, hb1, g1⟩ := ReprAllK.of_readsAll (prog := X.prog) (w := X.w) r1 hs1 (fun e => by rw [n1] at e; cases e) (fun t ht => let ⟨p, hp, hl⟩ := PyData.shownKv_key_le kd t ht; Nat.le_trans hl (Nat.le_trans (dictText_mem_le hp) hz'))
  obtain ⟨b2, hb2, g2⟩ := ReprAllK.of_readsAll (prog := X.prog) (w := X.w) r2 hs2 (fun e => by rw [n2] at e; cases e) (fun t ht => let ⟨p, hp, hl⟩ := PyData.shownKv_val_le kd t ht; Nat.le_trans hl (Nat.le_trans (dictText_mem_le hp) hz'))
  have hb : ReadAtMost s.heap (PyData.depthKv kd) (b1 ++ b2) := (hb1.mono (PyData.depthAll_keys_le kd)).append (hb2.mono (PyData.depthAll_vals_le kd))
  have rd : Reads s.heap (.ref a) (.dict kd) (a :: as1 ++ as2) := .dict h1 h2.1 h3 r1 r2
  have hna : a ∉ b1 ++ b2 := not_mem_of_deeper rd (by simp only [PyData.depth]; omega) hb
  have hdep : PyData.depthKv kd + 1 ≤ 60 := by simpa only [PyData.depth] using hz
  refine call_repr_slot (by omega) ⟨o, h1, h2.1⟩ F.slot_dict_repr ?_
  refine call_dict_reprK h1 h2.1 h3 hsy hna (ReprEntriesK.of_two es.toList _ _
      (g1.more_le (fun b hb => List.mem_append_left _ hb) (PyData.depthAll_keys_le kd)) (g2.more_le (fun b hb => List.mem_append_right _ hb) (PyData.depthAll_vals_le kd))) (A := X.A.in1) hg (fun b _ => Clear.nil b) (by show X.A.units + 1 + _ < cLine; omega) (fun _ _ e => e) (fun h' t tk hk => ?_) (by rw [← PyData.shownKv_eq]; exact hz')
  refine ⟨_, _, rfl, .str _, H, I.kept hk, ⟨t, rfl⟩, ?_⟩
  simp only [PyData.shown, PyData.shownKv_eq] at q
  exact q
end
end TX
namespace TX
open PySem PySem.Spec PyProof PyProof.Rows L2
/-- in order, equal ones as they stood -/
def sortB (bs : List (Addr × PyData)) : List (Addr × PyData) := bs.mergeSort (PySem.W.dataLe false fun b => b.2)
def rSortedD (K : PySem.W.Frag) : List V → Hp → VK → Prop := fun vs H Q => ∃ (a : Addr) (bs : List (Addr × PyData)), vs = [V.ref a] ∧ SqL K H a (bs.map fun b => V.ref b.1) ∧ (∀ b ∈ bs, Dp K H (.ref b.1) b.2) ∧
  PySem.W.AllAlike (bs.map (·.2)) ∧ PySem.W.Sortable (bs.map (·.2)) ∧ (∀ b ∈ bs, b.2.depth ≤ 40) ∧ ∀ p, H p = none → Q (.ref p) (upd H p (.lst ((sortB bs).map fun b => V.ref b.1)))
theorem each_vals {R : Value → (Addr × PyData) → Prop} : ∀ {bs : List (Addr × PyData)} {us : List Value}, Vals (bs.map fun b => V.ref b.1) us → (∀ b ∈ bs, R (.ref b.1) b) → PySem.W.EachIs R us bs
  | [], _, h, _ => by
    cases h
    exact .nil
  | b :: bs, _, h, g => by
    cases h with
    | cons h1 h2 =>
      cases h1
      exact .cons (g b List.mem_cons_self) (each_vals h2 fun x hx => g x (List.mem_cons_of_mem _ hx))
theorem vals_each : ∀ {bs : List (Addr × PyData)} {us : List Value}, PySem.W.EachIs (fun (u : Value) (b : Addr × PyData) => u = .ref b.1) us bs → Vals (bs.map fun b => V.ref b.1) us
  | [], _, h => by
    cases h
    exact .nil
  | b :: bs, _, h => by
    cases h with
    | cons h1 h2 => exact .cons h1 (vals_each h2)
theorem cr_sortedD {X : Cx} (hu : X.A.units + 64 < cLine) : CallR X (.builtin "sorted") (rSortedD X.K) := by
  intro pins s σ H vs us Q I r h
  obtain ⟨a, bs, rfl, hs, hb, al, so, hd, q⟩ := h
  obtain ⟨its, rv, hL, hz⟩ := I.list hs
  obtain ⟨u, rfl, ru⟩ := vals1 r
  obtain rfl : u = Value.ref a := ru
  have e1 : PySem.W.EachIs (fun (u : Value) (b : Addr × PyData) => u = .ref b.1) its bs := each_vals rv fun _ _ => rfl
  have e2 : PySem.W.EachIs (fun (v : Value) (b : Addr × PyData) => ∃ as, Reads s.heap v b.2 as) its bs := each_vals rv fun b hm => Dp.reads I _ _ _ (hb b hm) rfl
  rw [List.length_map] at hz
  refine PySem.W.sorted_data (enc := fun b : Addr × PyData => b.2) hL.isList e1 e2 al so hz (fun b hm => ?_) fun out ho eo => ?_
  · have := hd b hm
    omega
  · obtain ⟨e, g⟩ := sortedAll_at s.heap its out.toArray
    have rv2 : Vals ((sortB bs).map fun b => V.ref b.1) out := vals_each eo
    refine ⟨.ref (s.heap.objs.size + 1), _, I.laid (t' := s.toks) (a := s.heap.objs.size + 1) (o := .lst ((sortB bs).map fun b => V.ref b.1)) (fun b o z => sortedAll_old z) (by omega) ?_, rfl, q _ (I.hok.fresh (by omega))⟩
    refine ⟨?_, out, e, rv2, g⟩
    rw [rv2.length, ho]
    exact hz
end TX
namespace TX
open PySem PySem.Spec PyProof.Rows L2
/-- blanks ahead -/
def padL (n : Nat) (x : Str) : Str := ⟨(List.replicate (n - (cs x).length) 32 ++ cs x).toArray⟩
/-- blanks behind -/
def padR (n : Nat) (x : Str) : Str := ⟨(cs x ++ List.replicate (n - (cs x).length) 32).toArray⟩
theorem log_small {a : Int} (h0 : 0 ≤ a) (h1 : a < 10 ^ 10) : a.natAbs.log2 < 1920 := by
  have h : a.natAbs < 2 ^ 64 := by omega
  by_cases e : a.natAbs = 0
  · rw [e]
    decide
  · have := (Nat.log2_lt e).mpr h
    omega
theorem pad_int (m : Nat) : intField' { width := some 3, align := 62 } (decide ((m : Int) < 0)) [] ((Nat.toDigits 10 (m : Int).natAbs).map fun c => c.toNat) [] 3 = padL 3 (toString (m : Int) : String) := by
  have e1 : decide ((m : Int) < 0) = false := decide_eq_false (by omega)
  have e2 := intC_nat m
  unfold intC at e2
  unfold padL
  rw [e1, e2, Int.natAbs_natCast]
  generalize hd : (Nat.toDigits 10 m).map Char.toNat = ds
  have ne : ds ≠ [] := by
    rw [← hd]
    exact dig_ne m
  have e4 : ds.isEmpty = false := by
    cases ds with
    | nil => exact absurd rfl ne
    | cons _ _ => rfl
  simp only [intField', e4]
  simp
theorem pad_fit {m : Nat} (h : (m : Int) < 10 ^ 10) : (padL 3 (toString (m : Int) : String)).length ≤ sizeLine := by
  have d := PySem.W.KXf.digits_le (Int.natCast_nonneg m) h
  have e2 := intC_nat m
  unfold intC at e2
  unfold padL
  rw [e2]
  rw [Int.natAbs_natCast] at d
  refine Nat.le_trans (show _ ≤ 13 from ?_) (by decide)
  simp [Str.length]
  omega
theorem meets_int3 {P : Program} {w : World} {a : Int} {t : Tok} (h0 : 0 ≤ a) (h1 : a < 10 ^ 10) : ∀ u, PySem.Meets (Builtin.«int.__format__» ⟨[.int a t, .str ⟨#[62, 51]⟩ u], []⟩) (fun _ R s => ∀ t' k, R (.ok (.ret (.str (padL 3 (toString a : String)) t'))) { s with toks := k }) := by
  intro u
  apply PySem.W.KPc.meets_of
  intro prog w A s Q E hQ
  unfold Builtin.«int.__format__»
  refine wpAny_bind (wpAny_of_eq (a := (_, _)) rfl ?_)
  refine wpAny_bind (wpAny_of_eq (a := _) rfl ?_)
  kxf_if
  refine wpAny_bind (wpAny_typeNameOf (T := "str") (typeIs_str _ _ _) (by decide) fun _ => ?_)
  refine wpAny_bind (wpAny_of_eq (a := some _) rfl ?_)
  kxf_if
  kxf_if
  refine wpAny_bind (wpAny_typeNameOfCut_int ?_)
  repeat kxf_if
  refine wpAny_bind (wpAny_of_eq (PySem.overDigitLimit_small (log_small h0 h1)) ?_)
  repeat kxf_if
  obtain ⟨m, rfl⟩ := Int.eq_ofNat_of_zero_le h0
  have e0 := pad_int m
  have z0 : (padL 3 (toString (m : Int) : String)).length ≤ sizeLine := pad_fit h1
  generalize padL 3 (toString (m : Int) : String) = T at e0 z0 hQ
  subst e0
  exact PySem.W.KXf.ret_text rfl z0 hQ
end TX
namespace TX
open PySem PySem.Spec PyProof.Rows L2
theorem meets_w0 {t : Tok} : ∀ u, PySem.Meets (Builtin.«str.__format__» ⟨[.str ⟨#[115, 108, 105, 112]⟩ t, .str ⟨#[60, 56]⟩ u], []⟩) (fun _ R s => ∀ t' k, R (.ok (.ret (.str (padR 8 ⟨#[115, 108, 105, 112]⟩) t'))) { s with toks := k }) := by
  intro u
  apply PySem.W.KPc.meets_of
  intro prog w A s Q E hQ
  unfold Builtin.«str.__format__»
  refine wpAny_bind (wpAny_of_eq (a := (_, _, _)) rfl ?_)
  refine wpAny_bind (wpAny_of_eq (a := some _) rfl ?_)
  kxf_if
  kxf_if
  refine wpAny_bind (PySem.W.KXf.cut_str ?_)
  exact PySem.W.KXf.ret_text (by decide +kernel) (by decide +kernel) hQ
theorem meets_w1 {t : Tok} : ∀ u, PySem.Meets (Builtin.«str.__format__» ⟨[.str ⟨#[108, 101, 116, 116, 101, 114]⟩ t, .str ⟨#[60, 56]⟩ u], []⟩) (fun _ R s => ∀ t' k, R (.ok (.ret (.str (padR 8 ⟨#[108, 101, 116, 116, 101, 114]⟩) t'))) { s with toks := k }) := by
  intro u
  apply PySem.W.KPc.meets_of
  intro prog w A s Q E hQ
  unfold Builtin.«str.__format__»
  refine wpAny_bind (wpAny_of_eq (a := (_, _, _)) rfl ?_)
  refine wpAny_bind (wpAny_of_eq (a := some _) rfl ?_)
  kxf_if
  kxf_if
  refine wpAny_bind (PySem.W.KXf.cut_str ?_)
  exact PySem.W.KXf.ret_text (by decide +kernel) (by decide +kernel) hQ
theorem meets_w2 {t : Tok} : ∀ u, PySem.Meets (Builtin.«str.__format__» ⟨[.str ⟨#[102, 97, 105, 108]⟩ t, .str ⟨#[60, 56]⟩ u], []⟩) (fun _ R s => ∀ t' k, R (.ok (.ret (.str (padR 8 ⟨#[102, 97, 105, 108]⟩) t'))) { s with toks := k }) := by
  intro u
  apply PySem.W.KPc.meets_of
  intro prog w A s Q E hQ
  unfold Builtin.«str.__format__»
  refine wpAny_bind (wpAny_of_eq (a := (_, _, _)) rfl ?_)
  refine wpAny_bind (wpAny_of_eq (a := some _) rfl ?_)
  kxf_if
  kxf_if
  refine wpAny_bind (PySem.W.KXf.cut_str ?_)
  exact PySem.W.KXf.ret_text (by decide +kernel) (by decide +kernel) hQ
theorem meets_w3 {t : Tok} : ∀ u, PySem.Meets (Builtin.«str.__format__» ⟨[.str ⟨#[114, 101, 102, 117, 115, 101]⟩ t, .str ⟨#[60, 56]⟩ u], []⟩) (fun _ R s => ∀ t' k, R (.ok (.ret (.str (padR 8 ⟨#[114, 101, 102, 117, 115, 101]⟩) t'))) { s with toks := k }) := by
  intro u
  apply PySem.W.KPc.meets_of
  intro prog w A s Q E hQ
  unfold Builtin.«str.__format__»
  refine wpAny_bind (wpAny_of_eq (a := (_, _, _)) rfl ?_)
  refine wpAny_bind (wpAny_of_eq (a := some _) rfl ?_)
  kxf_if
  kxf_if
  refine wpAny_bind (PySem.W.KXf.cut_str ?_)
  exact PySem.W.KXf.ret_text (by decide +kernel) (by decide +kernel) hQ
theorem meets_w4 {t : Tok} : ∀ u, PySem.Meets (Builtin.«str.__format__» ⟨[.str ⟨#[101, 110, 100, 108, 101, 115, 115]⟩ t, .str ⟨#[60, 56]⟩ u], []⟩) (fun _ R s => ∀ t' k, R (.ok (.ret (.str (padR 8 ⟨#[101, 110, 100, 108, 101, 115, 115]⟩) t'))) { s with toks := k }) := by
  intro u
  apply PySem.W.KPc.meets_of
  intro prog w A s Q E hQ
  unfold Builtin.«str.__format__»
  refine wpAny_bind (wpAny_of_eq (a := (_, _, _)) rfl ?_)
  refine wpAny_bind (wpAny_of_eq (a := some _) rfl ?_)
  kxf_if
  kxf_if
  refine wpAny_bind (PySem.W.KXf.cut_str ?_)
  exact PySem.W.KXf.ret_text (by decide +kernel) (by decide +kernel) hQ
end TX
namespace TX
open PySem PySem.Spec PyProof.Rows L2
def kindsW : List Str := [⟨#[115, 108, 105, 112]⟩, ⟨#[108, 101, 116, 116, 101, 114]⟩, ⟨#[102, 97, 105, 108]⟩, ⟨#[114, 101, 102, 117, 115, 101]⟩, ⟨#[101, 110, 100, 108, 101, 115, 115]⟩]
section
variable {X : Cx}
def tFmt3 (te : TE) : TE := fun σ H Q => te σ H fun x H1 => ∃ i : Int, x = .int i ∧ 0 ≤ i ∧ i < 10 ^ 10 ∧ Q (.str (padL 3 (toString i : String))) H1
def tFmt8 (te : TE) : TE := fun σ H Q => te σ H fun x H1 => ∃ z : Str, x = .str z ∧ z ∈ kindsW ∧ Q (.str (padR 8 z)) H1
theorem pe_fmt3 {e : Expr} {te : TE} {sp : Str} {k : Nat} {p1 p2 pos : Pos} (he : PE X e te) (hs : sp = ⟨#[62, 51]⟩) : PE X (.FormattedValue e (-1) (some (.JoinedStr [.Constant (.str sp) k p1] p2)) pos) (tFmt3 te) := by
  subst hs
  refine ⟨fun pins s σ H Q I h => wpAny_FormattedValue_spec (thn (he.run pins s σ H _ I h) fun v s1 hv => ?_)⟩
  obtain ⟨x, H1, I1, r1, i, rfl, h0, h1, q⟩ := hv
  obtain ⟨t, rfl⟩ := r1
  refine thn ((pe_joined1 pe_str).run pins s1 σ H1 (fun x H2 => x = .str ⟨#[62, 51]⟩ ∧ H2 = H1) I1 ⟨rfl, rfl⟩) fun v2 s2 hv2 => ?_
  obtain ⟨x2, H2, I2, r2, rfl, rfl⟩ := hv2
  obtain ⟨t2, rfl⟩ := r2
  exact ⟨_, _, rfl, PySem.W.KXf.field_int rfl (by decide +kernel) (by decide +kernel) (meets_int3 (P := X.prog) (w := X.w) h0 h1) fun t1 k => ⟨.str _, H2, I2.tok _, ⟨t1, rfl⟩, q⟩⟩
theorem pe_fmt8 {e : Expr} {te : TE} {sp : Str} {k : Nat} {p1 p2 pos : Pos} (he : PE X e te) (hs : sp = ⟨#[60, 56]⟩) : PE X (.FormattedValue e (-1) (some (.JoinedStr [.Constant (.str sp) k p1] p2)) pos) (tFmt8 te) := by
  subst hs
  refine ⟨fun pins s σ H Q I h => wpAny_FormattedValue_spec (thn (he.run pins s σ H _ I h) fun v s1 hv => ?_)⟩
  obtain ⟨x, H1, I1, r1, z, rfl, hz, q⟩ := hv
  obtain ⟨t, rfl⟩ := r1
  refine thn ((pe_joined1 pe_str).run pins s1 σ H1 (fun x H2 => x = .str ⟨#[60, 56]⟩ ∧ H2 = H1) I1 ⟨rfl, rfl⟩) fun v2 s2 hv2 => ?_
  obtain ⟨x2, H2, I2, r2, rfl, rfl⟩ := hv2
  obtain ⟨t2, rfl⟩ := r2
  refine ⟨_, _, rfl, ?_⟩
  simp only [kindsW, List.mem_cons, List.not_mem_nil, or_false] at hz
  rcases hz with rfl | rfl | rfl | rfl | rfl
  · exact PySem.W.KXf.field_str rfl rfl (by decide +kernel) (by decide +kernel) meets_w0 fun t1 k => ⟨.str _, H2, I2.tok _, ⟨t1, rfl⟩, q⟩
  · exact PySem.W.KXf.field_str rfl rfl (by decide +kernel) (by decide +kernel) meets_w1 fun t1 k => ⟨.str _, H2, I2.tok _, ⟨t1, rfl⟩, q⟩
  · exact PySem.W.KXf.field_str rfl rfl (by decide +kernel) (by decide +kernel) meets_w2 fun t1 k => ⟨.str _, H2, I2.tok _, ⟨t1, rfl⟩, q⟩
  · exact PySem.W.KXf.field_str rfl rfl (by decide +kernel) (by decide +kernel) meets_w3 fun t1 k => ⟨.str _, H2, I2.tok _, ⟨t1, rfl⟩, q⟩
  · exact PySem.W.KXf.field_str rfl rfl (by decide +kernel) (by decide +kernel) meets_w4 fun t1 k => ⟨.str _, H2, I2.tok _, ⟨t1, rfl⟩, q⟩
end
end TX
namespace TX
open PySem PySem.Spec PyProof.Rows L2
/-! ### the rows of a survey as data -/
def kdat (k : List Key) : PyData := .tuple (k.map kD)
def KeyW (k : List Key) : Prop := ∃ (z : Str) (i : Int), k = [.inr z, .inl i] ∧ z ∈ kindsW ∧ 0 ≤ i ∧ i < 10000
def dsort (ds : List PyData) : List PyData := ds.mergeSort (PySem.W.dataLe false fun d => d)
theorem sortB_data (bs : List (Addr × PyData)) : (sortB bs).map (·.2) = dsort (bs.map (·.2)) := List.map_mergeSort fun _ _ _ _ => rfl
def dget (kvd : List (List Key × PyData)) (k : List Key) : PyData := ((kvd.find? fun p => decide (p.1 = k)).map (·.2)).getD .none
def rowS (kvd : List (List Key × PyData)) : PyData → Str
  | .tuple [.str z, .int i] => padL 3 (toString i : String) ++ " " ++ padR 8 z ++ " " ++ (dget kvd [.inr z, .inl i]).shown
  | _ => ""
def pageS (ks : List (List Key)) (ds : List PyData) : Str := Txt.join "\n" ((dsort (ks.map kdat)).map (rowS (ks.zip ds)))
theorem key_row {K : PySem.W.Frag} {H : Hp} {k : List Key} : ∀ {kvs : List (List Key × V)} {ds : List PyData}, DpAll K H (kvs.map (·.2)) ds → k ∈ kvs.map (·.1) →
    ∃ v, valV kvs k = some v ∧ Dp K H v (dget ((kvs.map (·.1)).zip ds) k) ∧ dget ((kvs.map (·.1)).zip ds) k ∈ ds
  | [], _, _, h => nomatch h
  | (k0, v0) :: kvs, _, h, hk => by
    cases h with
    | @cons _ _ d ds h1 h2 =>
      by_cases e : k0 = k
      · refine ⟨v0, valV_pos e, ?_, ?_⟩
        · simp only [List.map_cons, List.zip_cons_cons, dget, List.find?_cons, e, decide_true, Option.map_some, Option.getD_some]
          exact h1
        · simp only [List.map_cons, List.zip_cons_cons, dget, List.find?_cons, e, decide_true, Option.map_some, Option.getD_some]
          exact List.mem_cons_self
      · have hk2 : k ∈ kvs.map (·.1) := by
          rcases List.mem_cons.mp hk with q | q
          · exact absurd q.symm e
          · exact q
        obtain ⟨v, a1, a2, a3⟩ := key_row h2 hk2
        have e2 : decide (k0 = k) = false := decide_eq_false e
        refine ⟨v, (valV_neg e).trans a1, ?_, ?_⟩
        · simp only [List.map_cons, List.zip_cons_cons, dget, List.find?_cons, e2]
          exact a2
        · simp only [List.map_cons, List.zip_cons_cons, dget, List.find?_cons, e2]
          exact List.mem_cons_of_mem _ a3
theorem kind_data {z : Str} (h : z ∈ kindsW) : z.length ≤ 7 ∧ Lt z := by
  unfold kindsW at h
  simp only [List.mem_cons, List.not_mem_nil, or_false] at h
  rcases h with rfl | rfl | rfl | rfl | rfl <;> exact ⟨by decide, by unfold Lt; decide⟩
theorem alike_keys (ks : List (List Key)) (h : ∀ k ∈ ks, KeyW k) : PySem.W.AllAlike (ks.map kdat) ∧ PySem.W.Sortable (ks.map kdat) ∧ ∀ d ∈ ks.map kdat, d.depth ≤ 1 := by
  refine ⟨?_, .inl ?_, ?_⟩
  · intro d hd d' hd'
    obtain ⟨k, hk, rfl⟩ := List.mem_map.mp hd
    obtain ⟨k', hk', rfl⟩ := List.mem_map.mp hd'
    obtain ⟨z, i, rfl, _⟩ := h k hk
    obtain ⟨z', i', rfl, _⟩ := h k' hk'
    simp [kdat, kD, PySem.W.alike, PySem.W.alikeAll]
  · intro d hd
    obtain ⟨k, hk, rfl⟩ := List.mem_map.mp hd
    obtain ⟨z, i, rfl, _⟩ := h k hk
    exact ⟨_, _, rfl⟩
  · intro d hd
    obtain ⟨k, hk, rfl⟩ := List.mem_map.mp hd
    obtain ⟨z, i, rfl, _⟩ := h k hk
    simp [kdat, kD, PyData.depth, PyData.depthAll]
/-- the keys' places and their data, in order -/
def kpairs (bs : List Addr) (ks : List (List Key)) : List (Addr × PyData) := bs.zip (ks.map kdat)
theorem kpairs_is {H : Hp} : ∀ {kvs : List (List Key × V)} {bs : List Addr}, IsKeys H kvs bs → (kpairs bs (kvs.map (·.1))).map (·.1) = bs ∧ (kpairs bs (kvs.map (·.1))).map (·.2) = (kvs.map (·.1)).map kdat ∧
    ∀ b ∈ kpairs bs (kvs.map (·.1)), ∃ k ∈ kvs.map (·.1), b.2 = kdat k ∧ H b.1 = some (.tup (k.map kV))
  | _, _, .nil => ⟨rfl, rfl, fun b hb => nomatch hb⟩
  | (k, v) :: kvs, b :: bs, .cons h t => by
    obtain ⟨a1, a2, a3⟩ := kpairs_is t
    refine ⟨by simpa [kpairs] using a1, by simpa [kpairs] using a2, fun c hc => ?_⟩
    rcases List.mem_cons.mp (show c ∈ (b, kdat k) :: kpairs bs (kvs.map (·.1)) from hc) with e | e
    · subst e
      exact ⟨k, List.mem_cons_self, rfl, h⟩
    · obtain ⟨k2, b1, b2, b3⟩ := a3 c e
      exact ⟨k2, List.mem_cons_of_mem _ b1, b2, b3⟩
theorem kpairs_dp {K : PySem.W.Frag} {H : Hp} {kvs : List (List Key × V)} {bs : List Addr} (h : IsKeys H kvs bs) : ∀ b ∈ kpairs bs (kvs.map (·.1)), Dp K H (.ref b.1) b.2 := fun b hb => by
  obtain ⟨k, _, e, g⟩ := (kpairs_is h).2.2 b hb
  rw [e]
  exact .tup (SqT.of g) (dp_keys k)
end TX
namespace TX
open PySem PySem.Spec PyProof.Rows L2
structure Np (mg : Str → Option Value) : Prop where
  sorted : mg "sorted" = none
  list : mg "list" = none
def spPage (K : PySem.W.Frag) : Sp := fun vs H Q _ => ∃ (a : Addr) (kvs : List (List Key × V)) (ds : List PyData) (Hv : Hp), vs = [.ref a] ∧ H a = some (.dT kvs) ∧ (∀ k ∈ kvs.map (·.1), KeyW k) ∧ kvs.length ≤ 100 ∧ Same Hv H ∧ DpAll K Hv (kvs.map (·.2)) ds ∧ (∀ d ∈ ds, valD d ∧ sz d ≤ 800) ∧
  ∀ H', Same H H' → Q (.str (pageS (kvs.map (·.1)) ds)) H'
def teRow (K : PySem.W.Frag) : TE := fun σ H Q => tJs [tFmt3 (tVar 1), tC (.str " "), tFmt8 (tVar 2), tC (.str " "), tFmt (tCall (spShown K) [] E0 (tCons (tDGet (tVar 0) (tTup (tCons (tVar 2) (tCons (tVar 1) tNil)))) tNil))] Str.empty σ H fun out H1 => Q (.str out) H1
theorem row_len {kvd : List (List Key × PyData)} {z : Str} {i : Int} (hz : z ∈ kindsW) (h0 : 0 ≤ i) (h1 : i < 10000) (hv : valD (dget kvd [.inr z, .inl i]) ∧ sz (dget kvd [.inr z, .inl i]) ≤ 800) :
    (padL 3 (toString i : String)).length ≤ 13 ∧ (padR 8 z).length ≤ 15 ∧ (dget kvd [.inr z, .inl i]).shown.length ≤ 4800 := by
  refine ⟨?_, ?_, ?_⟩
  · obtain ⟨m, rfl⟩ := Int.eq_ofNat_of_zero_le h0
    have d := PySem.W.KXf.digits_le (a := (m : Int)) (Int.natCast_nonneg m) (by omega)
    rw [Int.natAbs_natCast] at d
    have e2 := intC_nat m
    unfold intC at e2
    unfold padL
    rw [e2]
    simp [Str.length]
    omega
  · have := (kind_data hz).1
    unfold padR
    simp [Str.length, cs] at this ⊢
    omega
  · have := shown_len _ hv.1
    omega
theorem sum_le_len {c : Nat} : ∀ {ts : List Str}, (∀ t ∈ ts, t.length ≤ c) → (ts.map (·.length)).sum ≤ c * ts.length
  | [], _ => by simp
  | t :: ts, h => by
    have a := h t List.mem_cons_self
    have b := sum_le_len (ts := ts) fun u hu => h u (List.mem_cons_of_mem _ hu)
    rw [List.map_cons, List.sum_cons, List.length_cons, Nat.mul_succ]
    omega
section
variable {P : Program} {w : World} {K : PySem.W.Frag} {mg : Str → Option Value} {base : Heap}
theorem scPage : FnScope ["found", "line", "kind"] ["found"] (defScope s_survey_page) := ⟨rfl, rfl, rfl, by decide +kernel, rfl, by decide +kernel, by decide +kernel⟩
theorem ok_page {f fS : Addr} {fd dS : FuncData} {k : Nat} (F : Fun K "survey_page" "survey_page" s_survey_page f fd) (N : Np mg) (GS : FnOk P w K mg base CX0 (k + 1) fS dS ["value"] (spShown K)) (gS : mg "shown" = some (.ref fS)) (kS : PySem.W.keepIn K (.ref fS) = true) (bS : Binds K dS ["value"] []) :
    FnOk P w K mg base CX0 (k + 2) f fd ["found"] (spPage K) := by
  refine F.ok scPage (fun vs H Q E h => ?_) (fun cdv A outer s H vs Q E hr h => ?_)
  · obtain ⟨a, kvs, ds, Hv, rfl, _⟩ := h
    rfl
  · obtain ⟨a, kvs, ds, Hv, rfl, ha, hk, hn, sv, hd, hv, q⟩ := h
    have hu := hr.units
    refine ⟨_, pss_one (ps_ret (pe_join pe_str (pe_lc (own := [("kind", 2), ("line", 1)]) (g := gTup K 2 (gCons (gName 2) (gCons (gName 1) gNil))) (tt := tYes) (te := teRow K) rfl scPage.nd
        (pi_list (pe_callB (cr_sortedD hu) (by rfl) N.sorted (by decide +kernel) (pa_cons (pe_callTy (call_list_dT rfl) (by rfl) N.list (by decide +kernel) (pa_cons (pv 0) pa_nil)) pa_nil)))
        (blkOk_by (own := [("kind", 2), ("line", 1)]) (N := ["found", "line", "kind"]) (sc := defScope s_survey_page) (by decide +kernel))
        (fun _ _ _ _ _ => pg_tup rfl (pgs_cons (pg_name (i := 2) scPage.nd rfl (Or.inl rfl)) (pgs_cons (pg_name (i := 1) scPage.nd rfl (Or.inl rfl)) pgs_nil))) (fun _ _ _ _ _ => pts_nil)
        (fun _ _ _ _ _ => pe_joined (PJ.cons (pe_fmt3 (pv 1) (by decide +kernel)) (PJ.cons pe_str (PJ.cons (pe_fmt8 (pv 2) (by decide +kernel)) (PJ.cons pe_str (PJ.cons (pe_fmt (pe_call GS hr (by rfl) gS kS bS .nil pass0 (pa_cons (pe_dget (Nat.lt_of_le_of_lt (Nat.add_le_add_left (by decide : 1 ≤ 64) _) hu) (pv 0) (pe_tup (pa_cons (pv 2) (pa_cons (pv 1) pa_nil))) (fun _ _ => rfl)) pa_nil))) PJ.nil))))))))), ?_⟩
    have hla : Rd H a (.dT kvs) := .inl ha
    refine ⟨⟨_, rfl⟩, _, rfl, a, kvs, rfl, hla, fun l1 bs n1 hK => ?_⟩
    obtain ⟨kp1, kp2, kp3⟩ := kpairs_is hK
    have s1 : Same H (upd H l1 (.lst (bs.map V.ref))) := same_upd n1
    obtain ⟨al, so, dp⟩ := alike_keys (kvs.map (·.1)) hk
    refine ⟨l1, kpairs bs (kvs.map (·.1)), rfl, SqL.of ?_, fun b hb => dp_same s1 _ _ (kpairs_dp hK b hb), ?_, ?_, ?_, fun l2 n2 => ?_⟩
    · have e : (kpairs bs (kvs.map (·.1))).map (fun b => V.ref b.1) = bs.map V.ref := by
        rw [← kp1, List.map_map]
        simp only [kp1]
        rfl
      rw [upd_same, e]
    · rw [kp2]
      exact al
    · rw [kp2]
      exact so
    · intro b hb
      obtain ⟨k0, hk0, e, _⟩ := kp3 b hb
      rw [e]
      exact Nat.le_trans (dp _ (List.mem_map_of_mem hk0)) (by decide)
    · have s2 : Same H (upd (upd H l1 (.lst (bs.map V.ref))) l2 (.lst ((sortB (kpairs bs (kvs.map (·.1)))).map fun b : Addr × PyData => V.ref b.1))) := s1.trans (same_upd n2)
      have hl2 : (upd (upd H l1 (.lst (bs.map V.ref))) l2 (.lst ((sortB (kpairs bs (kvs.map (·.1)))).map fun b : Addr × PyData => V.ref b.1))) l2 = some (.lst ((sortB (kpairs bs (kvs.map (·.1)))).map fun b : Addr × PyData => V.ref b.1)) := upd_same
      have eT : (sortB (kpairs bs (kvs.map (·.1)))).map (·.2) = dsort ((kvs.map (·.1)).map kdat) := by rw [sortB_data, kp2]
      have mB : ∀ b ∈ sortB (kpairs bs (kvs.map (·.1))), ∃ k ∈ kvs.map (·.1), b.2 = kdat k ∧ H b.1 = some (.tup (k.map kV)) := fun b hb => kp3 b (List.mem_mergeSort.mp hb)
      have lB : (sortB (kpairs bs (kvs.map (·.1)))).length = kvs.length := by
        have := congrArg List.length kp2
        unfold sortB
        rw [List.length_mergeSort]
        simpa using this
      generalize hP : pageS (kvs.map (·.1)) ds = PT at q
      unfold pageS at hP
      rw [← eT] at hP
      generalize sortB (kpairs bs (kvs.map (·.1))) = B at s2 hl2 eT mB lB hP
      generalize upd (upd H l1 (.lst (bs.map V.ref))) l2 (.lst (B.map fun b : Addr × PyData => V.ref b.1)) = H1 at s2 hl2
      generalize hT : (B.map (·.2)).map (rowS ((kvs.map (·.1)).zip ds)) = T at hP
      have rows : ∀ (j : Nat) (x : V), (B.map fun b : Addr × PyData => V.ref b.1)[j]? = some x → ∃ (b : Addr) (z : Str) (i : Int) (v : V), x = V.ref b ∧ H b = some (.tup [.str z, .int i]) ∧ z ∈ kindsW ∧ 0 ≤ i ∧ i < 10000 ∧ valV kvs [.inr z, .inl i] = some v ∧ Dp K Hv v (dget ((kvs.map (·.1)).zip ds) [.inr z, .inl i]) ∧
          (valD (dget ((kvs.map (·.1)).zip ds) [.inr z, .inl i]) ∧ sz (dget ((kvs.map (·.1)).zip ds) [.inr z, .inl i]) ≤ 800) ∧
          T[j]? = some (padL 3 (toString i : String) ++ " " ++ padR 8 z ++ " " ++ (dget ((kvs.map (·.1)).zip ds) [.inr z, .inl i]).shown) := by
        intro j x hx
        rw [List.getElem?_map] at hx
        obtain ⟨b, hb, rfl⟩ := Option.map_eq_some_iff.mp hx
        obtain ⟨k0, hk0, e1, e2⟩ := mB b (List.mem_of_getElem? hb)
        obtain ⟨z, i, rfl, hz, h0, h1⟩ := hk k0 hk0
        obtain ⟨v, a1, a2, a3⟩ := key_row hd hk0
        refine ⟨b.1, z, i, v, rfl, e2, hz, h0, h1, a1, a2, hv _ a3, ?_⟩
        rw [← hT, List.getElem?_map, List.getElem?_map, hb]
        show some (rowS _ b.2) = _
        rw [e1]
        rfl
      refine ⟨l2, rfl, ⟨_, SqL.of hl2⟩, fun D nD => lc_list (K := K) (a := l2) (xs := B.map fun b : Addr × PyData => V.ref b.1) (fun j H' => Same H1 H' ∧ H' D = some (.lst ((T.take j).map V.str))) ⟨same_upd nD, upd_same⟩ (fun j H' hj L => SqL.of (L.1 _ _ hl2)) ?_ ?_⟩
      · rintro j x H2 hx ⟨sm, hD⟩
        obtain ⟨b, z, i, v, rfl, hb, hz, h0, h1, hv1, hdv, hok, hTj⟩ := rows j x hx
        obtain ⟨w1, w2, w3⟩ := row_len (kvd := (kvs.map (·.1)).zip ds) hz h0 h1 hok
        generalize dget ((kvs.map (·.1)).zip ds) [.inr z, .inl i] = d at hdv hok hTj w3
        have fit : ∀ {n : Nat}, n ≤ 100000 → n ≤ sizeLine := fun h => Nat.le_trans h (by decide)
        have sH2 : Same H H2 := s2.trans sm
        have l0 : (Str.empty : Str).length = 0 := rfl
        have lb : (" " : Str).length = 1 := by decide +kernel
        have tj : j < T.length := (List.getElem?_eq_some_iff.mp hTj).1
        refine ⟨b, [.str z, .int i], rfl, SqT.of (sH2 _ _ hb), rfl, _, _, rfl, _, _, rfl, rfl, rfl, ?_⟩
        refine ⟨_, rfl, i, rfl, h0, by omega, _, rfl, fit (by rw [strLen_append]; omega), _, rfl, fit (by rw [strLen_append, strLen_append]; omega), _, rfl, z, rfl, hz, _, rfl, fit (by rw [strLen_append, strLen_append, strLen_append]; omega), _, rfl, fit (by rw [strLen_append, strLen_append, strLen_append, strLen_append]; omega), _, rfl, _, rfl, _, rfl, (by show 2 ≤ sizeLine; decide), fun t nt => ⟨a, v, rfl, ?_, ?_⟩⟩
        · rw [← hv1]
          exact DGet.t (k := [.inr z, .inl i]) (same_upd nt _ _ (sH2 _ _ ha)) upd_same
        · refine ⟨v, d, Hv, rfl, (sv.trans sH2).trans (same_upd nt), hdv, hok.1, by omega, fun H3 sm3 => .inl ⟨_, rfl, fit (by omega), _, rfl, fit (by rw [strLen_append, strLen_append, strLen_append, strLen_append, strLen_append]; omega), (T.take j).map V.str, ?_, ?_, ?_, ?_⟩⟩
          · exact sm3 _ _ (same_upd nt _ _ hD)
          · rw [List.length_map, List.length_take]
            exact Nat.lt_of_le_of_lt (show min j T.length ≤ 100 by rw [← hT, List.length_map, List.length_map, lB]; omega) (by decide)
          · exact same_fresh nD (sm.trans ((same_upd nt).trans sm3))
          · rw [upd_same, List.take_add_one, hTj, List.map_append, show Str.empty ++ padL 3 (toString i : String) = padL 3 (toString i : String) from PySem.W.KPc.empty_app _]
            rfl
      · rintro H2 ⟨sm, hD⟩
        have hTl : T.length = B.length := by rw [← hT, List.length_map, List.length_map]
        rw [List.length_map, ← hTl, List.take_length] at hD
        refine ⟨"\n", D, T, rfl, rfl, .inl (SqL.of hD), ?_, ?_⟩
        · have el : ("\n" : Str).length = 1 := by decide +kernel
          have le : ∀ t ∈ T, t.length ≤ 4900 := by
            intro t ht
            obtain ⟨j, hj, e⟩ := List.getElem_of_mem ht
            have hjB : j < (B.map fun b : Addr × PyData => V.ref b.1).length := by
              rw [List.length_map]
              omega
            obtain ⟨b, z, i, v, _, _, hz, h0, h1, _, _, hok, hTj⟩ := rows j _ (List.getElem?_eq_getElem hjB)
            obtain ⟨w1, w2, w3⟩ := row_len (kvd := (kvs.map (·.1)).zip ds) hz h0 h1 hok
            have lb : (" " : Str).length = 1 := by decide +kernel
            rw [List.getElem?_eq_getElem hj] at hTj
            rw [← e, Option.some.inj hTj, strLen_append, strLen_append, strLen_append, strLen_append]
            omega
          rw [el]
          have := sum_le_len le
          omega
        · rw [hP]
          exact q H2 (s2.trans sm)
end
end TX
namespace TX
open PySem PySem.Spec PyProof.Rows L2
/-! ### blanks -/
def blankS (n : Int) : Str := ⟨(List.replicate n.toNat 32).toArray⟩
theorem fold_blank : ∀ (k : Nat) (acc : Array Nat), ((List.replicate k #[32]).foldl (· ++ ·) acc).toList = acc.toList ++ List.replicate k 32
  | 0, acc => by simp
  | k + 1, acc => by
    rw [List.replicate_succ, List.foldl_cons, fold_blank k, Array.toList_append, List.replicate_succ]
    simp
theorem mul_blank (n : Int) : Txt.mul (" " : Str) n = blankS n := by
  have e : (" " : Str) = ⟨#[32]⟩ := by decide +kernel
  rw [e]
  apply cs_inj
  unfold Txt.mul blankS
  by_cases h : n < 1
  · rw [if_pos h]
    have : n.toNat = 0 := by omega
    rw [this]
    rfl
  · rw [if_neg h]
    by_cases h1 : n = 1
    · subst h1
      decide +kernel
    · have e2 : (n == 1 || (⟨#[32]⟩ : Str).length == 0) = false := by
        rw [Bool.or_eq_false_iff]
        exact ⟨by simpa using h1, by decide⟩
      rw [e2]
      show ((List.replicate n.toNat #[32]).foldl (· ++ ·) #[]).toList = _
      rw [fold_blank]
      simp [cs]
section
variable {X : Cx}
def rBlank : R2 := fun x y H Q => ∃ n : Int, x = .str " " ∧ y = .int n ∧ -1000 ≤ n ∧ n ≤ 1000 ∧ Q (.str (blankS n)) H
theorem op_blank : OpR X (binaryOp .Mult) rBlank := by
  intro pins s σ H x y v u Q I rx ry h
  obtain ⟨n, rfl, rfl, h0, h1, q⟩ := h
  obtain ⟨t, rfl⟩ := rx
  obtain ⟨t', rfl⟩ := ry
  have el : (" " : Str).length = 1 := by decide +kernel
  refine SB.mul ⟨?_, fun g1 _ => ?_, fun g1 _ => ?_⟩ fun t' k => ⟨.str _, H, I.tok k, ⟨t', by rw [mul_blank]⟩, q⟩
  · rw [decide_eq_false (by omega), decide_eq_false (by omega)]
    rfl
  · have e2 : (1 : Int) ≤ (2 ^ 63 - 1) / n := by
      refine Int.le_ediv_of_mul_le (by omega) ?_
      omega
    rw [el]
    omega
  · show decide ((" " : Str).length * n.toNat > sizeLine) = false
    rw [el]
    exact decide_eq_false (by have : (1000 : Nat) ≤ sizeLine := by decide
                              omega)
end
/-- a row of the law is a row of the page -/
theorem row_same {i : Int} {z : Str} {t : Str} (hz : z ∈ kindsW) : blankS (3 - ((toString i : String) : Str).length) ++ ((toString i : String) : Str) ++ " " ++ z ++ blankS (9 - z.length) ++ t = padL 3 (toString i : String) ++ " " ++ padR 8 z ++ " " ++ t := by
  generalize ((toString i : String) : Str) = m
  have l1 : (m.length : Int) = (cs m).length := by rw [cs_len]
  have l2 := (kind_data hz).1
  have l3 : (z.length : Int) = (cs z).length := by rw [cs_len]
  apply cs_inj
  have eb : cs (" " : Str) = [32] := by decide +kernel
  simp only [cs_app, eb]
  unfold blankS padL padR
  show List.replicate _ 32 ++ cs m ++ [32] ++ cs z ++ List.replicate _ 32 ++ cs t = (List.replicate _ 32 ++ cs m) ++ [32] ++ (cs z ++ List.replicate _ 32) ++ [32] ++ cs t
  have e1 : (3 - (m.length : Int)).toNat = 3 - (cs m).length := by omega
  have e2 : (9 - (z.length : Int)).toNat = (8 - (cs z).length) + 1 := by omega
  rw [e1, e2, List.replicate_succ']
  simp
mutual
theorem val_show : ∀ d : PyData, valD d → d.showable = true ∧ d.hasDict = false
  | .none, _ => ⟨rfl, rfl⟩
  | .str _, _ => ⟨rfl, rfl⟩
  | .list es, h => by
    have := vals_show es h
    simpa [PyData.showable, PyData.hasDict] using this
  | .bool _, h => h.elim
  | .int _, h => h.elim
  | .tuple _, h => h.elim
  | .dict _, h => h.elim
theorem vals_show : ∀ ds : List PyData, valAll ds → PyData.showableAll ds = true ∧ PyData.hasDictAll ds = false
  | [], _ => ⟨rfl, rfl⟩
  | d :: ds, h => by
    have a := val_show d h.1
    have b := vals_show ds h.2
    simp only [PyData.showableAll, PyData.hasDictAll, a.1, a.2, b.1, b.2]
    exact ⟨rfl, rfl⟩
end
end TX
namespace TX
open PySem PySem.Spec PyProof.Rows L2
theorem put_map {K : PySem.W.Frag} {H : Hp} {k : List Key} {v : V} {d : PyData} (hv : Dp K H v d) : ∀ {kvs : List (List Key × V)} {ds : List PyData}, DpAll K H (kvs.map (·.2)) ds →
    ∃ ds', DpAll K H ((kvs.map fun kv => if kv.1 = k then (kv.1, v) else kv).map (·.2)) ds' ∧ (∀ e ∈ ds', e ∈ ds ∨ e = d)
  | [], _, h => by
    cases h
    exact ⟨[], .nil, fun e he => nomatch he⟩
  | (k0, v0) :: kvs, _, h => by
    cases h with
    | @cons _ _ d0 ds h1 h2 =>
      obtain ⟨ds', a, b⟩ := put_map hv h2
      by_cases e : k0 = k
      · refine ⟨d :: ds', ?_, ?_⟩
        · rw [List.map_cons, List.map_cons, if_pos e]
          exact .cons hv a
        · intro x hx
          rcases List.mem_cons.mp hx with q | q
          · exact .inr q
          · exact (b x q).imp (List.mem_cons_of_mem _) id
      · refine ⟨d0 :: ds', ?_, ?_⟩
        · rw [List.map_cons, List.map_cons, if_neg e]
          exact .cons h1 a
        · intro x hx
          rcases List.mem_cons.mp hx with q | q
          · exact .inl (q ▸ List.mem_cons_self)
          · exact (b x q).imp (List.mem_cons_of_mem _) id
theorem put_rows {K : PySem.W.Frag} {H : Hp} {k : List Key} {v : V} {d : PyData} {kvs : List (List Key × V)} {ds : List PyData} (hv : Dp K H v d) (h : DpAll K H (kvs.map (·.2)) ds) :
    ∃ ds', DpAll K H ((putK kvs k v).map (·.2)) ds' ∧ (∀ e ∈ ds', e ∈ ds ∨ e = d) ∧ ∀ k' ∈ (putK kvs k v).map (·.1), k' ∈ kvs.map (·.1) ∨ k' = k := by
  unfold putK
  by_cases e : (kvs.any fun kv => decide (kv.1 = k)) = true
  · rw [if_pos e]
    obtain ⟨ds', a, b⟩ := put_map (k := k) hv h
    refine ⟨ds', a, b, fun k' hk' => .inl ?_⟩
    rw [List.map_map] at hk'
    obtain ⟨p, hp, e2⟩ := List.mem_map.mp hk'
    refine List.mem_map.mpr ⟨p, hp, ?_⟩
    rw [← e2]
    show p.1 = (if p.1 = k then (p.1, v) else p).1
    split <;> rfl
  · rw [if_neg e]
    refine ⟨ds ++ [d], ?_, fun x hx => ?_, fun k' hk' => ?_⟩
    · rw [List.map_append]
      exact DpAll.append h (.cons hv .nil)
    · rcases List.mem_append.mp hx with q | q
      · exact .inl q
      · exact .inr (List.mem_singleton.mp q)
    · rw [List.map_append] at hk'
      rcases List.mem_append.mp hk' with q | q
      · exact .inl q
      · exact .inr (List.mem_singleton.mp q)
theorem key_len {k : List Key} (h : KeyW k) : (kdat k).shown.length ≤ 40 ∧ (kdat k).showable = true ∧ (kdat k).depth = 1 := by
  obtain ⟨z, i, rfl, hz, h0, h1⟩ := h
  obtain ⟨l1, l2⟩ := kind_data hz
  refine ⟨?_, ?_, ?_⟩
  · show (PyData.tuple [.str z, .int i]).shown.length ≤ 40
    simp only [PyData.shown, PyData.shownAll]
    rw [← cs_len, cs_tuple]
    have e1 : cs (reprText z) = 39 :: (cs z ++ [39]) := cs_repr (fun c hc => by
      have := l2 c hc
      simp only [alC, Bool.or_eq_true, decide_eq_true_eq]
      omega)
    have e2 : (reprText z).length = z.length + 2 := by
      rw [← cs_len, e1]
      simp [cs_len]
    obtain ⟨m, rfl⟩ := Int.eq_ofNat_of_zero_le h0
    have d := PySem.W.KXf.digits_le (a := (m : Int)) (Int.natCast_nonneg m) (by omega)
    rw [Int.natAbs_natCast] at d
    have e3 := intC_nat m
    unfold intC at e3
    have e4 : ((toString (m : Int) : String) : Str).length ≤ 10 := by
      rw [← cs_len, e3, List.length_map]
      exact d
    have e5 := sep_len [reprText z, ((toString (m : Int) : String) : Str)]
    simp only [lenAll] at e5
    simp
    simp at e4 e5
    omega
  · have : i.natAbs.log2 < 1920 := log_small h0 (by omega)
    simpa [kdat, kD, PyData.showable, PyData.showableAll] using this
  · simp [kdat, kD, PyData.depth, PyData.depthAll]
theorem dict_ok : ∀ {ks : List (List Key)} {ds : List PyData}, ks.length = ds.length → (∀ k ∈ ks, KeyW k) → (∀ d ∈ ds, valD d ∧ sz d ≤ 800 ∧ d.depth ≤ 40) →
    PyData.showableKv (rowsD ks ds) = true ∧ PyData.hasDictAll ds = false ∧ PyData.depthKv (rowsD ks ds) ≤ 41 ∧ lenAll (PyData.shownKv (rowsD ks ds)) ≤ 5000 * ks.length
  | [], [], _, _, _ => ⟨rfl, rfl, by decide, by decide⟩
  | k :: ks, [], h, _, _ => by simp at h
  | [], d :: ds, h, _, _ => by simp at h
  | k :: ks, d :: ds, h, hk, hd => by
    obtain ⟨a1, a2, a3, a4⟩ := dict_ok (ks := ks) (ds := ds) (by simpa using h) (fun x hx => hk x (List.mem_cons_of_mem _ hx)) fun x hx => hd x (List.mem_cons_of_mem _ hx)
    obtain ⟨b1, b2, b3⟩ := key_len (hk k List.mem_cons_self)
    obtain ⟨c1, c2, c3⟩ := hd d List.mem_cons_self
    obtain ⟨v1, v2⟩ := val_show d c1
    have sl := shown_len d c1
    have e : rowsD (k :: ks) (d :: ds) = (kdat k, d) :: rowsD ks ds := rfl
    have el : (": " : Str).length = 2 := by decide +kernel
    rw [e]
    refine ⟨?_, ?_, ?_, ?_⟩
    · simp only [PyData.showableKv, a1, b2, v1, Bool.and_self]
    · simp only [PyData.hasDictAll, a2, v2, Bool.or_self]
    · simp only [PyData.depthKv]
      omega
    · simp only [PyData.shownKv, lenAll, List.length_cons, strLen_append, el]
      omega
theorem dict_len {ps : List Str} {c : Nat} (h : lenAll ps ≤ c) : (dictText ps).length ≤ c + 2 := by
  rw [← cs_len]
  unfold dictText
  rw [cs_app, cs_app, join_sep, show cs (("{" : String) : Str) = [123] by decide +kernel, show cs (("}" : String) : Str) = [125] by decide +kernel]
  have := sep_len ps
  simp
  omega
end TX
namespace TX
open PySem PySem.Spec PyProof.Rows L2
theorem rows_at {K : PySem.W.Frag} {H Hv : Hp} {kvs : List (List Key × V)} {ds : List PyData} {bs : List Addr} (hK : IsKeys H kvs bs) (hk : ∀ k ∈ kvs.map (·.1), KeyW k) (hd : DpAll K Hv (kvs.map (·.2)) ds) (hv : ∀ d ∈ ds, valD d ∧ sz d ≤ 800 ∧ d.depth ≤ 40) :
    ∃ T : List Str, pageS (kvs.map (·.1)) ds = Txt.join "\n" T ∧ T.length = kvs.length ∧ (sortB (kpairs bs (kvs.map (·.1)))).length = kvs.length ∧
      ∀ (j : Nat) (x : V), ((sortB (kpairs bs (kvs.map (·.1)))).map fun b : Addr × PyData => V.ref b.1)[j]? = some x → ∃ (b : Addr) (z : Str) (i : Int) (v : V) (d : PyData), x = V.ref b ∧ H b = some (.tup [.str z, .int i]) ∧ z ∈ kindsW ∧ 0 ≤ i ∧ i < 10000 ∧
        valV kvs [.inr z, .inl i] = some v ∧ Dp K Hv v d ∧ (valD d ∧ sz d ≤ 800 ∧ d.depth ≤ 40) ∧ T[j]? = some (padL 3 (toString i : String) ++ " " ++ padR 8 z ++ " " ++ d.shown) := by
  obtain ⟨kp1, kp2, kp3⟩ := kpairs_is hK
  have eT : (sortB (kpairs bs (kvs.map (·.1)))).map (·.2) = dsort ((kvs.map (·.1)).map kdat) := by rw [sortB_data, kp2]
  have mB : ∀ b ∈ sortB (kpairs bs (kvs.map (·.1))), ∃ k ∈ kvs.map (·.1), b.2 = kdat k ∧ H b.1 = some (.tup (k.map kV)) := fun b hb => kp3 b (List.mem_mergeSort.mp hb)
  have lB : (sortB (kpairs bs (kvs.map (·.1)))).length = kvs.length := by
    have := congrArg List.length kp2
    unfold sortB
    rw [List.length_mergeSort]
    simpa using this
  unfold pageS
  rw [← eT]
  generalize sortB (kpairs bs (kvs.map (·.1))) = B at eT mB lB
  refine ⟨_, rfl, by rw [List.length_map, List.length_map, lB], lB, fun j x hx => ?_⟩
  rw [List.getElem?_map] at hx
  obtain ⟨b, hb, rfl⟩ := Option.map_eq_some_iff.mp hx
  obtain ⟨k0, hk0, e1, e2⟩ := mB b (List.mem_of_getElem? hb)
  obtain ⟨z, i, rfl, hz, h0, h1⟩ := hk k0 hk0
  obtain ⟨v, a1, a2, a3⟩ := key_row hd hk0
  refine ⟨b.1, z, i, v, _, rfl, e2, hz, h0, h1, a1, a2, hv _ a3, ?_⟩
  rw [List.getElem?_map, List.getElem?_map, hb]
  show some (rowS _ b.2) = _
  rw [e1]
  rfl
theorem num_len {i : Int} (h0 : 0 ≤ i) (h1 : i < 10000) : ((toString i : String) : Str).length ≤ 10 := by
  obtain ⟨m, rfl⟩ := Int.eq_ofNat_of_zero_le h0
  have d := PySem.W.KXf.digits_le (a := (m : Int)) (Int.natCast_nonneg m) (by omega)
  rw [Int.natAbs_natCast] at d
  have e3 := intC_nat m
  unfold intC at e3
  rw [← cs_len, e3, List.length_map]
  exact d
theorem page_nil : pageS [] [] = "" := by
  have e : dsort [] = [] := by
    unfold dsort
    exact List.mergeSort_nil
  unfold pageS
  rw [List.map_nil, e]
  decide +kernel
theorem iteF' {c : Bool} {A B : Prop} (h : c = false) (b : B) : if c = true then A else B := by
  rw [h]
  exact iteF b
/-- all but two places -/
def vw (p a : Addr) (H : Hp) : Hp := fun b => if b = p ∨ b = a then none else H b
theorem vw_at {p a b : Addr} {H : Hp} (h : ¬ (b = p ∨ b = a)) : vw p a H b = H b := if_neg h
theorem vw_sub {p a : Addr} {H : Hp} : Same (vw p a H) H := fun b o e => by
  by_cases h : b = p ∨ b = a
  · unfold vw at e
    rw [if_pos h] at e
    cases e
  · rw [vw_at h] at e
    exact e
theorem vw_same {p a : Addr} {H H' : Hp} (k : ∀ b o, ¬ (b = p ∨ b = a) → H b = some o → H' b = some o) : Same (vw p a H) (vw p a H') := fun b o e => by
  by_cases h : b = p ∨ b = a
  · unfold vw at e
    rw [if_pos h] at e
    cases e
  · rw [vw_at h] at e ⊢
    exact k b o h e
theorem vw_new {p a : Addr} {H H' : Hp} (hp : H p ≠ none) (ha : H a ≠ none) : Same (newp H H') (vw p a H') := fun b o e => by
  cases h : H b with
  | some u =>
    rw [newp_old h] at e
    cases e
  | none =>
    rw [newp_at h] at e
    rw [vw_at fun z => z.elim (fun q => hp (by rw [← q]; exact h)) fun q => ha (by rw [← q]; exact h)]
    exact e
/-- what stands in the turns: the dict's rows, the bag -/
structure Fs (K : PySem.W.Frag) (C : Hp) (p a : Addr) (n : Int) (m : Nat) (H : Hp) (kvs : List (List Key × V)) (ds : List PyData) : Prop where
  at_ : H a = some (.dT kvs)
  keys : ∀ k ∈ kvs.map (·.1), KeyW k
  len : kvs.length ≤ m
  vals : DpAll K (vw p a H) (kvs.map (·.2)) ds
  good : ∀ d ∈ ds, valD d ∧ sz d ≤ 800 ∧ d.depth ≤ 40
  bag : BagAt H p n
  same : Same C H
theorem Fs.ne {K : PySem.W.Frag} {C : Hp} {p a : Addr} {n : Int} {m : Nat} {H : Hp} {kvs : List (List Key × V)} {ds : List PyData} (F : Fs K C p a n m H kvs ds) : p ≠ a := fun e => by
  obtain ⟨x, y, z, e2, _⟩ := F.bag
  rw [e, F.at_] at e2
  cases e2
/-- the heap grows -/
theorem Fs.up {K : PySem.W.Frag} {C : Hp} {p a : Addr} {n : Int} {m : Nat} {H H' : Hp} {kvs : List (List Key × V)} {ds : List PyData} (F : Fs K C p a n m H kvs ds) (s : Same H H') : Fs K C p a n m H' kvs ds :=
  ⟨s _ _ F.at_, F.keys, F.len, dpAll_same (vw_same fun b o _ e => s b o e) _ _ F.vals, F.good, F.bag.up s, F.same.trans s⟩
/-- the bag is drawn from -/
theorem Fs.draw {K : PySem.W.Frag} {C : Hp} {p a : Addr} {n n2 : Int} {m : Nat} {H H' : Hp} {kvs : List (List Key × V)} {ds : List PyData} (F : Fs K C p a n m H kvs ds) (cp : C p = none) (k : ∀ b o, b ≠ p → H b = some o → H' b = some o) (b : BagAt H' p n2) : Fs K C p a n2 m H' kvs ds :=
  ⟨k _ _ F.ne.symm F.at_, F.keys, F.len, dpAll_same (vw_same fun b o h e => k b o (fun z => h (.inl z)) e) _ _ F.vals, F.good, b, fun b o e => k b o (fun z => by rw [z, cp] at e; cases e) (F.same _ _ e)⟩
/-- a row is put in -/
theorem Fs.put {K : PySem.W.Frag} {C : Hp} {p a : Addr} {n : Int} {m : Nat} {H : Hp} {kvs : List (List Key × V)} {ds : List PyData} {k : List Key} {v : V} {d : PyData} (F : Fs K C p a n m H kvs ds) (ca : C a = none) (hk : KeyW k) (hv : Dp K (vw p a H) v d) (gd : valD d ∧ sz d ≤ 800 ∧ d.depth ≤ 40) :
    ∃ ds', Fs K C p a n (m + 1) (upd H a (.dT (putK kvs k v))) (putK kvs k v) ds' := by
  obtain ⟨ds', a1, a2, a3⟩ := put_rows (k := k) hv F.vals
  refine ⟨ds', upd_same, fun k' h => (a3 k' h).elim (F.keys k') fun e => e ▸ hk, Nat.le_trans (length_putK _ _ _) (Nat.succ_le_succ F.len), dpAll_same (vw_same fun b o h e => ?_) _ _ a1, fun e he => (a2 e he).elim (F.good e) fun q => q ▸ gd, ?_, fun b o e => ?_⟩
  · rw [upd_ne fun z => h (.inr z)]
    exact e
  · obtain ⟨x, y, z, e, r⟩ := F.bag
    exact ⟨x, y, z, by rw [upd_ne F.ne]; exact e, r⟩
  · rw [upd_ne fun z => by rw [z, ca] at e; cases e]
    exact F.same _ _ e
/-- what repr asks of the dict -/
theorem Fs.shown {K : PySem.W.Frag} {C : Hp} {p a : Addr} {n : Int} {m : Nat} {H : Hp} {kvs : List (List Key × V)} {ds : List PyData} (F : Fs K C p a n m H kvs ds) (hm : m ≤ 100) :
    DpAll K H (kvs.map (·.2)) ds ∧ (PyData.dict (rowsD (kvs.map (·.1)) ds)).showable = true ∧ PyData.hasDictAll ds = false ∧ (PyData.dict (rowsD (kvs.map (·.1)) ds)).depth ≤ 60 ∧ (PyData.dict (rowsD (kvs.map (·.1)) ds)).shown.length ≤ sizeLine := by
  have hl := F.len
  have e : (kvs.map (·.1)).length = ds.length := by
    rw [List.length_map, ← DpAll.length F.vals, List.length_map]
  obtain ⟨a1, a2, a3, a4⟩ := dict_ok e F.keys F.good
  rw [List.length_map] at a4
  refine ⟨dpAll_same vw_sub _ _ F.vals, ?_, a2, ?_, ?_⟩
  · simpa [PyData.showable] using a1
  · simp only [PyData.depth]
    omega
  · simp only [PyData.shown]
    exact Nat.le_trans (dict_len a4) (Nat.le_trans (show 5000 * kvs.length + 2 ≤ 1000000 by omega) (by decide))
end TX
namespace TX
open PySem PySem.Spec PyProof.Rows L2
structure Ml (mg : Str → Option Value) : Prop where
  max : mg "max" = none
  min : mg "min" = none
  repr : mg "repr" = none
  str : mg "str" = none
def spLaw (K : PySem.W.Frag) : Sp := fun vs H Q _ => ∃ (a : Addr) (ns : List Int), vs = [.ref a] ∧ SqL K H a (ns.map V.int) ∧ ns.length ≤ 63 ∧ ∀ H', Q (.bl true) H'
structure Lc (P : Program) (w : World) (K : PySem.W.Frag) (mg : Str → Option Value) (base : Heap) (a1 a2 a3 a4 a5 : Addr) (d1 d2 d3 d4 d5 : FuncData) : Prop where
  G1 : FnOk P w K mg base CX0 1 a1 d1 ["_law_script", "_law_at"] (spBag K)
  b1 : Binds K d1 ["_law_script", "_law_at"] []
  g1 : mg "_law_bag" = some (.ref a1)
  k1 : PySem.W.keepIn K (.ref a1) = true
  G2 : FnOk P w K mg base CX0 1 a2 d2 ["_law_bag_here", "_law_many"] spTake
  b2 : Binds K d2 ["_law_bag_here", "_law_many"] []
  g2 : mg "_law_take" = some (.ref a2)
  k2 : PySem.W.keepIn K (.ref a2) = true
  G3 : FnOk P w K mg base CX0 2 a3 d3 ["_law_bag_here", "_law_some"] spOf
  b3 : Binds K d3 ["_law_bag_here", "_law_some"] []
  g3 : mg "_law_of" = some (.ref a3)
  k3 : PySem.W.keepIn K (.ref a3) = true
  G4 : FnOk P w K mg base CX0 5 a4 d4 ["_law_bag_here", "_law_deep", "_law_room", "_law_wanted"] (spValue K 2)
  b4 : Binds K d4 ["_law_bag_here", "_law_deep", "_law_room", "_law_wanted"] []
  g4 : mg "_law_value" = some (.ref a4)
  k4 : PySem.W.keepIn K (.ref a4) = true
  G5 : FnOk P w K mg base CX0 3 a5 d5 ["found"] (spPage K)
  b5 : Binds K d5 ["found"] []
  g5 : mg "survey_page" = some (.ref a5)
  k5 : PySem.W.keepIn K (.ref a5) = true
section
variable {P : Program} {w : World} {K : PySem.W.Frag} {mg : Str → Option Value} {base : Heap}
theorem scLaw : FnScope ["_law_script", "_law_kinds", "_law_at", "_law_bag_here", "_law_found", "_law_turn", "_law_line", "_law_kept", "_law_rows", "_law_kind", "_law_number"] ["_law_script"] (defScope sLaw) := ⟨rfl, rfl, rfl, by decide +kernel, rfl, by decide +kernel, by decide +kernel⟩
theorem ok_law {f a1 a2 a3 a4 a5 : Addr} {fd d1 d2 d3 d4 d5 : FuncData} (F : Fun K "law" "law" sLaw f fd) (M : Ml mg) (Np : Np mg) (B : Nb mg) (Y : Nv mg) (L : Lc P w K mg base a1 a2 a3 a4 a5 d1 d2 d3 d4 d5) : FnG P w K mg base CX0 6 f fd ["_law_script"] (spLaw K) := by
  refine fng_of F scLaw (fun vs H Q E h => ?_) (fun cdv A outer s H vs Q E hgd hr h => ?_)
  · obtain ⟨a, ns, rfl, _⟩ := h
    rfl
  · obtain ⟨a0, ns, rfl, hS, hn, q⟩ := h
    have hu := hr.units
    have hu1 := Nat.lt_of_le_of_lt (Nat.add_le_add_left (by decide : 1 ≤ 64) _) hu
    have r1 : Room 1 _ := hr.mono (by decide)
    have r2 : Room 2 _ := hr.mono (by decide)
    have r3 : Room 3 _ := hr.mono (by decide)
    have r5 : Room 5 _ := hr.mono (by decide)
    refine ⟨_, pss_cons (ps_set (i := 1) scLaw.nd rfl (.inl rfl) (pe_lst (pa_cons pe_str (pa_cons pe_str (pa_cons pe_str (pa_cons pe_str (pa_cons pe_str pa_nil))))))) <|
      pss_cons (ps_for PassesOwn.never rfl (pi_range1 (by rfl) Y.range (pa_cons (pe_callB (call_max2 rfl) (by rfl) M.max (by decide +kernel) (pa_cons pe_int (pa_cons (pe_callB (call_min2 rfl) (by rfl) M.min (by decide +kernel) (pa_cons pe_int (pa_cons (pe_callB call_len_seq (by rfl) B.len PySem.boot_len (pa_cons (pv 0) pa_nil)) pa_nil))) pa_nil))) pa_nil))
        (pg_name (i := 2) scLaw.nd rfl (.inl rfl)) (
        pss_cons (ps_set (i := 3) scLaw.nd rfl (.inl rfl) (pe_call L.G1 r1 (by rfl) L.g1 L.k1 L.b1 .nil pass0 (pa_cons (pv 0) (pa_cons (pv 2) pa_nil)))) <|
        pss_cons (ps_set (i := 4) scLaw.nd rfl (.inl rfl) pe_dnewT) <|
        C8.pss_cut (ps_for PassesOwn.never rfl (pi_range1 (by rfl) Y.range (pa_cons (pe_call L.G2 r1 (by rfl) L.g2 L.k2 L.b2 .nil pass0 (pa_cons (pv 3) (pa_cons pe_int pa_nil))) pa_nil)) (pg_name (i := 5) scLaw.nd rfl (.inl rfl)) (
          pss_cons (ps_set (i := 6) scLaw.nd rfl (.inl rfl) (pe_call L.G2 r1 (by rfl) L.g2 L.k2 L.b2 .nil pass0 (pa_cons (pv 3) (pa_cons (pe_call L.G3 r2 (by rfl) L.g3 L.k3 L.b3 .nil pass0 (pa_cons (pv 3) (pa_cons (pe_lst (pa_cons pe_int (pa_cons pe_int (pa_cons pe_int (pa_cons pe_int pa_nil))))) pa_nil))) pa_nil)))) <|
          pss_one (ps_dput hu1 (pv 4) (pe_tup (pa_cons (pe_call L.G3 r2 (by rfl) L.g3 L.k3 L.b3 .nil pass0 (pa_cons (pv 3) (pa_cons (pv 1) pa_nil))) (pa_cons (pv 6) pa_nil))) (pe_call L.G4 r5 (by rfl) L.g4 L.k4 L.b4 .nil pass0 (pa_cons (pv 3) (pa_cons pe_int (pa_cons (pe_lst (pa_cons pe_int pa_nil)) (pa_cons pe_str pa_nil))))) rfl))) <|
        pss_cons (ps_par (i := 7) (j := 8) rfl scLaw.nd rfl rfl (by decide) rfl rfl (pa_cons (pe_callB (call_reprDT hgd hu) (by rfl) M.repr (by decide +kernel) (pa_cons (pv 4) pa_nil)) (pa_cons (pe_lst pa_nil) pa_nil)) (by rfl)) <|
        C8.pss_cut (ps_for PassesOwn.never rfl (pi_list (pe_callB (cr_sortedD hu) (by rfl) Np.sorted (by decide +kernel) (pa_cons (pe_callTy (call_list_dT rfl) (by rfl) Np.list (by decide +kernel) (pa_cons (pv 4) pa_nil)) pa_nil))) (pg_tup rfl (pgs_cons (pg_name (i := 9) scLaw.nd rfl (.inl rfl)) (pgs_cons (pg_name (i := 6) scLaw.nd rfl (.inl rfl)) pgs_nil))) (
          pss_cons (ps_set (i := 10) scLaw.nd rfl (.inl rfl) (pe_callTy call_str_int (by rfl) M.str (by decide +kernel) (pa_cons (pv 6) pa_nil))) <|
          pss_cons (ps_set (i := 10) scLaw.nd rfl (.inl rfl) (pe_op op_add_str (pe_op op_add_str (pe_op op_blank pe_str (pe_op op_sub pe_int (pe_callB call_len_str (by rfl) B.len PySem.boot_len (pa_cons (pv 10) pa_nil)))) (pv 10)) pe_str)) <|
          pss_one (ps_expr (pe_bm PySem.F.plainAttrs_list PySem.F.slot_list_append PySem.F.type_list_append mt_append (pv 8) (pa_cons (pe_op op_add_str (pe_op op_add_str (pe_op op_add_str (pv 10) (pv 9)) (pe_op op_blank pe_str (pe_op op_sub pe_int (pe_callB call_len_str (by rfl) B.len PySem.boot_len (pa_cons (pv 9) pa_nil))))) (pe_callB (call_repr hgd hu) (by rfl) M.repr (by decide +kernel) (pa_cons (pe_dget hu1 (pv 4) (pe_tup (pa_cons (pv 9) (pa_cons (pv 6) pa_nil))) (fun _ _ => rfl)) pa_nil))) pa_nil))))) <|
        pss_one (ps_if (PW.pt (pw_or (pt_cmpR op_ne (pe_call L.G5 r3 (by rfl) L.g5 L.k5 L.b5 .nil pass0 (pa_cons (pv 4) pa_nil)) (pe_join pe_str (pv 8)) (nomark _)) (pw_or1 (pt_cmpR op_ne (pe_callB (call_reprDT hgd hu) (by rfl) M.repr (by decide +kernel) (pa_cons (pv 4) pa_nil)) (pv 7) (nomark _))))) (pss_one (ps_ret pe_bl)) pss_nil))) <|
      pss_one (ps_ret (pe_cmpR op_eq (pe_call L.G5 r3 (by rfl) L.g5 L.k5 L.b5 .nil pass0 (pa_cons pe_dnewT pa_nil)) pe_str (nomark _))), ?_⟩
    refine ⟨(by show 5 ≤ sizeLine; decide), fun l nl => ?_⟩
    have sC : Same H (upd H l (.lst [.str "slip", .str "letter", .str "fail", .str "refuse", .str "endless"])) := same_upd nl
    have kW : ∀ v ∈ ([.str "slip", .str "letter", .str "fail", .str "refuse", .str "endless"] : List V), ∃ z, v = .str z ∧ z ∈ kindsW := by
      intro v hv
      simp only [List.mem_cons, List.not_mem_nil, or_false] at hv
      rcases hv with rfl | rfl | rfl | rfl | rfl <;> exact ⟨_, rfl, by decide +kernel⟩
    have hl : upd H l (.lst [.str "slip", .str "letter", .str "fail", .str "refuse", .str "endless"]) l = some (.lst [.str "slip", .str "letter", .str "fail", .str "refuse", .str "endless"]) := upd_same
    have sC0 := sC
    obtain ⟨ks, hks⟩ : ∃ ks : List V, ks = [.str "slip", .str "letter", .str "fail", .str "refuse", .str "endless"] := ⟨_, rfl⟩
    obtain ⟨C, hC⟩ : ∃ C, C = upd H l (.lst [.str "slip", .str "letter", .str "fail", .str "refuse", .str "endless"]) := ⟨_, rfl⟩
    rw [← hC] at sC hl
    rw [← hks] at kW hl
    have lk : ks.length = 5 := by
      rw [hks]
      rfl
    refine ⟨_, rfl, a0, _, rfl, .inl (sC0.seq hS), _, _, rfl, _, _, rfl, _, rfl, ?_, ?_, ?_⟩
    · split <;> (try split) <;> omega
    · split <;> (try split) <;> omega
    refine for_range (lo := 0) (fun i σ H1 => ∃ y2 y3 y4 y5 y6 y7 y8 y9 y10, σ = [some (.ref a0), some (.ref l), y2, y3, y4, y5, y6, y7, y8, y9, y10] ∧ Same C H1) ⟨_, _, _, _, _, _, _, _, _, rfl, by rw [hC]; exact Same.refl _⟩ ?_ ?_
    · rintro i σ H1 hi ⟨y2, y3, y4, y5, y6, y7, y8, y9, y10, rfl, sm⟩
      have hi3 : i ≤ 3 := by
        have : i < (4 : Int).toNat := Nat.lt_of_lt_of_le hi (Int.toNat_le_toNat (by split <;> (try split) <;> omega))
        omega
      have e0 : (0 : Int) + (i : Int) = (i : Int) := by omega
      rw [e0]
      refine ⟨_, rfl, _, rfl, a0, ns, i, rfl, (sC.trans sm).seq hS, by omega, fun H2 p s2 np bag => fun a na => ?_⟩
      have cp : C p = none := sm.free np
      have ca : C a = none := (sm.trans s2).free na
      have F0 : Fs K C p a 1 0 (upd H2 a (.dT [])) [] [] := ⟨upd_same, (fun k hk => nomatch hk), Nat.le_refl _, .nil, (fun d hd => nomatch hd), (bag.up (same_upd na)).le (by omega), (sm.trans s2).trans (same_upd na)⟩
      generalize upd H2 a (.dT []) = G0 at F0
      have hlC : ∀ {G : Hp} {n m kvs ds}, Fs K C p a n m G kvs ds → G l = some (.lst ks) := fun F => F.same _ _ hl
      refine ⟨fun σ' G' => ∃ y5 y6 kvs ds, σ' = [some (.ref a0), some (.ref l), some (.int i), some (.ref p), some (.ref a), y5, y6, y7, y8, y9, y10] ∧ ∃ n m, Fs K C p a n m G' kvs ds ∧ m ≤ 100, ?_, ?_⟩
      · refine ⟨_, rfl, p, 7, 1, rfl, F0.bag, by decide, by decide, by decide, fun x1 z1 w1 t g1 g2 g3 g4 g5 g6 => ?_⟩
        have F1 : Fs K C p a 2 0 (upd G0 p (.lst [.int x1, .int z1, .int w1])) [] [] := F0.draw cp (fun b o hb e => by rw [upd_ne hb]; exact e) ⟨_, _, _, upd_same, g1, g2, g3, g4⟩
        generalize upd G0 p (.lst [.int x1, .int z1, .int w1]) = G1 at F1
        refine ⟨t, rfl, by omega, by omega, for_range (lo := 0) (n := t.toNat) (fun j σ H3 => ∃ y5 y6 kvs ds, σ = [some (.ref a0), some (.ref l), some (.int i), some (.ref p), some (.ref a), y5, y6, y7, y8, y9, y10] ∧ Fs K C p a (2 + ((j * 140 : Nat) : Int)) j H3 kvs ds) ⟨_, _, _, _, rfl, F1.draw cp (fun b o hb e => e) (F1.bag.le (by omega))⟩ ?_ ?_⟩
        · rintro j σ H3 hj ⟨y5', y6', kvs, ds, rfl, F⟩
          have hj7 : j < 7 := by omega
          have cv2 : ((cv 2 : Nat) : Int) = 130 := rfl
          have sv2 : sv 2 = 780 := rfl
          generalize hN : (2 : Int) + ((j * 140 : Nat) : Int) = N at F
          refine ⟨_, rfl, _, rfl, (by show 4 ≤ sizeLine; decide), fun l1 n1 => ⟨p, l1, _, N, rfl, (F.up (same_upd n1)).bag, by omega, upd_same, (F.bag.nex n1).symm, (by show 0 < 4; decide), (by show 4 ≤ 1000000; decide), fun x2 z2 w2 v b2 hv => ?_⟩⟩
          obtain ⟨m, rfl, m0, m1⟩ : ∃ m : Int, v = .int m ∧ 0 < m ∧ m ≤ 10000 := by
            simp only [List.mem_cons, List.not_mem_nil, or_false] at hv
            rcases hv with rfl | rfl | rfl | rfl <;> exact ⟨_, rfl, by decide, by decide⟩
          have F2 : Fs K C p a (N + 1) j _ kvs ds := (F.up (same_upd n1)).draw cp (fun b o hb e => by rw [upd_ne hb]; exact e) b2
          refine ⟨p, m, N + 1, rfl, b2, by omega, m0, by omega, fun x3 z3 w3 ln g1 g2 g3 g4 g5 g6 => ?_⟩
          have F3 : Fs K C p a (N + 1 + 1) j _ kvs ds := F2.draw (H' := upd _ p (.lst [.int x3, .int z3, .int w3])) cp (fun b o hb e => by rw [upd_ne hb]; exact e) ⟨_, _, _, upd_same, g1, g2, g3, g4⟩
          revert F3
          generalize upd _ p (.lst [.int x3, .int z3, .int w3]) = H4
          intro F3
          refine ⟨_, rfl, (by show 1 ≤ sizeLine; decide), fun r nr => ⟨p, r, 2, "", N + 1 + 1, 4, rfl, (F3.up (same_upd nr)).bag, by omega, Nat.le_refl _, upd_same, (by unfold Lt; decide +kernel), (by decide +kernel), fun H5 v d t2 kk bb rr hv vd dd zd => ?_⟩⟩
          have F4 : Fs K C p a (N + 1 + 1 + ((cv 2 : Nat) : Int)) j H5 kvs ds := F3.draw cp (fun b o hb e => kk b o (fun z => z.elim hb fun z2 => by rw [z2, nr] at e; cases e) (same_upd nr _ _ e)) bb
          have hv5 : Dp K (vw p a H5) v d := dp_same (vw_new (F3.up (same_upd nr)).bag.ne (by rw [(F3.up (same_upd nr)).at_]; exact fun z => nomatch z)) _ _ hv
          have lp : l ≠ p := fun z => by
            rw [z, cp] at hl
            cases hl
          refine ⟨_, rfl, _, rfl, _, rfl, p, l, ks, N + 1 + 1 + ((cv 2 : Nat) : Int), rfl, F4.bag, by omega, F4.same _ _ hl, lp, by omega, by omega, fun x5 z5 w5 v2 b5 hv2 => ?_⟩
          obtain ⟨z, rfl, hz⟩ := kW v2 hv2
          have F5 : Fs K C p a (N + 1 + 1 + ((cv 2 : Nat) : Int) + 1) j _ kvs ds := F4.draw (H' := upd H5 p (.lst [.int x5, .int z5, .int w5])) cp (fun b o hb e => by rw [upd_ne hb]; exact e) b5
          have hv6 : Dp K (vw p a (upd H5 p (.lst [.int x5, .int z5, .int w5]))) v d := dp_same (vw_same fun b o hb e => by rw [upd_ne fun z => hb (.inl z)]; exact e) _ _ hv5
          generalize upd H5 p (.lst [.int x5, .int z5, .int w5]) = H6 at F5 hv6
          refine ⟨_, rfl, (by show 2 ≤ sizeLine; decide), fun tt nt => ⟨a, _, rfl, DPut.t (k := [.inr z, .inl ln]) (F5.up (same_upd nt)).at_ upd_same (Nat.lt_of_le_of_lt (show kvs.length ≤ 100 by have := F5.len; omega) (by decide)), ?_⟩⟩
          have hv7 : Dp K (vw p a (upd H6 tt (.tup [.str z, .int ln]))) v d := dp_same (vw_same fun b o _ e => same_upd nt b o e) _ _ hv6
          obtain ⟨ds', F6⟩ := (F5.up (same_upd nt)).put ca ⟨z, ln, rfl, hz, g5, by omega⟩ hv7 ⟨vd, by omega, by omega⟩
          exact ⟨_, _, _, ds', rfl, F6.draw cp (fun b o hb e => e) (F6.bag.le (by omega))⟩
        · rintro σ H3 ⟨y5', y6', kvs, ds, rfl, F⟩
          exact ⟨_, _, kvs, ds, rfl, _, _, F, by omega⟩
      · rintro σ' G' ⟨y5', y6', kvs, ds, rfl, n, m, F, hm⟩
        have hlen : kvs.length ≤ 100 := Nat.le_trans F.len hm
        obtain ⟨q1, q2, q3, q4, q5⟩ := F.shown hm
        refine ⟨_, rfl, a, kvs, ds, rfl, .inl F.at_, q1, q2, q3, q4, q5, Nat.zero_le _, fun rl nrl => ⟨_, _, rfl, ?_⟩⟩
        refine ⟨fun σ' H' => ∃ y6 y9 y10 T, σ' = [some (.ref a0), some (.ref l), some (.int i), some (.ref p), some (.ref a), y5', y6, some (.str (PyData.dict (rowsD (kvs.map (·.1)) ds)).shown), some (.ref rl), y9, y10] ∧ Fs K C p a n m H' kvs ds ∧ H' rl = some (.lst (T.map V.str)) ∧ pageS (kvs.map (·.1)) ds = Txt.join "\n" T ∧ T.length ≤ 100 ∧ ∀ t ∈ T, t.length ≤ 4900, ?_, ?_⟩
        · have sr : Same G' (upd G' rl (.lst [])) := same_upd nrl
          have hrl : upd G' rl (.lst []) rl = some (.lst []) := upd_same
          have Fr := F.up sr
          generalize upd G' rl (.lst []) = Gr at sr hrl Fr
          refine ⟨_, rfl, a, kvs, rfl, .inl Fr.at_, fun l1 bs n1 hK => ?_⟩
          obtain ⟨kp1, kp2, kp3⟩ := kpairs_is hK
          obtain ⟨T, eP, lT, lB, rows⟩ := rows_at hK F.keys F.vals F.good
          have s1 : Same Gr (upd Gr l1 (.lst (bs.map V.ref))) := same_upd n1
          obtain ⟨al, so, dp⟩ := alike_keys (kvs.map (·.1)) F.keys
          refine ⟨l1, kpairs bs (kvs.map (·.1)), rfl, SqL.of ?_, fun b hb => dp_same s1 _ _ (kpairs_dp hK b hb), ?_, ?_, ?_, fun l2 n2 => ?_⟩
          · have e : (kpairs bs (kvs.map (·.1))).map (fun b => V.ref b.1) = bs.map V.ref := by
              rw [← kp1, List.map_map]
              simp only [kp1]
              rfl
            rw [upd_same, e]
          · rw [kp2]
            exact al
          · rw [kp2]
            exact so
          · intro b hb
            obtain ⟨k0, hk0, e, _⟩ := kp3 b hb
            rw [e]
            exact Nat.le_trans (dp _ (List.mem_map_of_mem hk0)) (by decide)
          · have s2 : Same Gr (upd (upd Gr l1 (.lst (bs.map V.ref))) l2 (.lst ((sortB (kpairs bs (kvs.map (·.1)))).map fun b : Addr × PyData => V.ref b.1))) := s1.trans (same_upd n2)
            have hl2 : (upd (upd Gr l1 (.lst (bs.map V.ref))) l2 (.lst ((sortB (kpairs bs (kvs.map (·.1)))).map fun b : Addr × PyData => V.ref b.1))) l2 = some (.lst ((sortB (kpairs bs (kvs.map (·.1)))).map fun b : Addr × PyData => V.ref b.1)) := upd_same
            have rl2 : l2 ≠ rl := fun z => by
              have e := s1 _ _ hrl
              rw [← z, n2] at e
              cases e
            generalize sortB (kpairs bs (kvs.map (·.1))) = Bs at s2 hl2 lB rows
            generalize upd (upd Gr l1 (.lst (bs.map V.ref))) l2 (.lst (Bs.map fun b : Addr × PyData => V.ref b.1)) = H1 at s2 hl2
            refine ⟨l2, rfl, ⟨_, SqL.of hl2⟩, for_list (K := K) (a := l2) (xs := Bs.map fun b : Addr × PyData => V.ref b.1) (fun j σ H' => ∃ y6 y9 y10, σ = [some (.ref a0), some (.ref l), some (.int i), some (.ref p), some (.ref a), y5', y6, some (.str (PyData.dict (rowsD (kvs.map (·.1)) ds)).shown), some (.ref rl), y9, y10] ∧
              (∀ b o, b ≠ rl → H1 b = some o → H' b = some o) ∧ H' rl = some (.lst ((T.take j).map V.str))) ⟨_, _, _, rfl, fun b o _ e => e, s2 _ _ hrl⟩ ?_ ?_ ?_⟩
            · rintro j σ H' hj ⟨y6, y9', y10', rfl, kk, hT⟩
              exact SqL.of (kk _ _ rl2 hl2)
            · rintro j x σ H' hx ⟨y6, y9', y10', rfl, kk, hT⟩
              obtain ⟨b, z, ln, v, d, rfl, hb, hz, h0, h1, hv1, hdv, hok, hTj⟩ := rows j x hx
              have brl : b ≠ rl := fun e => by
                rw [e, hrl] at hb
                cases hb
              have sH : Same G' H' := fun c o e => kk c o (ne_of_none e nrl) (s2 _ _ (sr _ _ e))
              have fit : ∀ {n : Nat}, n ≤ 100000 → n ≤ sizeLine := fun h => Nat.le_trans h (by decide)
              obtain ⟨w1, w2⟩ := kind_data hz
              have w3 := shown_len d hok.1
              have w4 : ((toString ln : String) : Str).length ≤ 10 := num_len h0 h1
              have lb : (" " : Str).length = 1 := by decide +kernel
              have lg : ∀ n : Int, (blankS n).length = n.toNat := fun n => by
                unfold blankS
                simp [Str.length]
              obtain ⟨d1, d2⟩ := val_show d hok.1
              refine ⟨b, [.str z, .int ln], rfl, SqT.of (kk _ _ brl (s2 _ _ hb)), rfl, _, _, rfl, _, _, rfl, rfl, ?_⟩
              refine ⟨_, rfl, ln, rfl, log_small h0 (by omega), ?_⟩
              refine ⟨_, rfl, _, rfl, fit (by omega), _, _, rfl, rfl, _, rfl, rfl, by omega, by omega, _, rfl, _, _, rfl, rfl, fit (by rw [lg]; omega), _, _, rfl, rfl, fit (by rw [strLen_append, lg]; omega), ?_⟩
              refine ⟨_, rfl, .inl ⟨rfl, _, SqL.of hT⟩, _, rfl, _, rfl, _, _, rfl, rfl, fit (by rw [strLen_append, strLen_append, lg]; omega), _, rfl, _, rfl, fit (by omega), _, _, rfl, rfl, _, rfl, rfl, by omega, by omega, _, _, rfl, rfl, fit (by rw [strLen_append, strLen_append, strLen_append, lg, lg]; omega), _, rfl, _, rfl, _, rfl, (by show 2 ≤ sizeLine; decide), fun t nt => ?_⟩
              have sT : Same H' (upd H' t (.tup [.str z, .int ln])) := same_upd nt
              have tj : j < T.length := (List.getElem?_eq_some_iff.mp hTj).1
              have dep : d.depth ≤ 60 := by
                have := hok.2.2
                omega
              refine ⟨a, v, rfl, ?_, v, d, rfl, dp_same (vw_sub.trans (sH.trans sT)) _ _ hdv, d1, d2, dep, fit (by omega), _, _, rfl, rfl, fit (by rw [strLen_append, strLen_append, strLen_append, strLen_append, lg, lg]; omega), rl, _, _, rfl, rfl, sT _ _ hT, ?_, _, _, _, rfl, fun c o hc e => ?_, ?_⟩
              · rw [← hv1]
                exact DGet.t (k := [.inr z, .inl ln]) (sT _ _ (sH _ _ F.at_)) upd_same
              · rw [List.length_map, List.length_take]
                exact Nat.lt_of_le_of_lt (show min j T.length ≤ 100 by omega) (by decide)
              · rw [upd_ne hc]
                exact sT _ _ (kk c o hc e)
              · rw [upd_same, List.take_add_one, hTj, List.map_append, ← row_same hz]
                rfl
            · rintro σ H' ⟨y6, y9', y10', rfl, kk, hT⟩
              have sH : Same G' H' := fun c o e => kk c o (ne_of_none e nrl) (s2 _ _ (sr _ _ e))
              rw [List.length_map, lB, ← lT, List.take_length] at hT
              refine ⟨_, _, _, T, rfl, F.up sH, hT, eP, by omega, fun t ht => ?_⟩
              obtain ⟨j, hj, e⟩ := List.getElem_of_mem ht
              have hjB : j < (Bs.map fun b : Addr × PyData => V.ref b.1).length := by
                rw [List.length_map]
                omega
              obtain ⟨b, z, ln, v, d, _, _, hz, h0, h1, _, _, hok, hTj⟩ := rows j _ (List.getElem?_eq_getElem hjB)
              have w1 := (kind_data hz).1
              have w3 := shown_len d hok.1
              have w4 : ((toString ln : String) : Str).length ≤ 10 := num_len h0 h1
              have lb : (" " : Str).length = 1 := by decide +kernel
              have lg : ∀ n : Int, (blankS n).length = n.toNat := fun n => by
                unfold blankS
                simp [Str.length]
              rw [List.getElem?_eq_getElem hj] at hTj
              rw [← e, Option.some.inj hTj, ← row_same hz, strLen_append, strLen_append, strLen_append, strLen_append, strLen_append, lg, lg]
              omega
        · rintro σ' H' ⟨y6, y9', y10', T, rfl, F', hT, eP, lT, zT⟩
          refine ⟨_, rfl, a, kvs, ds, vw p a H', rfl, F'.at_, F'.keys, hlen, vw_sub, F'.vals, fun d hd => ⟨(F'.good d hd).1, (F'.good d hd).2.1⟩, fun H3 s3 => ?_⟩
          have sz0 : ("\n" : Str).length = 1 := by decide +kernel
          have fitj : (T.map (·.length)).sum + T.length * ("\n" : Str).length ≤ 16777216 := by
            have := sum_le_len zT
            rw [sz0]
            omega
          refine ⟨⟨_, rfl⟩, _, rfl, "\n", rl, T, rfl, rfl, .inl (SqL.of (s3 _ _ hT)), fitj, ?_⟩
          have F3 := F'.up s3
          obtain ⟨q1, q2, q3, q4, q5⟩ := F3.shown hm
          refine ⟨rfl, _, rfl, ?_⟩
          rw [eP]
          refine iteF' (by rw [decide_eq_true rfl]; rfl) ?_
          exact ⟨_, rfl, a, kvs, ds, rfl, .inl F3.at_, q1, q2, q3, q4, q5, _, rfl, rfl, _, rfl, iteF' (by rw [decide_eq_true rfl]; rfl) ⟨_, _, _, _, _, _, _, _, _, rfl, F3.same⟩⟩
    · rintro σ H1 ⟨y2, y3, y4, y5, y6, y7, y8, y9, y10, rfl, sm⟩
      refine fun a na => ⟨a, [], [], upd H1 a (.dT []), rfl, upd_same, (fun k hk => nomatch hk), by decide, Same.refl _, .nil, (fun d hd => nomatch hd), fun H' s' => ⟨rfl, ?_⟩⟩
      have e : pageS [] [] = "" := page_nil
      show Q (.bl (decide (V.str (pageS [] []) = V.str ""))) H'
      rw [e, decide_eq_true rfl]
      exact q H'
end
end TX
namespace TX
open PySem PySem.Spec PyProof.Rows L2
theorem all_mk {P : Program} {w : World} {K : PySem.W.Frag} {h : Heap} {mg : Str → Option Value} {fa f0 f1 f2 f3 f4 f5 f6 f7 f8 : Addr} (X : K.In h) (G : h.Ns mainGlobals mg) (hfa : mg "law" = some (.ref fa))
    {od0 an0 : Option Addr} {sl0 : Array (Option Value)} {oc0 kV0 dc0 pm0 cd0 ct0 : Value}
    {od1 an1 : Option Addr} {sl1 : Array (Option Value)} {oc1 kV1 dc1 pm1 cd1 ct1 : Value}
    {od2 an2 : Option Addr} {sl2 : Array (Option Value)} {oc2 kV2 dc2 pm2 cd2 ct2 : Value}
    {od3 an3 : Option Addr} {sl3 : Array (Option Value)} {oc3 kV3 dc3 pm3 cd3 ct3 : Value}
    {od4 an4 : Option Addr} {sl4 : Array (Option Value)} {oc4 kV4 dc4 pm4 cd4 ct4 : Value}
    {od5 an5 : Option Addr} {sl5 : Array (Option Value)} {oc5 kV5 dc5 pm5 cd5 ct5 : Value}
    {od6 an6 : Option Addr} {sl6 : Array (Option Value)} {oc6 kV6 dc6 pm6 cd6 ct6 : Value}
    {od7 an7 : Option Addr} {sl7 : Array (Option Value)} {oc7 kV7 dc7 pm7 cd7 ct7 : Value}
    {od8 an8 : Option Addr} {sl8 : Array (Option Value)} {oc8 kV8 dc8 pm8 cd8 ct8 : Value}
    (a0 : PySem.W.nsIn K mainGlobals "all_parts" = some (some (.ref f0)))
    (l0 : K.lookup f0 = some ⟨oc0, od0, .func (PySem.W.fnOf "all_parts" "all_parts" (defArgs sParts) (defBody sParts) (defScope sParts) .none kV0 dc0 pm0 an0 cd0 ct0), sl0⟩)
    (c0 : PySem.W.codeIn K cd0 "all_parts" = true)
    (k0 : PySem.W.keepIn K (.ref f0) = true)
    (a1 : PySem.W.nsIn K mainGlobals "shown" = some (some (.ref f1)))
    (l1 : K.lookup f1 = some ⟨oc1, od1, .func (PySem.W.fnOf "shown" "shown" (defArgs s_shown) (defBody s_shown) (defScope s_shown) .none kV1 dc1 pm1 an1 cd1 ct1), sl1⟩)
    (c1 : PySem.W.codeIn K cd1 "shown" = true)
    (k1 : PySem.W.keepIn K (.ref f1) = true)
    (a2 : PySem.W.nsIn K mainGlobals "survey_page" = some (some (.ref f2)))
    (l2 : K.lookup f2 = some ⟨oc2, od2, .func (PySem.W.fnOf "survey_page" "survey_page" (defArgs s_survey_page) (defBody s_survey_page) (defScope s_survey_page) .none kV2 dc2 pm2 an2 cd2 ct2), sl2⟩)
    (c2 : PySem.W.codeIn K cd2 "survey_page" = true)
    (k2 : PySem.W.keepIn K (.ref f2) = true)
    (a3 : PySem.W.nsIn K mainGlobals "_law_bag" = some (some (.ref f3)))
    (l3 : K.lookup f3 = some ⟨oc3, od3, .func (PySem.W.fnOf "_law_bag" "_law_bag" (defArgs sBag) (defBody sBag) (defScope sBag) .none kV3 dc3 pm3 an3 cd3 ct3), sl3⟩)
    (c3 : PySem.W.codeIn K cd3 "_law_bag" = true)
    (k3 : PySem.W.keepIn K (.ref f3) = true)
    (a4 : PySem.W.nsIn K mainGlobals "_law_take" = some (some (.ref f4)))
    (l4 : K.lookup f4 = some ⟨oc4, od4, .func (PySem.W.fnOf "_law_take" "_law_take" (defArgs sTake) (defBody sTake) (defScope sTake) .none kV4 dc4 pm4 an4 cd4 ct4), sl4⟩)
    (c4 : PySem.W.codeIn K cd4 "_law_take" = true)
    (k4 : PySem.W.keepIn K (.ref f4) = true)
    (a5 : PySem.W.nsIn K mainGlobals "_law_of" = some (some (.ref f5)))
    (l5 : K.lookup f5 = some ⟨oc5, od5, .func (PySem.W.fnOf "_law_of" "_law_of" (defArgs s__law_of) (defBody s__law_of) (defScope s__law_of) .none kV5 dc5 pm5 an5 cd5 ct5), sl5⟩)
    (c5 : PySem.W.codeIn K cd5 "_law_of" = true)
    (k5 : PySem.W.keepIn K (.ref f5) = true)
    (a6 : PySem.W.nsIn K mainGlobals "_law_text" = some (some (.ref f6)))
    (l6 : K.lookup f6 = some ⟨oc6, od6, .func (PySem.W.fnOf "_law_text" "_law_text" (defArgs sText) (defBody sText) (defScope sText) .none kV6 dc6 pm6 an6 cd6 ct6), sl6⟩)
    (c6 : PySem.W.codeIn K cd6 "_law_text" = true)
    (k6 : PySem.W.keepIn K (.ref f6) = true)
    (a7 : PySem.W.nsIn K mainGlobals "_law_value" = some (some (.ref f7)))
    (l7 : K.lookup f7 = some ⟨oc7, od7, .func (PySem.W.fnOf "_law_value" "_law_value" (defArgs sValue) (defBody sValue) (defScope sValue) .none kV7 dc7 pm7 an7 cd7 ct7), sl7⟩)
    (c7 : PySem.W.codeIn K cd7 "_law_value" = true)
    (k7 : PySem.W.keepIn K (.ref f7) = true)
    (a8 : PySem.W.nsIn K mainGlobals "law" = some (some (.ref f8)))
    (l8 : K.lookup f8 = some ⟨oc8, od8, .func (PySem.W.fnOf "law" "law" (defArgs sLaw) (defBody sLaw) (defScope sLaw) .none kV8 dc8 pm8 an8 cd8 ct8), sl8⟩)
    (c8 : PySem.W.codeIn K cd8 "law" = true)
    (k8 : PySem.W.keepIn K (.ref f8) = true)
    (zisinstance : PySem.W.nsIn K mainGlobals "isinstance" = some none)
    (zlist : PySem.W.nsIn K mainGlobals "list" = some none)
    (ztuple : PySem.W.nsIn K mainGlobals "tuple" = some none)
    (zlen : PySem.W.nsIn K mainGlobals "len" = some none)
    (zabs : PySem.W.nsIn K mainGlobals "abs" = some none)
    (zint : PySem.W.nsIn K mainGlobals "int" = some none)
    (zrange : PySem.W.nsIn K mainGlobals "range" = some none)
    (zsorted : PySem.W.nsIn K mainGlobals "sorted" = some none)
    (zmax : PySem.W.nsIn K mainGlobals "max" = some none)
    (zmin : PySem.W.nsIn K mainGlobals "min" = some none)
    (zrepr : PySem.W.nsIn K mainGlobals "repr" = some none)
    (zstr : PySem.W.nsIn K mainGlobals "str" = some none) :
    ∃ fd : FuncData, (∀ (s : Shared) (v : Value), BindsTo s fd ⟨[v], []⟩ [("_law_script", v)]) ∧ ∀ base : Heap, K.In base → base.Ns mainGlobals mg → FnG P w K mg base CX0 6 fa fd ["_law_script"] (spLaw K) := by
  have e := hfa.symm.trans (PySem.W.mg_of X G a8)
  cases e
  have F0 := fun_mk (st := sParts) l0 c0 k0
  have F1 := fun_mk (st := s_shown) l1 c1 k1
  have F2 := fun_mk (st := s_survey_page) l2 c2 k2
  have F3 := fun_mk (st := sBag) l3 c3 k3
  have F4 := fun_mk (st := sTake) l4 c4 k4
  have F5 := fun_mk (st := s__law_of) l5 c5 k5
  have F6 := fun_mk (st := sText) l6 c6 k6
  have F7 := fun_mk (st := sValue) l7 c7 k7
  have F8 := fun_mk (st := sLaw) l8 c8 k8
  have b0 := F0.binds (ps := ["thing"]) fun _ _ _ _ _ _ us hl => match us, hl with | [_], _ => rfl
  have g0 := PySem.W.mg_of X G a0
  have b1 := F1.binds (ps := ["value"]) fun _ _ _ _ _ _ us hl => match us, hl with | [_], _ => rfl
  have g1 := PySem.W.mg_of X G a1
  have b2 := F2.binds (ps := ["found"]) fun _ _ _ _ _ _ us hl => match us, hl with | [_], _ => rfl
  have g2 := PySem.W.mg_of X G a2
  have b3 := F3.binds (ps := ["_law_script", "_law_at"]) fun _ _ _ _ _ _ us hl => match us, hl with | [_, _], _ => rfl
  have g3 := PySem.W.mg_of X G a3
  have b4 := F4.binds (ps := ["_law_bag_here", "_law_many"]) fun _ _ _ _ _ _ us hl => match us, hl with | [_, _], _ => rfl
  have g4 := PySem.W.mg_of X G a4
  have b5 := F5.binds (ps := ["_law_bag_here", "_law_some"]) fun _ _ _ _ _ _ us hl => match us, hl with | [_, _], _ => rfl
  have g5 := PySem.W.mg_of X G a5
  have b6 := F6.binds (ps := ["_law_bag_here", "_law_many"]) fun _ _ _ _ _ _ us hl => match us, hl with | [_, _], _ => rfl
  have g6 := PySem.W.mg_of X G a6
  have b7 := F7.binds (ps := ["_law_bag_here", "_law_deep", "_law_room", "_law_wanted"]) fun _ _ _ _ _ _ us hl => match us, hl with | [_, _, _, _], _ => rfl
  have g7 := PySem.W.mg_of X G a7
  have hTp : ∀ x : Str, PySem.W.nsIn K mainGlobals x = some none → mg x = none := fun x z => PySem.W.mg_none_of X G z
  refine ⟨PySem.W.fnOf "law" "law" (defArgs sLaw) (defBody sLaw) (defScope sLaw) .none kV8 dc8 pm8 an8 cd8 ct8, fun s v => .of_eq rfl, fun base _ _ => ?_⟩
  have NM : Nm mg := ⟨hTp _ zisinstance, hTp _ zlist, hTp _ ztuple⟩
  have NB : Nb mg := ⟨hTp _ zlen, hTp _ zabs, hTp _ zint⟩
  have NV : Nv mg := ⟨hTp _ zrange⟩
  have GPa : FnOk P w K mg base CX0 1 f0 _ ["thing"] (spParts K) := ok_parts F0 NM
  have GSh := ok_shown (k := 0) F1 NM ⟨hTp _ zrepr⟩ GPa k0 b0 g0
  have GPg := ok_page (k := 1) F2 ⟨hTp _ zsorted, hTp _ zlist⟩ GSh g1 k1 b1
  have GB : FnOk P w K mg base CX0 1 f3 _ ["_law_script", "_law_at"] (spBag K) := ok_bag (k := 0) F3 NB
  have GT : FnOk P w K mg base CX0 1 f4 _ ["_law_bag_here", "_law_many"] spTake := ok_take (k := 0) F4 NB
  have GO := ok_of F5 NB GT g4 k4 b4
  have GX := ok_text F6 NV GT g4 k4 b4
  have GV := ok_values F7 b7 g7 NV ⟨GT, b4, g4, k4, GO, b5, g5, k5, GX, b6, g6, k6⟩ 2
  exact ok_law F8 ⟨hTp _ zmax, hTp _ zmin, hTp _ zrepr, hTp _ zstr⟩ ⟨hTp _ zsorted, hTp _ zlist⟩ NB NV ⟨GB, b3, g3, k3, GT, b4, g4, k4, GO, b5, g5, k5, GV, b7, g7, k7, GPg, b2, g2, k2⟩
end TX
open PySem PySem.W PyProof.Rows
set_option maxRecDepth 100000 in
set_option maxHeartbeats 0 in
theorem PySem.Challenge.cw_textorlist_k64_survey_page_holds : PySem.Challenge.rw_textorlist_k64_survey_page.Holds := by
  w_on; o_law; k_head; (case hw => w_witness2)
  k_fill
  refine TX.walkG (l := PySem.Challenge.rw_textorlist_k64_survey_page) (n := 63) (k := 6) (x := "_law_script") (sp := fun w => TX.spLaw _) rfl (by decide) rfl ⟨rfl, by decide, by decide⟩ (fun w h Y => PySem.W.kIn_of Y) ?F (fun _ _ a ns hl _ hS => ⟨a, ns, rfl, hS, hl, fun _ => rfl⟩)
  case F =>
    intro w mg fa h KX G hmg
    refine' TX.all_mk KX G hmg ?a0 ?l0 ?c0 ?k0 ?a1 ?l1 ?c1 ?k1 ?a2 ?l2 ?c2 ?k2 ?a3 ?l3 ?c3 ?k3 ?a4 ?l4 ?c4 ?k4 ?a5 ?l5 ?c5 ?k5 ?a6 ?l6 ?c6 ?k6 ?a7 ?l7 ?c7 ?k7 ?a8 ?l8 ?c8 ?k8 ?zisinstance ?zlist ?ztuple ?zlen ?zabs ?zint ?zrange ?zsorted ?zmax ?zmin ?zrepr ?zstr
    (case a0 => k_is)
    (case l0 => k_is)
    (case c0 => k_is)
    (case k0 => k_is)
    (case a1 => k_is)
    (case l1 => k_is)
    (case c1 => k_is)
    (case k1 => k_is)
    (case a2 => k_is)
    (case l2 => k_is)
    (case c2 => k_is)
    (case k2 => k_is)
    (case a3 => k_is)
    (case l3 => k_is)
    (case c3 => k_is)
    (case k3 => k_is)
    (case a4 => k_is)
    (case l4 => k_is)
    (case c4 => k_is)
    (case k4 => k_is)
    (case a5 => k_is)
    (case l5 => k_is)
    (case c5 => k_is)
    (case k5 => k_is)
    (case a6 => k_is)
    (case l6 => k_is)
    (case c6 => k_is)
    (case k6 => k_is)
    (case a7 => k_is)
    (case l7 => k_is)
    (case c7 => k_is)
    (case k7 => k_is)
    (case a8 => k_is)
    (case l8 => k_is)
    (case c8 => k_is)
    (case k8 => k_is)
    (case zisinstance => k_is)
    (case zlist => k_is)
    (case ztuple => k_is)
    (case zlen => k_is)
    (case zabs => k_is)
    (case zint => k_is)
    (case zrange => k_is)
    (case zsorted => k_is)
    (case zmax => k_is)
    (case zmin => k_is)
    (case zrepr => k_is)
    (case zstr => k_is)
