import PyProof.Rows.All
import PyProof.ListStr
import HandS.Flow
import HandS.StrMore
import HandS.Iter
import HandS.Walk
import Wide.All
import OpenK.AllK
import Wide.FinOn
import HandS.ForMost
import HandS.Style
import HandS.IsInst
import HandS.ExcInit
import HandS.ExcIs
import HandS.ExcField
import HandS.ForExc
import HandS.TupAny
import PyProof.InstNe
import PyProof.MeetsIn
import PyProof.Rows.Range3
import HandS.OwnEq
import HandS.Small
import KE.KOpsOwn
import HandS.Codes
import PyProof.LongRange
import PyProof.ListMulRight
import HandS.TupLe
import HandS.Star
import HandS.NamedTupSort
import PyProof.Draws
import PyProof.EnumMake
import KE.KIntText
import HandS.SortOrd
import HandS.SortRule
import HandS.SortInts
import PySem.Challenge.RW_textorlist_k03_places_and_parts
set_option Elab.async false
set_option linter.all false
set_option maxRecDepth 100000
set_option maxHeartbeats 4000000
namespace TX
open PySem PySem.Spec PyProof.Rows L2

/-! ### either of two rules -/
section
variable {X : Cx}
theorem pe_alt {e : Expr} {t u : TE} (h1 : PE X e t) (h2 : PE X e u) : PE X e (fun σ H Q => t σ H Q ∨ u σ H Q) :=
  ⟨fun pins s σ H Q I h => h.elim (h1.run pins s σ H Q I) (h2.run pins s σ H Q I)⟩
theorem ps_alt {e : Stmt} {t u : TS} (h1 : PS X e t) (h2 : PS X e u) : PS X e (fun D σ H => t D σ H ∨ u D σ H) :=
  ⟨fun pins s σ H D I h => h.elim (h1.run pins s σ H D I) (h2.run pins s σ H D I)⟩
theorem pi_alt {tg e : Expr} {t u : TI} (h1 : PI X tg e t) (h2 : PI X tg e u) : PI X tg e (fun σ H R => t σ H R ∨ u σ H R) :=
  ⟨fun pins s σ H R I h => h.elim (h1.run pins s σ H R I) (h2.run pins s σ H R I)⟩
end

/-! ### data stays where the heap grows -/
theorem same_sqt {K : PySem.W.Frag} {H H' : Hp} {a : Addr} {xs : List V} (e : Same H H') (h : SqT K H a xs) : SqT K H' a xs := by
  rcases h with (h | ⟨o, h⟩) | h
  · exact .inl (.inl (e _ _ h))
  · exact .inl (.inr ⟨o, e _ _ h⟩)
  · exact .inr h
mutual
theorem dp_same {K : PySem.W.Frag} {H H' : Hp} (e : Same H H') : ∀ (d : PyData) (v : V), Dp K H v d → Dp K H' v d
  | .none, _, h => by cases h; exact .non
  | .bool b, _, h => by cases h; exact .bl b
  | .int i, _, h => by cases h; exact .int i
  | .str x, _, h => by cases h; exact .str x
  | .list xs, _, h => by
    cases h with
    | lst h1 h2 => exact .lst (e.seq h1) (dpAll_same e xs _ h2)
  | .tuple xs, _, h => by
    cases h with
    | tup h1 h2 => exact .tup (same_sqt e h1) (dpAll_same e xs _ h2)
  | .dict _, _, h => nomatch h
theorem dpAll_same {K : PySem.W.Frag} {H H' : Hp} (e : Same H H') : ∀ (ds : List PyData) (vs : List V), DpAll K H vs ds → DpAll K H' vs ds
  | [], _, h => by cases h; exact .nil
  | d :: ds, _, h => by
    cases h with
    | cons h1 h2 => exact .cons (dp_same e d _ h1) (dpAll_same e ds _ h2)
end
theorem DpAll.length {K : PySem.W.Frag} {H : Hp} : ∀ {ds : List PyData} {vs : List V}, DpAll K H vs ds → vs.length = ds.length
  | [], _, h => by cases h; rfl
  | _ :: _, _, h => by
    cases h with
    | cons _ h2 => exact congrArg (· + 1) (DpAll.length h2)
theorem DpAll.append {K : PySem.W.Frag} {H : Hp} : ∀ {ds es : List PyData} {vs ws : List V}, DpAll K H vs ds → DpAll K H ws es → DpAll K H (vs ++ ws) (ds ++ es)
  | [], _, _, _, h, g => by cases h; exact g
  | _ :: _, _, _, _, h, g => by
    cases h with
    | cons h1 h2 => exact .cons h1 (DpAll.append h2 g)
theorem DpAll.split {K : PySem.W.Frag} {H : Hp} : ∀ {ds es : List PyData} {vs : List V}, DpAll K H vs (ds ++ es) → ∃ a b, vs = a ++ b ∧ DpAll K H a ds ∧ DpAll K H b es
  | [], _, vs, h => ⟨[], vs, rfl, .nil, h⟩
  | d :: ds, es, _, h => by
    cases h with
    | cons h1 h2 =>
      obtain ⟨a, b, rfl, ha, hb⟩ := DpAll.split (ds := ds) (es := es) h2
      exact ⟨_ :: a, b, rfl, .cons h1 ha, hb⟩
theorem same_upd {H : Hp} {p : Addr} {o : HO} (h : H p = none) : Same H (upd H p o) := fun b x e => by
  rw [upd_ne (ne_of_none e h)]
  exact e
/-- a fresh place may be written again and again -/
theorem same_fresh {H0 H : Hp} {p : Addr} {o : HO} (h : H0 p = none) (e : Same H0 H) : Same H0 (upd H p o) := fun b x q => by
  rw [upd_ne (ne_of_none q h)]
  exact e b x q

/-! ### the number of parts -/
mutual
def nd : PyData → Nat
  | .list xs => ndAll xs + 1
  | .tuple xs => ndAll xs + 1
  | _ => 1
def ndAll : List PyData → Nat
  | [] => 0
  | d :: ds => nd d + ndAll ds
end
theorem ndAll_append : ∀ (a b : List PyData), ndAll (a ++ b) = ndAll a + ndAll b
  | [], b => by simp [ndAll]
  | d :: a, b => by
    rw [List.cons_append, ndAll, ndAll, ndAll_append a b]
    omega
theorem nd_pos : ∀ d : PyData, 1 ≤ nd d
  | .none => by simp [nd]
  | .bool _ => by simp [nd]
  | .int _ => by simp [nd]
  | .str _ => by simp [nd]
  | .list _ => by simp [nd]
  | .tuple _ => by simp [nd]
  | .dict _ => by simp [nd]
theorem ndAll_len : ∀ ds : List PyData, ds.length ≤ ndAll ds
  | [] => by simp
  | d :: ds => by
    have := ndAll_len ds
    have := nd_pos d
    rw [ndAll, List.length_cons]
    omega

/-! ### what a value's type is, for isinstance -/
/-- the type of a value that represents data -/
def tyD : PyData → String
  | .none => "NoneType"
  | .bool _ => "bool"
  | .int _ => "int"
  | .str _ => "str"
  | .list _ => "list"
  | .tuple _ => "tuple"
  | .dict _ => "dict"
theorem dp_ty {K : PySem.W.Frag} {H : Hp} {v : V} {d : PyData} (h : Dp K H v d) : TyX K H v (.type (tyD d)) := by
  cases h with
  | non => exact .base .non
  | bl b => exact .base (.bl b)
  | int i => exact .base (.int i)
  | str x => exact .base (.str x)
  | lst h1 _ =>
    rcases h1 with (h | ⟨o, h⟩) | ⟨o, its, n, hk, hc, _⟩
    · exact .base (.lst h)
    · exact .base (.frz h)
    · exact .kList hk hc
  | tup h1 _ =>
    rcases h1 with (h | ⟨o, h⟩) | ⟨o, its, n, hk, hc, _⟩
    · exact .base (.tup h)
    · exact .fTuple h
    · exact .kTuple hk hc

/-! ### repr of data -/
section
variable {X : Cx}
def rRepr (K : PySem.W.Frag) : List V → Hp → VK → Prop := fun xs H Q => ∃ v d, xs = [v] ∧ Dp K H v d ∧ d.showable = true ∧ d.hasDict = false ∧ d.depth ≤ 60 ∧ d.shown.length ≤ sizeLine ∧ Q (.str d.shown) H
theorem call_repr (hg : X.A.guards = some []) (hu : X.A.units + 64 < cLine) : CallR X (.builtin "repr") (rRepr X.K) := by
  intro pins s σ H xs us Q I r h
  obtain ⟨v, d, rfl, hd, hs, hn, hz, hl, q⟩ := h
  obtain ⟨u, rfl, rv⟩ := r.one
  have fin : ∀ tk t, EP X pins σ Q (.str d.shown t) { s with toks := tk } := fun tk t => ⟨.str _, H, I.tok tk, ⟨t, rfl⟩, q⟩
  obtain ⟨as, rd⟩ := Dp.reads I d v u hd rv
  cases hd with
  | non =>
    cases rv
    simp only [PyData.shown] at fin
    exact PySem.P.repr_of_none (fin _ _)
  | bl b =>
    cases rv
    simp only [PyData.shown] at fin
    exact PySem.P.repr_of_bool (fin _ _)
  | int i =>
    obtain ⟨t, rfl⟩ := rv
    simp only [PyData.shown] at fin
    exact PySem.P.repr_of_int (by simpa [PyData.showable] using hs) (fin _ _)
  | str x =>
    obtain ⟨t, rfl⟩ := rv
    simp only [PyData.shown] at fin hl
    exact PySem.P.repr_of_str (fin _ _) hl
  | lst h1 h2 =>
    cases rv
    exact repr_of_reads' rd hs (PyData.noDict_hsm hn) hg (by omega) (fun _ _ e => e) (fun h' t tk hk => ⟨.str _, H, I.kept hk, ⟨t, rfl⟩, q⟩) hl
  | tup h1 h2 =>
    cases rv
    exact repr_of_reads' rd hs (PyData.noDict_hsm hn) hg (by omega) (fun _ _ e => e) (fun h' t tk hk => ⟨.str _, H, I.kept hk, ⟨t, rfl⟩, q⟩) hl
end
end TX
namespace TX
open PySem PySem.Spec PyProof.Rows L2
/-! ### a def that is called where nothing is being shown (no repr under way) -/
structure FnG (P : Program) (w : World) (K : PySem.W.Frag) (mg : Str → Option Value) (base : Heap) (C : CXT) (k : Nat) (f : Addr) (fd : FuncData) (ps : List Str) (sp : Sp) : Prop where
  len : ∀ vs H Q E, sp vs H Q E → vs.length = ps.length
  go : ∀ (A : Around), A.guards = some [] → ∀ (outer : List Env) (s : Shared) (H : Hp) (args : Args) (us : List Value) (vs : List V) (Q : VK) (E : XK), Room k A → Env0 P w K mg base A outer s H →
    BindsTo s fd args (ps.zip us) → Vals vs us → sp vs H Q E → codeAny (model P w) A (.call (.ref f) args) (CR C outer P w H s Q E) s
section
variable {P : Program} {w : World} {K : PySem.W.Frag} {mg : Str → Option Value} {base : Heap} {C : CXT} {k : Nat} {f : Addr} {fd : FuncData} {N ps : List Str} {sp : Sp}
theorem fng_of {x qual : Str} {st : Stmt} (F : Fun K x qual st f fd) (S : FnScope N ps (defScope st)) (len : ∀ vs H Q E, sp vs H Q E → vs.length = ps.length)
    (hb : ∀ (cdv : Value) (A : Around) (outer : List Env) (s : Shared) (H : Hp) (vs : List V) (Q : VK) (E : XK), A.guards = some [] → Room k (A.deeper (envOfC qual (defScope st) s.heap.objs.size f cdv)) → sp vs H Q E →
      ∃ t, PSs (cxOf CX0 P w K mg base N qual (defScope st) f cdv A outer s H E).nox (defBody st) t ∧ t { nx := fun _ H' => Q .non H', rt := Q } (start N vs) H) : FnG P w K mg base CX0 (k + 1) f fd ps sp := by
  obtain ⟨oc, od, kV, doc, pm, an, cdv, ct, osl, rfl, lk, hcd⟩ := F.ex
  refine ⟨len, fun A hg outer s H args us vs Q E hr e0 hbd r hsp => ?_⟩
  have up : ∀ b o, base.get? b = some o → s.heap.get? b = some o := fun b o e => (e0.bs b o e).1
  have KX : K.In s.heap := e0.mod.kin.keeps up
  have par : ∀ y ∈ ps.zip us, (defScope st).names.lookup y.1 = some .local ∨ ((defScope st).names.lookup y.1 = some .cell ∧ ((cellsFrom (s.heap.objs.size + 1) (defScope st).names []).lookup y.1).isSome = true) := by
    rintro ⟨n, v⟩ hy
    exact (S.par n (List.of_mem_zip hy).1).imp id fun q => ⟨q, PySem.W.cellsFrom_some _ _ _ (.inl q)⟩
  refine codeAny_call_function hr.depth (KX _ _ lk) rfl S.co S.gen rfl (PySem.W.codeRec_of KX hcd) (hbd _ _ _ _ (wpAny_newFunctionEnv_cells S.kind par fun env he s1 x => ?_))
  cases he
  obtain ⟨t, ht, hq⟩ := hb cdv A outer s H vs Q E hg (hr.deeper _) hsp
  refine ⟨(e0.mod.nolimit.keeps up).keeps x.toInCall.keep, codeAny_func (wpAny_mono (ht.nox.run [] s1 (start N vs) H _ (inv_start S hr.hd e0 (len _ _ _ _ hsp) r x) hq) (fun fl s' hs => ?_) fun e s' hs => hs)⟩
  cases fl with
  | next => exact let ⟨σ', H', J, q⟩ := hs; ⟨.non, H', J.os, J.bare, J.base, J.hok, rfl, q⟩
  | ret u => exact let ⟨v, σ', H', J, rv, q⟩ := hs; ⟨v, H', J.os, J.bare, J.base, J.hok, rv, q⟩
  | brk => exact let ⟨_, _, _, q⟩ := hs; False.elim q
  | cont => exact let ⟨_, _, _, q⟩ := hs; False.elim q
theorem deeper_guards {A : Around} {env : Env} : (A.deeper env).guards = A.guards := rfl
end
section
variable {X : Cx} {C : CXT} {k : Nat} {f : Addr} {fd : FuncData} {ps : List Str} {sp : Sp} {dvs : List V} {ds : List Value} {E : XK} {x : Str} {p pos : Pos} {e : Expr} {es : List Expr} {t : TA}
theorem pe_callG (F : FnG X.prog X.w X.K X.mg X.base C k f fd ps sp) (hgd : X.A.guards = some []) (hr : Room k X.A) (hg : Gl X x) (hm : X.mg x = some (.ref f)) (hk : PySem.W.keepIn X.K (.ref f) = true) (hb : Binds X.K fd ps ds) (hd : Vals dvs ds)
    (hx : Passes C X E) (ha : PA X (e :: es) t) (hdb : (x == ("__debug__" : Str)) = false := by decide) (he : starEach (e :: es) X.env = (false, eval e X.env) :: starEach es X.env := by rfl)
    (hpl : (backTo pos (starEach es X.env)).any (·.1) = false := by rfl) : PE X (.Call (.Name x p) (e :: es) [] pos) (tCall sp dvs E t) := by
  refine ⟨fun pins s σ H Q I h => wpAny_Call_Name_kw (ld_glob I hg hm (PySem.W.callWith_K (h₀ := X.base) I.ok.mod.kin hk (thn (ha.run pos pins s σ H _ I h) fun us s1 h1 => ?_) he hpl) hdb)⟩
  obtain ⟨vs, H1, I1, r, q⟩ := h1
  have r2 := r.append hd
  have hl : (us ++ ds).length = ps.length := r2.length.symm.trans (F.len _ _ _ _ q)
  refine ⟨I1.kIn, wpAny_call (codeAny_mono (F.go X.A hgd X.stack s1 H1 ⟨us, []⟩ _ _ _ _ hr I1.env0 (hb s1 us I1.kIn hl) r2 q) fun r s' hq => ?_)⟩
  cases r with
  | error er => exact hx pins σ H1 s1 er s' I1 hq
  | ok fl => cases fl with
    | ret u => exact I1.after hq
    | next => exact hq.elim
    | brk => exact hq.elim
    | cont => exact hq.elim
end
/-- the law's def, called by the claim -/
theorem lawG {P : Program} {w : World} {K : PySem.W.Frag} {mg mb : Str → Option Value} {k : Nat} {fa a : Addr} {fd : FuncData} {x : Str} {sp : Sp} {s₁ : Shared} {vs : List Value} {ns : List Int}
    (KX : K.In s₁.heap) (hns : s₁.heap.Ns mainGlobals mg) (hb : s₁.heap.Ns builtinsNs mb) (hbb : ∀ x : Str, x ≠ "__name__" → mb x = bootBuiltins x) (hlim : s₁.heap.NoLimit) (hg : s₁.gens = #[])
    (ha : s₁.heap.get? a = some { cls := .type "list", data := .seq vs.toArray }) (hi : IntsAre vs ns) (hl : ns.length ≤ sizeLine) (hr : Room k callerA)
    (F : ∀ base : Heap, K.In base → base.Ns mainGlobals mg → FnG P w K mg base CX0 k fa fd [x] sp) (hbind : ∀ (s : Shared) (u : Value), BindsTo s fd ⟨[u], []⟩ [(x, u)])
    (hsp : ∀ H : Hp, Only H → SqL K H a (ns.map V.int) → sp [.ref a] H (fun v _ => v = .bl true) fun _ _ _ => False) :
    codeAny (model P w) callerA (.call (.ref fa) ⟨[.ref a], []⟩) (fun r s' => r = .ok (.ret (.bool true)) ∧ OldK s₁.heap s'.heap ∧ s'.os = s₁.os ∧ AllBare s'.gens) s₁ := by
  have rv := vals_ints hi
  have lenV := hi.length
  have main : ∀ H : Hp, Only H → SqL K H a (ns.map V.int) → HOk P w H s₁.heap → (∀ b, H b ≠ none → b = a) → (H a ≠ none → K.lookup a = none) →
      codeAny (model P w) callerA (.call (.ref fa) ⟨[.ref a], []⟩) (fun r s' => r = .ok (.ret (.bool true)) ∧ OldK s₁.heap s'.heap ∧ s'.os = s₁.os ∧ AllBare s'.gens) s₁ := by
    intro H hO hS hok hA hK
    have atA : ∀ {b : Addr} {u : HO}, H b = some u → b = a := fun q => hA _ (by rw [q]; exact fun z => nomatch z)
    have noD : ∀ {b : Addr} {o : Obj} {es : Array DictEntry} {ep : Nat}, s₁.heap.get? b = some o → o.data = .dict es ep → H b = none := by
      intro b o es ep e d
      cases q : H b with
      | none => rfl
      | some u =>
        cases atA q
        rw [ha] at e
        cases e
        exact absurd d (fun z => nomatch z)
    have nsK : ∀ {b : Addr} {m : Str → Option Value}, s₁.heap.Ns b m → (hidT s₁.heap H).Ns b m := fun ⟨o, es, ep, e, d, r⟩ => ⟨o, es, ep, hidT_get e (noD e d), d, r⟩
    have hKb : K.In (hidT s₁.heap H) := by
      intro b o e
      refine hidT_get (KX b o e) ?_
      cases q : H b with
      | none => rfl
      | some u =>
        cases atA q
        rw [hK (by rw [q]; exact fun z => nomatch z)] at e
        cases e
    have hM : Mod K mg (hidT s₁.heap H) := ⟨hKb, nsK hns, ⟨mb, nsK hb, hbb⟩, let ⟨mc, h1, h2⟩ := hlim; ⟨mc, nsK h1, h2⟩⟩
    have e0 : Env0 P w K mg (hidT s₁.heap H) callerA [] s₁ H := ⟨rfl, hM, fun b o e => of_hidT e, Nat.le_of_eq (hidT_size _ _), trivial, fun b hb => (nomatch hb), hok, .of_eq hg⟩
    refine codeAny_mono ((F _ hKb (nsK hns)).go callerA rfl [] s₁ H ⟨[.ref a], []⟩ [.ref a] [.ref a] _ _ hr e0 (hbind s₁ (.ref a)) (.cons rfl .nil) (hsp H hO hS)) fun r s' h => ?_
    cases r with
    | error e => exact (show False from h).elim
    | ok fl => cases fl with
      | next => exact h.elim
      | brk => exact h.elim
      | cont => exact h.elim
      | ret u =>
        obtain ⟨v, H', os, bare, un, hok', r', q⟩ := h
        cases (show v = .bl true from q)
        cases (show u = Value.bool true from r')
        refine ⟨rfl, OldK.of_keep fun b o e => ?_, os, bare⟩
        cases q : H b with
        | none => exact un.keep b o e q (fun z => nomatch z) (fun z => nomatch z)
        | some u =>
          rcases hO b with z | ⟨ob, xs, z⟩
          · rw [q] at z
            cases z
          · obtain ⟨e1, _⟩ := hok b _ z
            obtain ⟨e2, _⟩ := hok' b _ (un.frzs b ob _ z)
            rw [e] at e1
            cases e1
            exact e2
  cases hk : K.lookup a with
  | some o =>
    have e := KX a o hk
    rw [ha] at e
    cases e
    exact main (fun _ => none) (fun _ => .inl rfl) (.inr ⟨_, vs.toArray, _, hk, rfl, rfl, rfl, by rw [List.size_toArray, lenV]; exact hl, by simpa using rv⟩) (fun b u z => nomatch z) (fun b z => absurd rfl z) fun z => absurd rfl z
  | none =>
    refine main (fun b => if b = a then some (.frz { cls := .type "list", data := .seq vs.toArray } (.lst (ns.map V.int))) else none) (fun b => ?_) (.inl (.inr ⟨{ cls := .type "list", data := .seq vs.toArray }, if_pos rfl⟩)) (fun b u z => ?_) (fun b z => ?_) fun _ => hk
    · by_cases hb : b = a
      · exact .inr ⟨_, _, if_pos hb⟩
      · exact .inl (if_neg hb)
    · by_cases hb : b = a
      · cases hb
        cases (if_pos rfl).symm.trans z
        exact ⟨ha, by rw [List.length_map]; exact hl, vs, _, rv, ha⟩
      · cases (if_neg hb).symm.trans z
    · exact Classical.byContradiction fun hb => z (if_neg hb)
theorem walkG {l : PySem.W.OpenLaw} {n k : Nat} {q : Program} {loose : List Str} {XP : (Str → Option Value) → Heap → Prop} {YP : World → Heap → Prop} {d : DefRec} {K : Params → PySem.W.Frag} {sp : World → Sp} {x : Str}
    (hn : l.most = some n) (hn2 : n ≤ sizeLine) (hdf : d.params.defaults = []) (hr : Room k callerA) (hY : ∀ (w : World) (h : Heap), YP w h → (K w.params).In h)
    (F : ∀ (w : World) (mg : Str → Option Value) (fa : Addr) (h : Heap), (K w.params).In h → h.Ns mainGlobals mg → mg d.name = some (.ref fa) →
      ∃ fd : FuncData, (∀ (s : Shared) (u : Value), BindsTo s fd ⟨[u], []⟩ [(x, u)]) ∧ ∀ base : Heap, (K w.params).In base → base.Ns mainGlobals mg → FnG l.prog w (K w.params) mg base CX0 k fa fd [x] (sp w))
    (hsp : ∀ (w : World) (H : Hp) (a : Addr) (ns : List Int), ns.length ≤ n → Only H → SqL (K w.params) H a (ns.map V.int) → sp w [.ref a] H (fun v _ => v = .bl true) fun _ _ _ => False) :
    PySem.W.WalkO q loose XP YP l.row.toRowW d [] (fun f vs => PySem.call f vs) := by
  refine Att.attach_call hn hdf fun w s₀ s₁ mg mb fa o pm cd doc a vs ns G Y ho hd hcd hmg hobj hints hlen hg => ?_
  obtain ⟨fd, hb, hF⟩ := F w mg fa _ (hY w _ Y) G.T.g hmg
  exact lawG (hY w _ Y) G.T.g G.T.b G.T.builtins G.T.nolimit hg hobj hints (Nat.le_trans hlen hn2) hr hF hb fun H hO hS => hsp w H a ns hlen hO hS
end TX
namespace TX
open PySem PySem.Spec PyProof.Rows L2
section
variable {prog : Program} {w : World} {A : Around} {E : Value → Shared → Prop} {s : Shared}
theorem slAdj_back (n : Nat) : Builtin.Slice.sliceAdjust none none (-1) (n : Int) = ((n : Int) - 1, -1) := rfl
theorem slPl_back (n : Nat) : Builtin.Slice.slicePlaces ((n : Int) - 1) (-1) (-1) = n := by
  unfold Builtin.Slice.slicePlaces
  rw [if_neg (by decide)]
  split
  · have e : -(-1 : Int) = 1 := by decide
    rw [e, Int.ediv_one]
    omega
  · omega
theorem slApp_back {sl : Addr} {n : Nat} {u : Tok} {Q : Int × Int × Nat → Shared → Prop} (hs : s.heap.IsSliceOf sl .none .none (.int (-1) u)) (h : Q ((n : Int) - 1, -1, n) s) :
    wpAny (model prog w) A (Builtin.Slice.sliceApplied (.ref sl) (pure (n : Int))) Q E s := by
  obtain ⟨os, g1, g2, g3⟩ := hs
  unfold Builtin.Slice.sliceApplied Builtin.Slice.sliceFields
  refine wpAny_bind (wpAny_bind (wpAny_field g1 g3 (x := .none) rfl (wpAny_bind (wpAny_field g1 g3 (x := .none) rfl (wpAny_bind (wpAny_field g1 g3 (x := .int (-1) u) rfl (wpAny_pure ?_)))))))
  refine wpAny_bind (slicePart_int ?_)
  show wpAny _ _ (if ((-1 : Int) == 0) = true then _ else _) _ _ s
  rw [if_neg (by decide)]
  refine wpAny_bind (slicePart_none (wpAny_bind (slicePart_none (wpAny_bind (wpAny_pure ?_)))))
  show wpAny _ _ (match Builtin.Slice.sliceAdjust none none (-1) (n : Int) with | (lo, hi) => pure (lo, (-1 : Int), Builtin.Slice.slicePlaces lo hi (-1))) _ _ s
  rw [slAdj_back]
  show wpAny _ _ (pure ((n : Int) - 1, (-1 : Int), Builtin.Slice.slicePlaces ((n : Int) - 1) (-1) (-1))) _ _ s
  rw [slPl_back]
  exact wpAny_pure h
theorem fm_congr {f g : Nat → Option Value} : ∀ l : List Nat, (∀ k ∈ l, f k = g k) → l.filterMap f = l.filterMap g
  | [], _ => rfl
  | k :: l, h => by
    rw [List.filterMap_cons, List.filterMap_cons, h k List.mem_cons_self, fm_congr l fun j hj => h j (List.mem_cons_of_mem _ hj)]
theorem pick_back (l : List Value) : ((List.range l.length).filterMap fun (k : Nat) => l.toArray[(((l.length : Nat) : Int) - 1 + (k : Int) * (-1)).toNat]?) = l.reverse := by
  have e : ∀ k ∈ List.range l.length, (fun (k : Nat) => l.toArray[(((l.length : Nat) : Int) - 1 + (k : Int) * (-1)).toNat]?) k = (some ∘ fun k => (l.reverse[k]?).getD .none) k := by
    intro k hk
    have hk' := List.mem_range.mp hk
    have e1 : (((l.length : Nat) : Int) - 1 + (k : Int) * (-1)).toNat = l.length - 1 - k := by omega
    show l.toArray[(((l.length : Nat) : Int) - 1 + (k : Int) * (-1)).toNat]? = some ((l.reverse[k]?).getD .none)
    rw [e1, List.getElem?_toArray, List.getElem?_reverse (by omega), List.getElem?_eq_getElem (by omega)]
    rfl
  rw [fm_congr _ e, List.filterMap_eq_map]
  apply List.ext_getElem?
  intro i
  rw [List.getElem?_map]
  by_cases h : i < l.length
  · rw [List.getElem?_range h, List.getElem?_eq_getElem (by simpa using h)]
    simp [List.getElem?_eq_getElem, h]
  · rw [List.getElem?_eq_none (by simpa using h), List.getElem?_eq_none (by simpa using h)]
    rfl
/-- t[::-1] of a tuple -/
theorem getItem_tuple_back {t sl : Addr} {items : List Value} {u : Tok} {Q : Value → Shared → Prop} (ht : IsTup s.heap t items.toArray) (hs : s.heap.IsSliceOf sl .none .none (.int (-1) u))
    (h : Q (.ref s.heap.objs.size) { s with heap := s.heap.push { cls := .type "tuple", data := .seq items.reverse.toArray } }) (hsz : items.length ≤ sizeLine) : wpAny (model prog w) A (getItem (.ref t) (.ref sl)) Q E s := by
  have hTs : s.TypeIs (.ref sl) "slice" := let ⟨os, g1, g2, _⟩ := hs; ⟨os, g1, g2⟩
  have hfit : sizeOk (.seq items.reverse.toArray) := by
    show items.reverse.toArray.size ≤ sizeLine
    rw [List.size_toArray, List.length_reverse]
    exact hsz
  unfold getItem
  try with_reducible refine wpAny_holding ?_
  first | refine wpAny_bind (wpAny_pure ?_) | skip
  refine wpAny_bind (wpAny_sequenceKey ht.typeIs (by decide) ?_)
  refine wpAny_bind (wpAny_callSpecial?_slot (name := Str.ofString "__getitem__") ht.typeIs PyProof.Rows.slot_tuple_getitem (wpAny_call_entry PyProof.Rows.slot_tuple_getitem ht.typeIs entry_tuple_getitem ?_ (args_tuple_getitem _ _)))
  show wpAny _ _ (Builtin.Tuple.tupleItemsOf (.ref t) >>= _) _ _ s
  refine wpAny_bind (tupleItemsOf_ ht (wpAny_bind (wpAny_typeOf hTs ?_)))
  rw [if_pos (by decide)]
  refine wpAny_bind (slApp_back hs ?_)
  have no : ¬ ((((items.toArray.size : Nat) : Int) - 1 == 0 && (-1 : Int) == 1 && items.toArray.size == items.toArray.size) = true) := by
    intro q
    rw [Bool.and_eq_true, Bool.and_eq_true] at q
    exact absurd (eq_of_beq q.1.2) (by decide)
  show wpAny _ _ (if (((items.toArray.size : Nat) : Int) - 1 == 0 && (-1 : Int) == 1 && items.toArray.size == items.toArray.size) = true then _ else _) _ _ s
  rw [if_neg no]
  have e : ((List.range items.toArray.size).filterMap fun (k : Nat) => items.toArray[(((items.toArray.size : Nat) : Int) - 1 + (k : Int) * (-1)).toNat]?) = items.reverse := by
    rw [List.size_toArray]
    exact pick_back items
  rw [e]
  first
    | exact wpAny_bind (m := Builtin.Tuple.tupleExact _) (wpAny_newObj_type (wpAny_pure ⟨_, rfl, wpAny_pure h⟩) hfit)
    | exact wpAny_bind (m := Builtin.Tuple.tupleExact _) (wpAny_newObj_type (wpAny_bind (wpAny_pure (wpAny_pure ⟨_, rfl, wpAny_pure h⟩))) hfit)
    | exact wpAny_bind (wpAny_bind (m := Builtin.Tuple.tupleExact _) (wpAny_newObj_type (wpAny_pure (wpAny_pure ⟨_, rfl, wpAny_pure h⟩)) hfit))
    | exact wpAny_bind (wpAny_bind (m := Builtin.Tuple.tupleExact _) (wpAny_newObj_type (wpAny_pure ⟨_, rfl, wpAny_pure h⟩) hfit))
end
section
variable {X : Cx}
def tRevT (K : PySem.W.Frag) (te : TE) : TE := fun σ H Q => te σ H fun x H1 => ∃ a xs, x = .ref a ∧ SqT K H1 a xs ∧ ∀ p, H1 p = none → Q (.ref p) (upd H1 p (.tup xs.reverse))
theorem pe_revT {e : Expr} {te : TE} {k : Nat} {p1 p2 p3 pos : Pos} (he : PE X e te) : PE X (.Subscript e (.Slice none none (some (.UnaryOp .USub (.Constant (.int 1) k p1) p2)) p3) pos) (tRevT X.K te) := by
  refine ⟨fun pins s σ H Q I h => Subscript_ (thn (he.run pins s σ H _ I h) fun v s1 ⟨x, H1, I1, r1, a, xs, ex, hx, q⟩ => ?_)⟩
  subst ex
  cases r1
  have hst : PO X (some (.UnaryOp .USub (.Constant (.int 1) k p1) p2)) (tPart (tUn (rU fun i => .int (-i)) (tC (.int 1)))) := po_some (pe_un un_neg pe_int)
  refine wpAny_Slice (thn (po_none.run pins s1 σ H1 (fun o H2 => o = none ∧ H2 = H1) I1 ⟨rfl, rfl⟩) fun vl s2 ⟨l, H2, I2, pl, el, e2⟩ => ?_)
  subst el e2
  refine thn (po_none.run pins s2 σ H2 (fun o H3 => o = none ∧ H3 = H2) I2 ⟨rfl, rfl⟩) fun vu s3 ⟨u, H3, I3, pu, eu, e3⟩ => ?_
  subst eu e3
  refine thn (hst.run pins s3 σ H3 (fun o H4 => o = some (-1) ∧ H4 = H3) I3 ⟨1, rfl, -1, rfl, rfl, rfl⟩) fun vs s4 ⟨o, H4, I4, ps, eo, e4⟩ => ?_
  subst eo e4
  have I5 : Inv X pins σ H4 { s4 with heap := s4.heap.push { cls := .type "slice", data := .fields #[vl, vu, vs] } } := I4.kept (t' := s4.toks) fun b ob q => Heap.get?_push_of_some _ q
  obtain ⟨its, r, ht, hz⟩ := I5.tuple hx
  have hlen := r.length
  cases pl
  cases pu
  obtain ⟨tk, rfl⟩ : ∃ tk, vs = .int (-1) tk := by
    cases ps
    exact ⟨_, rfl⟩
  show wpAny (model X.prog X.w) X.A (subscriptTail e (.Slice none none (some (.UnaryOp .USub (.Constant (.int 1) k p1) p2)) p3) (.ref a) (.ref s4.heap.objs.size)) (EP X pins σ Q) X.xe { s4 with heap := s4.heap.push { cls := .type "slice", data := .fields #[.none, .none, .int (-1) tk] } }
  refine tail_any (ops := [.ref a, .ref s4.heap.objs.size]) ht.typeIs PyProof.Rows.slot_tuple_getitem.lookup ?_ (by with_unfolding_all rfl)
  refine getItem_tuple_back ht (Heap.IsSliceOf.new _ _ _ _) ?_ (by omega)
  refine ⟨.ref _, _, I5.laid (t' := s4.toks) (o := .tup xs.reverse) (fun b ob q => Heap.get?_push_of_some _ q) (Nat.le_refl _) ?_, rfl, q _ (I5.hok.fresh (Nat.le_refl _))⟩
  exact ⟨by rw [List.length_reverse]; exact hz, _, r.reverse, ⟨_, Heap.get?_push_size _ rfl, rfl, _, rfl⟩⟩
end
theorem ext_tup (l : Addr) (items : Array Value) (n : Nat) (b : Addr) (items2 : Array Value) (n2 : Nat) (dd : Option Addr) (sl : Array (Option Value)) (hs0 : ¬(!items.isEmpty && Builtin.List.listTooLong (items.size + items2.size)) = true)
    (hs1 : items.size ≤ sizeLine) (hs2 : items.size + items2.size ≤ sizeLine + 1) :
    Meets (Builtin.«list.extend» ⟨[.ref l, .ref b], []⟩) (fun _ R s => s.heap.get? l = some { cls := .type "list", dict := none, data := .seq items n, slots := #[] } ∧ s.heap.get? b = some { cls := .type "tuple", dict := dd, data := .seq items2 n2, slots := sl } ∧
      R (.ok (.ret Value.none)) { s with heap := s.heap.update l (Obj.mapSeq fun x => x ++ items2), toks := s.toks }) :=
  .of_wp fun prog w A R s h => by
    obtain ⟨hp, g, d, tk, os⟩ := s
    obtain ⟨hl, hb, h⟩ := h
    have f1 := AutoSeq1.idx_int
    have f2 := AutoSeq1.sub_tuple_tuple
    have f3 := AutoSeq1.sub_list_list
    have f4 := AutoSeq1.sub_tuple_list
    have f5 := AutoSeq1.sub_list_tuple
    have hz' : (items ++ items2).size ≤ sizeLine + 1 := by
      rw [Array.size_append]
      exact hs2
    wp_walk using (wpAny_updateSeq hl rfl (hz := hs1) (_hz' := hz')), AutoSeq1.wpAny_loadPart' hl, AutoSeq1.wpAny_loadPart' hb
    exact ⟨_, rfl, h⟩
section
variable {X : Cx}
def rExtT (K : PySem.W.Frag) : V → List V → Hp → VK → Prop := fun x vs H Q => ∃ l b xs zs, x = .ref l ∧ vs = [.ref b] ∧ H l = some (.lst xs) ∧ SqT K H b zs ∧ xs.length + zs.length ≤ sizeLine ∧ Q .non (upd H l (.lst (xs ++ zs)))
theorem mt_extT : MtM X "list.extend" (rExtT X.K) := by
  intro pins s σ H x vs v us Q I rx rv h
  obtain ⟨l, b, xs, zs, rfl, rfl, hH, hB, hz, q⟩ := h
  cases rx
  obtain ⟨u, rfl, ru⟩ := rv.one
  cases ru
  obtain ⟨z, its, n, r, hl, e⟩ := I.lstM hH
  obtain ⟨its2, r2, ⟨⟨cls, dd, data, sl⟩, e2, hc, n2, hd⟩, hz2⟩ := I.tuple hB
  simp only at hc hd
  subst hc hd
  have hl2 := r2.length
  have hsz : its.toArray.size + its2.toArray.size ≤ sizeLine := by
    rw [List.size_toArray, List.size_toArray]
    omega
  have hlong : ¬ (!its.toArray.isEmpty && Builtin.List.listTooLong (its.toArray.size + its2.toArray.size)) = true := by
    rw [notLongL hsz, Bool.and_false]
    exact Bool.false_ne_true
  refine call_meets F.slot_list_extend ⟨_, e, rfl⟩ F.entry_list_extend (F.args_list_extend_2 _ _) (ext_tup l its.toArray n b its2.toArray n2 dd sl hlong (by rw [List.size_toArray]; omega) (by omega)) ⟨e, e2, ?_⟩
  refine ⟨.non, _, I.lset (its' := its ++ its2) hH e (by simp) (r.append r2) ?_, rfl, q⟩
  rw [List.length_append]
  omega
end
end TX
namespace TX
open PySem PySem.Spec PySem.Calls PyProof.Rows L2
open PySem.W (Frag InstAt findIn subIn hasDictIn specialIn takesIn mroIn clsIn Looks looks_findIn looks_find looks_subIn KitX)
section
variable {prog : Program} {w : World} {A : Around} {E : Value → Shared → Prop} {s : Shared} {K : Frag} {x D : Addr} {ox : Obj} {od : Option Obj}
theorem clsSome {D : Addr} (h : hasDictIn K D = true) : (clsIn K D).isSome = true := by
  unfold hasDictIn at h
  cases e : clsIn K D with
  | none => rw [e] at h; cases h
  | some c => rfl
theorem findData {C : Addr} {name : Str} {a g : Value} (hc : (clsIn K C).isSome = true) (ha : findIn K (.ref C) name = some (some a)) (hg : specialIn K a "__get__" = some (some g)) (ht : takesIn K a = some true) :
    PySem.W.findObj K C od name = some (.bind g a) := by
  obtain ⟨cd, hc⟩ := Option.isSome_iff_exists.mp hc
  simp [PySem.W.findObj, hc, ha, hg, ht]
/-- e.__class__ of an exception of an own class, with or without a dict of its own -/
theorem classOf {Q : Option Value → Shared → Prop} (T : ExcC K D) (X : K.In s.heap) (I : InstAt s.heap x ox D od) (h : Q (some (.ref D)) { s with toks := s.toks + 1 }) : wpAny (model prog w) A (getAttr? (.ref x) "__class__") Q E s := by
  have hf : PySem.W.findObj K D od "__class__" = some (.bind (.builtin "getset_descriptor.__get__") (.builtin "object.__class__")) := findData (clsSome T.hd) T.ha T.hn T.ht
  obtain ⟨hp, g, d, t, os⟩ := s
  have L0 := I.type (M := model prog w)
  have L1 := looks_findIn (M := model prog w) X T.hg
  have L2 := looks_findIn (M := model prog w) X T.hk
  have L3 := looks_find (M := model prog w) X I hf
  have sub : Looks (model prog w) hp (isInstance (.ref x) (.type "BaseException")) true := L0.andThen (looks_subIn X T.hs)
  have n0 : (false && onTheHeap (Value.builtin "BaseException.__getattribute__")) = false := rfl
  have n2 : (Value.builtin "BaseException.__getattribute__" == Value.builtin "object.__getattribute__") = false := by decide +kernel
  have n1 : (onTheHeap (Value.ref D) && Value.builtin "BaseException.__getattribute__" == Value.builtin "object.__getattribute__") = false := by
    rw [n2]
    rfl
  unfold getAttr? getAttrBy? getAttrBy
  refine wpAny_bind (wpAny_mkText (wpAny_bind (wpAny_attempt (wpAny_holding (wpAny_bind (L0.at (wpAny_bind (L1.at ?_))))))))
  show wpAny _ _ (if (onTheHeap (Value.ref D) && Value.builtin "BaseException.__getattribute__" == Value.builtin "object.__getattribute__") = true then _ else _) _ _ _
  rw [n1, if_neg Bool.false_ne_true]
  unfold getAttrByItsOwn hookBefore
  refine wpAny_bind ?_
  rw [if_pos (show onTheHeap (Value.ref D) = true from rfl)]
  refine L2.at (wpAny_bind (wpAny_attempt (wpAny_holding ?_)))
  unfold callGetattribute
  rw [n0, if_neg Bool.false_ne_true]
  unfold boundAndCalled
  rw [PySem.F.excAttr_ValueError.ga.bind (.ref x)]
  refine wpAny_bind (wpAny_pure ?_)
  show wpAny _ _ (call (.builtin "BaseException.__getattribute__") [.ref x, .str "__class__" t]) _ _ _
  refine wpAny_call (codeAny_call_builtin PySem.F.excAttr_ValueError.ga.plain PySem.F.entry_bexc_ga ?_)
  refine @PySem.W.check_slot (model prog w) _ _ ⟨hp, g, d, t + 1, os⟩ "BaseException.__getattribute__" "BaseException" "__getattribute__" (.ref x) [.str "__class__" t] [] _ (by decide +kernel) (by decide +kernel) sub (PySem.F.args_bexc_ga (.ref x) (.str "__class__" t)) ?_
  unfold Builtin.«object.__getattribute__»
  refine wpAny_bind (wpAny_of_eq (a := ((Value.ref x : Value), [Value.str "__class__" t])) (by first | rfl | (simp only [slotArgs]; rfl)) ?_)
  refine wpAny_bind (wpAny_pure (wpAny_bind (L0.at (wpAny_bind (L3.at ?_)))))
  show wpAny _ _ (holding [Value.builtin "object.__class__"] (call (.builtin "getset_descriptor.__get__") [.builtin "object.__class__", .ref x, .ref D]) >>= ret) _ _ _
  refine wpAny_bind (wpAny_holding (wpAny_call (PySem.W.class_get (s := ⟨hp, g, d, t + 1, os⟩) (ox := ox) (od := od) X I T.hm (wpAny_pure ?_))))
  show wpAny _ _ (handedOut (.ref D)) _ _ _
  rw [PySem.W.handedOut_of (v := .ref D) rfl]
  first
    | exact wpAny_pure (wpAny_pure h)
    | exact wpAny_pure h
    | exact wpAny_pure (wpAny_bind (wpAny_pure (wpAny_pure h)))
theorem kitE (T : ExcC K D) : KitX K (.ref x) (.ref D) (fun h => InstAt h x ox D od) where
  ty := fun _ _ _ I => I.type
  it := fun _ _ X _ => by
    obtain ⟨cd, hc⟩ := Option.isSome_iff_exists.mp (clsSome T.hd)
    unfold clsIn at hc
    split at hc
    · rename_i c' d' cd' sl' ho
      intro A' Q' E' s' k q
      unfold isType loadHead
      exact wpAny_bind (wpAny_loadPart (k _ _ (X _ _ ho)) (wpAny_pure q))
    · cases hc
  ne := fun h tp dd its n sl X htp => by
    obtain ⟨cd, hc⟩ := Option.isSome_iff_exists.mp (clsSome T.hd)
    refine Bool.eq_false_iff.mpr fun q => ?_
    have e : D = tp := Value.ref.inj (beq_iff_eq.mp q)
    subst e
    unfold clsIn at hc
    split at hc
    · rename_i c' d' cd' sl' ho
      have z := (X _ _ ho).symm.trans htp
      cases z
    · cases hc
  ca := fun X I k => classOf T X I k
end
/-- the exception that the suite holds, as the state has it -/
theorem atE {X : Cx} {pins : List (Addr × Obj)} {σ : L2.St} {H : Hp} {s : Shared} {a D : Addr} {oe : Obj} {d : Option Addr} {pn : List (Addr × Obj)} (I : Inv (X.suite a ((a, oe) :: pn)) pins σ H s) (hz : Zc (.ref D) d oe) (hf : ∃ vs, oe.data = .fields vs)
    (hd : ∀ dd, d = some dd → ∃ fs, H dd = some (.xd fs)) : ∃ od, InstAt s.heap a oe D od := by
  obtain ⟨hget, _⟩ := I.pin (a, oe) (List.mem_append.mpr (.inl List.mem_cons_self))
  obtain ⟨vs, hv⟩ := hf
  obtain ⟨oc, odd, oda, osl⟩ := oe
  obtain ⟨h1, h2⟩ := hz
  dsimp only at h1 h2 hv
  subst h1 h2 hv
  cases odd with
  | none => exact ⟨none, hget, rfl, rfl, trivial⟩
  | some dd =>
    obtain ⟨fs, hx⟩ := hd dd rfl
    have ob : ObjOk X.prog X.w H s.heap dd (.xd fs) := I.hok dd _ hx
    obtain ⟨mA, ⟨o, es, ep, ho, _⟩, _⟩ := ob
    exact ⟨some o, hget, rfl, rfl, ho⟩
/-- isinstance(e, c) -/
def rIsE2 (K : Frag) (D a : Addr) (d : Option Addr) : List V → Hp → VK → Prop := fun xs H Q => ∃ (c : V) (cv : Value) (b : Bool), xs = [.ref a, c] ∧ ClsV c cv ∧ PySem.W.kitOne K (.ref D) cv = some b ∧ (∀ dd, d = some dd → ∃ fs, H dd = some (.xd fs)) ∧ Q (.bl b) H
theorem call_isE2 {X : Cx} {a D : Addr} {oe : Obj} {d : Option Addr} {pn : List (Addr × Obj)} (C : ExcC X.K D) (hz : Zc (.ref D) d oe) (hf : ∃ vs, oe.data = .fields vs) : CallR (X.suite a ((a, oe) :: pn)) (.builtin "isinstance") (rIsE2 X.K D a d) := by
  intro pins s σ H xs us Q I r h
  obtain ⟨c, cv, b, rfl, hcv, e, hd, q⟩ := h
  obtain ⟨u1, u2, rfl, r1, r2⟩ := vals2 r
  cases (show u1 = Value.ref a from r1)
  cases hcv.eq r2
  obtain ⟨od, J⟩ := atE I hz hf hd
  exact PySem.W.kia_one (kitE C) I.kIn J e (fun z => nomatch z) fun tk => ⟨.bl b, H, I.tok tk, rfl, q⟩
/-- isinstance(e, (c1, c2, ..)) -/
def rIsET (K : Frag) (D a : Addr) (d : Option Addr) : List V → Hp → VK → Prop := fun xs H Q => ∃ (tp : Addr) (cs : List V) (us : List Value) (b : Bool), xs = [.ref a, .ref tp] ∧ H tp = some (.tup cs) ∧ Paired ClsV cs us ∧ PySem.W.kitAny K (.ref D) us = some b ∧
  (∀ dd, d = some dd → ∃ fs, H dd = some (.xd fs)) ∧ Q (.bl b) H
theorem call_isET {X : Cx} {a D : Addr} {oe : Obj} {d : Option Addr} {pn : List (Addr × Obj)} (C : ExcC X.K D) (hz : Zc (.ref D) d oe) (hf : ∃ vs, oe.data = .fields vs) : CallR (X.suite a ((a, oe) :: pn)) (.builtin "isinstance") (rIsET X.K D a d) := by
  intro pins s σ H xs us Q I r h
  obtain ⟨tp, cs, ws, b, rfl, hT, k, e, hd, q⟩ := h
  obtain ⟨u1, u2, rfl, r1, r2⟩ := vals2 r
  cases (show u1 = Value.ref a from r1)
  cases (show u2 = Value.ref tp from r2)
  obtain ⟨_, its, rv, o, h1, h2, n, h3⟩ := (show ObjOk X.prog X.w H s.heap tp (.tup cs) from I.hok tp _ hT)
  cases ClsV.all k rv
  obtain ⟨oc, odd, dt, sl⟩ := o
  simp only at h2 h3
  subst h2 h3
  obtain ⟨od, J⟩ := atE I hz hf hd
  exact PySem.W.kia_tup (kitE C) I.kIn J h1 e (fun z => nomatch z) fun tk => ⟨.bl b, H, I.tok tk, rfl, q⟩
/-! ### X(), an own exception class whose __init__ stores nothing -/
def tMkN (C : Addr) (sp : Sp) : L2.St → Hp → XK → Prop := fun _ H Q => ∀ a, H a = none → sp [.ref a] (upd H a (exo a C none)) (fun v H2 => v = .non ∧ H2 a = some (exo a C none) ∧ Q (.ref C) none (del H2 a)) (fun _ _ _ => False)
theorem pmk_oexN {X : Cx} {CX : CXT} {x : Str} {C fI : Addr} {k : Nat} {fd : FuncData} {ps : List Str} {sp : Sp} {p pos : Pos} (T : OexC X.K C) (iC : findIn X.K (.ref C) "__init__" = some (some (.ref fI))) (tI : PySem.W.typeIn X.K (.ref fI) = some (.type "function"))
    (F1 : FnOk X.prog X.w X.K X.mg X.base CX k fI fd ps sp) (hr : Room (k + 1) X.A) (hb : Binds X.K fd ps []) (hx : Passes CX X (fun _ _ _ => False)) (hg : Gl X x) (hm : X.mg x = some (.ref C)) (hdb : (x == ("__debug__" : Str)) = false := by decide) :
    PMk X (.Call (.Name x p) [] [] pos) (tMkN C sp) := by
  intro pins s σ H Q I h
  obtain ⟨nm, q, N, bs, bm, sn, sub, ab, col, dd, k0, k1, k2, k3, k5, hC, hbm⟩ := T.cls
  refine wpAny_Call_Name_kw (ld_glob I hg hm (PySem.W.callWith_K0 I.kIn T.kC ?_) hdb)
  obtain ⟨hp, g, dr, tk, os⟩ := s
  have hsz : hp.objs.size ≤ hp.objs.size + 1 := Nat.le_succ _
  have hn : H (hp.objs.size + 1) = none := I.hok.fresh hsz
  have hq := h (hp.objs.size + 1) hn
  have kk : ∀ b o, hp.get? b = some o → ((hp.push (PySem.W.kdv_tup [])).push (PySem.HandSPX.excO C hp.objs.size)).get? b = some o := fun b o e => Heap.get?_push_of_some _ (Heap.get?_push_of_some _ e)
  have hget : ((hp.push (PySem.W.kdv_tup [])).push (PySem.HandSPX.excO C hp.objs.size)).get? (hp.objs.size + 1) = some (PySem.HandSPX.excO C hp.objs.size) := by heap_get
  have I2 : Inv X pins σ (upd H (hp.objs.size + 1) (exo (hp.objs.size + 1) C none)) ⟨(hp.push (PySem.W.kdv_tup [])).push (PySem.HandSPX.excO C hp.objs.size), g, dr, tk, os⟩ :=
    I.laid (t' := tk) (a := hp.objs.size + 1) (o := exo (hp.objs.size + 1) C none) (h' := (hp.push (PySem.W.kdv_tup [])).push (PySem.HandSPX.excO C hp.objs.size)) kk hsz (exo_ok hget)
  have r2 : Vals [V.ref (hp.objs.size + 1)] [Value.ref (hp.objs.size + 1)] := .cons rfl .nil
  have hl : ([Value.ref (hp.objs.size + 1)] ++ ([] : List Value)).length = ps.length := (F1.len _ _ _ _ hq).symm ▸ rfl
  refine wpAny_call (PySem.HandSPX.call_own F.excBase_ValueError (fun Y => PySem.HandSPX.refsVE_contains Y bm hbm) (I.kIn _ _ hC) (looks_findIn I.kIn iC) (fun self => PySem.W.bind_fn I.kIn self tI) (by show 0 ≤ sizeLine; exact Nat.zero_le _)
    (codeAny_mono (F1.run _ X.stack _ _ ⟨[Value.ref (hp.objs.size + 1)], []⟩ [Value.ref (hp.objs.size + 1)] _ _ (fun _ _ _ => False) (hr.make C [] []) (I2.env0.make C [] []) (hb _ [Value.ref (hp.objs.size + 1)] I2.kIn hl) r2 hq) fun r s' hq' => ?_))
  cases r with
  | error er => exact hx pins σ _ _ er s' I2 hq'
  | ok fl => cases fl with
    | next => exact False.elim hq'
    | brk => exact False.elim hq'
    | cont => exact False.elim hq'
    | ret u =>
      obtain ⟨v, H2, os2, bare2, un2, hok2, rv, ev, ea, q2⟩ := hq'
      subst ev
      refine ⟨rv, ?_⟩
      obtain ⟨h2, g2, d2, t2, os'⟩ := s'
      generalize hA : hp.objs.size + 1 = a at *
      obtain ⟨t0, hoe⟩ := exo_at hok2 ea
      obtain ⟨G, g1', g2'⟩ := restrict h2 fun b => decide (b ≠ a)
      have gk : ∀ b, b ≠ a → G.get? b = h2.get? b := fun b hb => g1' b (decide_eq_true hb)
      have ge : G.get? a = none := g2' a (by simp)
      have nha : ∀ {b : Addr} {o : Obj}, hp.get? b = some o → b ≠ a := fun {b o} z => Nat.ne_of_lt (Nat.lt_of_lt_of_le (Heap.lt_size z) hsz)
      have up : ∀ {b : Addr}, b ≠ a → H b = none → upd H a (exo a C none) b = none := fun {b} hb n => by
        rw [upd_ne hb]
        exact n
      have U : Un (frs X.stack) [] H (del H2 a) hp G := {
        keep := fun b o z n hf hx => (gk b (nha z)).trans (un2.keep b o (kk b o z) (up (nha z) n) hf hx)
        slot := fun b o z n hf hx => by
          rw [gk b (nha z)]
          exact un2.slot b o (kk b o z) (up (nha z) n) hf hx
        free := fun b o z n hx => by
          rw [del_ne (nha z)]
          exact un2.free b o (kk b o z) (up (nha z) n) hx
        there := fun b o z hx => by
          rw [gk b (nha z)]
          exact un2.there b o (kk b o z) hx
        tups := fun b xs z => by
          rw [del_ne (ne_of_none z hn)]
          exact un2.tups b xs (by rw [upd_ne (ne_of_none z hn)]; exact z)
        frzs := fun b o v z => by
          rw [del_ne (ne_of_none z hn)]
          exact un2.frzs b o v (by rw [upd_ne (ne_of_none z hn)]; exact z)
        tbls := fun b ps z => by
          rw [del_ne (ne_of_none z hn)]
          exact un2.tbls b ps (by rw [upd_ne (ne_of_none z hn)]; exact z) }
      have hok3 : HOk X.prog X.w (del H2 a) G := fun b o z => by
        have hba : b ≠ a := fun e => by
          rw [e, del_same] at z
          cases z
        rw [del_ne hba] at z
        have noa : ∀ {c : Addr}, H2 c = some (.own b) → c ≠ a := fun {c} hc => at_ne ea hc exo_own
        refine (hok2 b o z).stay (fun c v hc y => ?_) (fun c hc => by rw [del_ne (noa hc)]; exact hc) (fun c xs hc => by rw [del_ne (at_ne ea hc exo_tup)]; exact hc)
        have hca : c ≠ a := hc.elim (fun e => e ▸ hba) noa
        exact (gk c hca).trans y
      have J : Inv X pins σ (del H2 a) ⟨G, g2, d2, t2, os'⟩ := I.call' (ch := []) os2 U hok3 bare2 (fun b z => absurd z (by simp))
      refine ⟨a, _, _, ⟨G, g2, d2, t2, os'⟩, _, .ref C, none, rfl, J, fun b o z => ?_, ge, hoe, ⟨rfl, rfl⟩, rfl, rfl, del_same, rfl, bare2, raises_own T.exC T.tyC, q2⟩
      by_cases hba : b = a
      · rw [hba] at z
        have z' : G.get? a = some o := z
        rw [ge] at z'
        cases z'
      · exact (gk b hba).symm.trans z
end TX
namespace TX
open PySem PySem.Spec PyProof.Rows L2
def top (i : Nat) : Stmt := PySem.Challenge.pw_textorlist_k03_places_and_parts.main.body.getD i (.Pass ⟨0, 0, 0, 0⟩)
abbrev sParts : Stmt := top 1
abbrev sCopy : Stmt := top 2
abbrev cTextorlistError : Stmt := top 4
abbrev cBadValue : Stmt := top 5
abbrev mBadValue_init : Stmt := inClass (top 5) 0
abbrev mBadValue_str : Stmt := inClass (top 5) 1
abbrev cNoPlace : Stmt := top 6
abbrev mNoPlace_init : Stmt := inClass (top 6) 0
abbrev mNoPlace_str : Stmt := inClass (top 6) 1
abbrev s_is_whole_number : Stmt := top 8
abbrev s_inner_of : Stmt := top 9
abbrev s_places_of : Stmt := top 10
abbrev s_found_at : Stmt := top 11
abbrev s_part_of : Stmt := top 12
abbrev s_is_torn : Stmt := top 13
abbrev sBag : Stmt := top 15
abbrev sTake : Stmt := top 16
abbrev sText : Stmt := top 17
abbrev sSize : Stmt := top 18
abbrev sValue : Stmt := top 19
abbrev sGreat : Stmt := top 20
abbrev s__law_rows : Stmt := top 21
abbrev sSpoil : Stmt := top 22
abbrev s__law_asked : Stmt := top 23
abbrev s__law_thing : Stmt := top 24
abbrev sLaw : Stmt := top 25
end TX
namespace TX
open PySem PySem.Spec PyProof.Rows L2
/-! ### the walk over data: a step takes the first of the parts that wait -/
inductive Stp (K : PySem.W.Frag) (H : Hp) : List V × List PyData → V → List V × List PyData → Prop
  | leaf {v : V} {d : PyData} {r : List V} {rd : List PyData} : Dp K H v d → (tyD d == "list" || tyD d == "tuple") = false → Stp K H (v :: r, d :: rd) v (r, rd)
  | lst {a : Addr} {xs r : List V} {es rd : List PyData} : SqL K H a xs → DpAll K H xs es → Stp K H (.ref a :: r, .list es :: rd) (.ref a) (xs ++ r, es ++ rd)
  | tup {a : Addr} {xs r : List V} {es rd : List PyData} : SqT K H a xs → DpAll K H xs es → Stp K H (.ref a :: r, .tuple es :: rd) (.ref a) (xs ++ r, es ++ rd)
/-- the parts so far, the last one first -/
inductive Path (K : PySem.W.Frag) (H : Hp) (S0 : List V × List PyData) : List V → List V × List PyData → Prop
  | nil : Path K H S0 [] S0
  | cons {rs : List V} {S S' : List V × List PyData} {p : V} : Path K H S0 rs S → Stp K H S p S' → Path K H S0 (p :: rs) S'
theorem isLT (d : PyData) (K : PySem.W.Frag) : PySem.W.kitAny K (.type (tyD d)) [.type "list", .type "tuple"] = some (tyD d == "list" || tyD d == "tuple") := by
  cases d with
  | none => exact kitAny_cons (b := false) (kit_ty (a := "NoneType") (b := "list") (by decide +kernel)) (fun _ => kitAny_cons (b := false) (kit_ty (a := "NoneType") (b := "tuple") (by decide +kernel)) (fun _ => kitAny_nil) (fun z => nomatch z)) (fun z => nomatch z)
  | bool _ => exact kitAny_cons (b := false) (kit_ty (a := "bool") (b := "list") (by decide +kernel)) (fun _ => kitAny_cons (b := false) (kit_ty (a := "bool") (b := "tuple") (by decide +kernel)) (fun _ => kitAny_nil) (fun z => nomatch z)) (fun z => nomatch z)
  | int _ => exact kitAny_cons (b := false) (kit_ty (a := "int") (b := "list") (by decide +kernel)) (fun _ => kitAny_cons (b := false) (kit_ty (a := "int") (b := "tuple") (by decide +kernel)) (fun _ => kitAny_nil) (fun z => nomatch z)) (fun z => nomatch z)
  | str _ => exact kitAny_cons (b := false) (kit_ty (a := "str") (b := "list") (by decide +kernel)) (fun _ => kitAny_cons (b := false) (kit_ty (a := "str") (b := "tuple") (by decide +kernel)) (fun _ => kitAny_nil) (fun z => nomatch z)) (fun z => nomatch z)
  | dict _ => exact kitAny_cons (b := false) (kit_ty (a := "dict") (b := "list") (by decide +kernel)) (fun _ => kitAny_cons (b := false) (kit_ty (a := "dict") (b := "tuple") (by decide +kernel)) (fun _ => kitAny_nil) (fun z => nomatch z)) (fun z => nomatch z)
  | list _ => exact kitAny_cons (b := true) (kit_ty (a := "list") (b := "list") (by decide +kernel)) (fun z => nomatch z) (fun _ => rfl)
  | tuple _ => exact kitAny_cons (b := false) (kit_ty (a := "tuple") (b := "list") (by decide +kernel)) (fun _ => kitAny_cons (b := true) (kit_ty (a := "tuple") (b := "tuple") (by decide +kernel)) (fun z => nomatch z) (fun _ => rfl)) (fun z => nomatch z)
/-- what the walk asks of the names of the top -/
structure Nm (mg : Str → Option Value) : Prop where
  isi : mg "isinstance" = none
  lst : mg "list" = none
  tpl : mg "tuple" = none
def spParts (K : PySem.W.Frag) : Sp := fun vs H Q _ => ∃ (v : V) (d : PyData) (Hv : Hp), vs = [v] ∧ Same Hv H ∧ Dp K Hv v d ∧ nd d ≤ 1000000 ∧
  ∀ (H' : Hp) (p : Addr) (rs : List V), Same H H' → H p = none → H' p = some (.lst rs.reverse) → Path K Hv ([v], [d]) rs ([], []) → rs.length = nd d → Q (.ref p) H'
section
variable {P : Program} {w : World} {K : PySem.W.Frag} {mg : Str → Option Value} {base : Heap}
theorem scParts : FnScope ["thing", "waiting", "parts", "part"] ["thing"] (defScope sParts) := ⟨rfl, rfl, rfl, by decide +kernel, rfl, by decide +kernel, by decide +kernel⟩
theorem ok_parts {f : Addr} {fd : FuncData} {k : Nat} (F : Fun K "all_parts" "all_parts" sParts f fd) (T : Nm mg) : FnOk P w K mg base CX0 (k + 1) f fd ["thing"] (spParts K) := by
  refine F.ok scParts (fun vs H Q E h => ?_) (fun cdv A outer s H vs Q E hr h => ?_)
  · obtain ⟨v, d, Hv, rfl, _⟩ := h
    rfl
  · obtain ⟨v, d, Hv, rfl, sv, hd, hn, q⟩ := h
    refine ⟨_, pss_cons (ps_set (i := 1) scParts.nd rfl (.inl rfl) (pe_lst (pa_cons (pv 0) pa_nil)))
      (pss_cons (ps_set (i := 2) scParts.nd rfl (.inl rfl) (pe_lst pa_nil))
      (pss_cons (ps_while PassesOwn.never (pt_truth (pv 1) (by intro _; rfl))
        (pss_cons (ps_set (i := 3) scParts.nd rfl (.inl rfl) (pe_bm0 PySem.F.plainAttrs_list PySem.F.slot_list_pop PySem.F.type_list_pop mt_pop (pv 1)))
        (pss_cons (ps_expr (pe_bm PySem.F.plainAttrs_list PySem.F.slot_list_append PySem.F.type_list_append mt_append (pv 2) (pa_cons (pv 3) pa_nil)))
        (pss_one (ps_if (pt_val (pe_callB call_isiT (by rfl) T.isi (by decide +kernel) (pa_cons (pv 3) (pa_cons (pe_tup (pa_cons (pe_bltn (v := .ty "list") (by rfl) T.lst (by decide +kernel) rfl) (pa_cons (pe_bltn (v := .ty "tuple") (by rfl) T.tpl (by decide +kernel) rfl) pa_nil))) pa_nil))))
          (pss_one (ps_alt (ps_expr (pe_bm PySem.F.plainAttrs_list PySem.F.slot_list_extend PySem.F.type_list_extend mt_extend (pv 1) (pa_cons (pe_revL (pv 3)) pa_nil)))
            (ps_expr (pe_bm PySem.F.plainAttrs_list PySem.F.slot_list_extend PySem.F.type_list_extend mt_extT (pv 1) (pa_cons (pe_revT (pv 3)) pa_nil)))))
          pss_nil)))))
      (pss_one (ps_ret (pv 2))))), ?_⟩
    refine ⟨_, rfl, (by show 1 ≤ sizeLine; decide), fun wa nwa => ⟨by decide, fun pa npa => ?_⟩⟩
    have nwa' : pa ≠ wa := fun e => by
      rw [e, upd_same] at npa
      cases npa
    have npa0 : H pa = none := by
      rw [upd_ne nwa'] at npa
      exact npa
    -- the invariant
    refine ⟨fun m σ H1 => ∃ (rs : List V) (S : List V × List PyData) (y : Option V), σ = [some v, some (.ref wa), some (.ref pa), y] ∧ Same H H1 ∧ H1 wa = some (.lst S.1.reverse) ∧ H1 pa = some (.lst rs.reverse) ∧
      DpAll K Hv S.1 S.2 ∧ Path K Hv ([v], [d]) rs S ∧ rs.length + ndAll S.2 = nd d ∧ m = ndAll S.2, ⟨_, [], ([v], [d]), none, rfl, (same_upd nwa).trans (same_upd npa), ?_, upd_same, .cons hd .nil, .nil, ?_, rfl⟩, ?_⟩
    · rw [upd_ne nwa'.symm, upd_same]
      rfl
    · simp [ndAll]
    rintro m σ H1 ⟨rs, ⟨vs, ds⟩, y, rfl, sm, hw, hp, hS, hP, hc, rfl⟩
    refine ⟨_, rfl, _, .inl ⟨_, SqL.of hw, rfl⟩, ?_⟩
    cases hS with
    | nil =>
      -- nothing waits any more
      refine iteF ?_
      refine ⟨_, rfl, q H1 pa rs sm npa0 hp hP ?_⟩
      simpa [ndAll] using hc
    | @cons v1 r1 d1 rd1 h1 h2 =>
      have hne : (!((v1 :: r1, d1 :: rd1) : List V × List PyData).1.reverse.isEmpty) = true := by simp
      rw [hne]
      refine iteT ?_
      have hlen : rs.length + (nd d1 + ndAll rd1) = nd d := by simpa [ndAll] using hc
      have hrl : rs.length ≤ 1000000 := by omega
      have hvl : r1.length ≤ ndAll rd1 := by
        have e := DpAll.length h2
        have e2 := ndAll_len rd1
        omega
      refine ⟨fun σ' H2 => ∃ (S' : List V × List PyData), σ' = [some v, some (.ref wa), some (.ref pa), some v1] ∧ Same H H2 ∧ H2 wa = some (.lst S'.1.reverse) ∧ H2 pa = some (.lst (v1 :: rs).reverse) ∧ DpAll K Hv S'.1 S'.2 ∧ Stp K Hv (v1 :: r1, d1 :: rd1) v1 S' ∧ ndAll S'.2 + 1 = nd d1 + ndAll rd1, ?_, ?_⟩
      · rintro σ' H2 ⟨S', rfl, g1, g2, g3, g4, g5, g6⟩
        exact ⟨_, by simp only [ndAll]; omega, v1 :: rs, S', _, rfl, g1, g2, g3, g4, .cons hP g5, by rw [List.length_cons]; omega, rfl⟩
      -- part = waiting.pop()
      have ep : ((v1 :: r1, d1 :: rd1) : List V × List PyData).1.reverse = r1.reverse ++ [v1] := by simp
      rw [ep] at hw
      refine ⟨_, rfl, .inl ⟨rfl, _, SqL.of hw⟩, wa, _, v1, rfl, rfl, hw, by simp, ?_⟩
      rw [List.dropLast_concat]
      have sm1 : Same H (upd H1 wa (.lst r1.reverse)) := same_fresh nwa sm
      have hp1 : (upd H1 wa (.lst r1.reverse)) pa = some (.lst rs.reverse) := by
        rw [upd_ne nwa']
        exact hp
      -- parts.append(part)
      refine ⟨_, rfl, .inl ⟨rfl, _, SqL.of hp1⟩, _, rfl, pa, _, _, rfl, rfl, hp1, Nat.lt_of_le_of_lt (by simpa using hrl) (by decide), ?_⟩
      have sm2 := same_fresh (o := .lst (rs.reverse ++ [v1])) npa0 sm1
      have hw2 : (upd (upd H1 wa (.lst r1.reverse)) pa (.lst (rs.reverse ++ [v1]))) wa = some (.lst r1.reverse) := by
        rw [upd_ne nwa'.symm, upd_same]
      have hp2 : (upd (upd H1 wa (.lst r1.reverse)) pa (.lst (rs.reverse ++ [v1]))) pa = some (.lst (rs.reverse ++ [v1])) := upd_same
      -- if isinstance(part, (list, tuple))
      refine ⟨_, rfl, by decide, fun tp ntp => ?_⟩
      have t1 : wa ≠ tp := ne_of_none hw2 ntp
      have t2 : pa ≠ tp := ne_of_none hp2 ntp
      have sm3 : Same H (upd (upd (upd H1 wa (.lst r1.reverse)) pa (.lst (rs.reverse ++ [v1]))) tp (.tup [.ty "list", .ty "tuple"])) := sm2.trans (same_upd ntp)
      have hw3 : (upd (upd (upd H1 wa (.lst r1.reverse)) pa (.lst (rs.reverse ++ [v1]))) tp (.tup [.ty "list", .ty "tuple"])) wa = some (.lst r1.reverse) := by
        rw [upd_ne t1]
        exact hw2
      have hp3 : (upd (upd (upd H1 wa (.lst r1.reverse)) pa (.lst (rs.reverse ++ [v1]))) tp (.tup [.ty "list", .ty "tuple"])) pa = some (.lst (rs.reverse ++ [v1])) := by
        rw [upd_ne t2]
        exact hp2
      refine ⟨v1, tp, _, .type (tyD d1), [.type "list", .type "tuple"], _, rfl, upd_same, .cons (.ty _) (.cons (.ty _) .nil), dp_ty (dp_same (sv.trans sm3) _ _ h1), isLT d1 K, _, rfl, ?_⟩
      have er : (v1 :: rs).reverse = rs.reverse ++ [v1] := by simp
      generalize hG : upd (upd (upd H1 wa (.lst r1.reverse)) pa (.lst (rs.reverse ++ [v1]))) tp (.tup [.ty "list", .ty "tuple"]) = G at sm3 hw3 hp3
      -- what the reversed part puts behind
      have go : ∀ (rp : Addr) (o : HO) (xs : List V) (es : List PyData), G rp = none → DpAll K Hv xs es → nd d1 = ndAll es + 1 → Stp K Hv (v1 :: r1, d1 :: rd1) v1 (xs ++ r1, es ++ rd1) →
          ∃ S' : List V × List PyData, Same H (upd (upd G rp o) wa (.lst (r1.reverse ++ xs.reverse))) ∧ (upd (upd G rp o) wa (.lst (r1.reverse ++ xs.reverse))) wa = some (.lst S'.1.reverse) ∧
            (upd (upd G rp o) wa (.lst (r1.reverse ++ xs.reverse))) pa = some (.lst (v1 :: rs).reverse) ∧ DpAll K Hv S'.1 S'.2 ∧ Stp K Hv (v1 :: r1, d1 :: rd1) v1 S' ∧ ndAll S'.2 + 1 = nd d1 + ndAll rd1 := by
        intro rp o xs es nrp hxs hnd hst
        refine ⟨(xs ++ r1, es ++ rd1), same_fresh nwa (sm3.trans (same_upd nrp)), ?_, ?_, DpAll.append hxs h2, hst, ?_⟩
        · rw [upd_same]
          simp
        · rw [upd_ne nwa', upd_ne (ne_of_none hp3 nrp), er]
          exact hp3
        · show ndAll (es ++ rd1) + 1 = _
          rw [ndAll_append]
          omega
      have fit : ∀ (xs : List V) (es : List PyData), DpAll K Hv xs es → nd d1 = ndAll es + 1 → r1.reverse.length + xs.reverse.length ≤ sizeLine := by
        intro xs es hxs hnd
        have e1 := DpAll.length hxs
        have e2 := ndAll_len es
        rw [List.length_reverse, List.length_reverse]
        exact Nat.le_trans (show r1.length + xs.length ≤ 1000000 by omega) (by decide)
      have wne : ∀ {rp : Addr}, G rp = none → wa ≠ rp := fun h => ne_of_none hw3 h
      have leafy : (tyD d1 == "list" || tyD d1 == "tuple") = false → nd d1 = 1 → if (tyD d1 == "list" || tyD d1 == "tuple") = true then False else ∃ S' : List V × List PyData, Same H G ∧ G wa = some (.lst S'.1.reverse) ∧ G pa = some (.lst (v1 :: rs).reverse) ∧ DpAll K Hv S'.1 S'.2 ∧ Stp K Hv (v1 :: r1, d1 :: rd1) v1 S' ∧ ndAll S'.2 + 1 = nd d1 + ndAll rd1 := by
        intro e1 e2
        rw [e1]
        refine iteF ⟨(r1, rd1), sm3, hw3, by rw [er]; exact hp3, h2, .leaf h1 e1, ?_⟩
        show ndAll rd1 + 1 = _
        omega
      cases h1 with
      | non => exact let ⟨S', g⟩ := leafy rfl rfl; ⟨S', rfl, g⟩
      | bl b => exact let ⟨S', g⟩ := leafy rfl rfl; ⟨S', rfl, g⟩
      | int i => exact let ⟨S', g⟩ := leafy rfl rfl; ⟨S', rfl, g⟩
      | str x => exact let ⟨S', g⟩ := leafy rfl rfl; ⟨S', rfl, g⟩
      | @lst a xs es g1 g2 =>
        refine iteT (.inl ?_)
        refine ⟨_, rfl, .inl ⟨rfl, _, SqL.of hw3⟩, _, rfl, a, xs, rfl, (sv.trans sm3).seq g1, fun rp nrp => ?_⟩
        obtain ⟨S', g⟩ := go rp (.lst xs.reverse) xs es nrp g2 rfl (.lst g1 g2)
        exact ⟨wa, rp, _, _, rfl, rfl, by rw [upd_ne (wne nrp)]; exact hw3, upd_same, fit xs es g2 rfl, S', rfl, g⟩
      | @tup a xs es g1 g2 =>
        refine iteT (.inr ?_)
        refine ⟨_, rfl, .inl ⟨rfl, _, SqL.of hw3⟩, _, rfl, a, xs, rfl, same_sqt (sv.trans sm3) g1, fun rp nrp => ?_⟩
        obtain ⟨S', g⟩ := go rp (.tup xs.reverse) xs es nrp g2 rfl (.tup g1 g2)
        exact ⟨wa, rp, _, _, rfl, rfl, by rw [upd_ne (wne nrp)]; exact hw3, .inl (.inl upd_same), fit xs es g2 rfl, S', rfl, g⟩
end
end TX
namespace TX
open PySem PySem.Spec PyProof.Rows L2
/-- what is new behind H, but the place x -/
def newB (H : Hp) (x : Addr) (H' : Hp) : Hp := fun b => if b = x then none else match H b with
  | none => H' b
  | some _ => none
def newp (H H' : Hp) : Hp := fun b => match H b with
  | none => H' b
  | some _ => none
theorem newp_at {H H' : Hp} {b : Addr} (h : H b = none) : newp H H' b = H' b := by
  unfold newp
  rw [h]
theorem newp_old {H H' : Hp} {b : Addr} {o : HO} (h : H b = some o) : newp H H' b = none := by
  unfold newp
  rw [h]
theorem newp_less {H H1 H2 : Hp} (h : Same H H1) : Same (newp H1 H2) (newp H H2) := fun b o e => by
  cases h1 : H1 b with
  | some u =>
    rw [newp_old h1] at e
    cases e
  | none =>
    rw [newp_at h1] at e
    rw [newp_at (h.free h1)]
    exact e
theorem newB_newp {H H' : Hp} {x : Addr} : Same (newB H x H') (newp H H') := fun b o e => by
  unfold newB at e
  by_cases hb : b = x
  · rw [if_pos hb] at e
    cases e
  · rw [if_neg hb] at e
    exact e
theorem newp_same {H H' : Hp} : Same (newp H H') H' := fun b o e => by
  cases h : H b with
  | none =>
    rw [newp_at h] at e
    exact e
  | some u =>
    rw [newp_old h] at e
    cases e
theorem newB_at {H H' : Hp} {x b : Addr} (h : H b = none) (hx : b ≠ x) : newB H x H' b = H' b := by
  unfold newB
  rw [if_neg hx, h]
theorem newB_mono {H H1 H2 : Hp} {x : Addr} (h : ∀ b o, b ≠ x → H1 b = some o → H2 b = some o) : Same (newB H x H1) (newB H x H2) := fun b o e => by
  by_cases hb : b = x
  · unfold newB at e
    rw [if_pos hb] at e
    cases e
  · cases hh : H b with
    | none =>
      rw [newB_at hh hb] at e ⊢
      exact h b o hb e
    | some u =>
      unfold newB at e
      rw [if_neg hb, hh] at e
      cases e
/-- a leaf is data in any heap -/
theorem dp_leaf {K : PySem.W.Frag} {H H' : Hp} {v : V} {d : PyData} (h : Dp K H v d) (e : (tyD d == "list" || tyD d == "tuple") = false) : Dp K H' v d := by
  cases h with
  | non => exact .non
  | bl b => exact .bl b
  | int i => exact .int i
  | str x => exact .str x
  | lst _ _ => simp [tyD] at e
  | tup _ _ => simp [tyD] at e
def spCopy (K : PySem.W.Frag) : Sp := fun vs H Q _ => ∃ (v : V) (d : PyData) (Hv : Hp), vs = [v] ∧ Same Hv H ∧ Dp K Hv v d ∧ nd d ≤ 1000000 ∧
  ∀ (H' : Hp) (v' : V), Same H H' → Dp K (newp H H') v' d → Q v' H'
theorem kit1 (d : PyData) (K : PySem.W.Frag) : PySem.W.kitOne K (.type (tyD d)) (.type "tuple") = some (tyD d == "tuple") := by
  cases d with
  | none => exact (kit_ty (a := "NoneType") (b := "tuple") (r := false) (by decide +kernel)).trans (by simp [tyD])
  | bool _ => exact (kit_ty (a := "bool") (b := "tuple") (r := false) (by decide +kernel)).trans (by simp [tyD])
  | int _ => exact (kit_ty (a := "int") (b := "tuple") (r := false) (by decide +kernel)).trans (by simp [tyD])
  | str _ => exact (kit_ty (a := "str") (b := "tuple") (r := false) (by decide +kernel)).trans (by simp [tyD])
  | list _ => exact (kit_ty (a := "list") (b := "tuple") (r := false) (by decide +kernel)).trans (by simp [tyD])
  | tuple _ => exact (kit_ty (a := "tuple") (b := "tuple") (r := true) (by decide +kernel)).trans (by simp [tyD])
  | dict _ => exact (kit_ty (a := "dict") (b := "tuple") (r := false) (by decide +kernel)).trans (by simp [tyD])
theorem rev_drop {c : List V} {j : Nat} {y : V} (h : c[j]? = some y) : (c.drop j).reverse = (c.drop (j + 1)).reverse ++ [y] := by
  obtain ⟨hj, e⟩ := List.getElem?_eq_some_iff.mp h
  rw [List.drop_eq_getElem_cons hj, e]
  simp
theorem path_count {K : PySem.W.Frag} {Hv : Hp} {S0 : List V × List PyData} : ∀ {rs : List V} {S : List V × List PyData}, Path K Hv S0 rs S → rs.length + ndAll S.2 = ndAll S0.2
  | _, _, .nil => by simp
  | _, _, .cons hP hs => by
    have ih := path_count hP
    cases hs with
    | @leaf v0 d0 r0 rd0 h e =>
      have one : nd d0 = 1 := by
        cases h with
        | non => rfl
        | bl b => rfl
        | int i => rfl
        | str x => rfl
        | lst _ _ => simp [tyD] at e
        | tup _ _ => simp [tyD] at e
      simp only [ndAll, one] at ih
      rw [List.length_cons]
      dsimp only
      omega
    | lst h g =>
      simp only [ndAll, nd] at ih
      rw [List.length_cons, ndAll_append]
      omega
    | tup h g =>
      simp only [ndAll, nd] at ih
      rw [List.length_cons, ndAll_append]
      omega
section
variable {P : Program} {w : World} {K : PySem.W.Frag} {mg : Str → Option Value} {base : Heap}
theorem scCopy : FnScope ["thing", "done", "part", "made", "_"] ["thing"] (defScope sCopy) := ⟨rfl, rfl, rfl, by decide +kernel, rfl, by decide +kernel, by decide +kernel⟩
theorem ok_copy {f fP : Addr} {fd fdP : FuncData} {k : Nat} (F : Fun K "copy_of" "copy_of" sCopy f fd) (T : Nm mg) (FP : Fun K "all_parts" "all_parts" sParts fP fdP) (bP : Binds K fdP ["thing"] []) (gP : mg "all_parts" = some (.ref fP)) :
    FnOk P w K mg base CX0 (k + 2) f fd ["thing"] (spCopy K) := by
  have GP : FnOk P w K mg base CX0 (k + 1) fP fdP ["thing"] (spParts K) := ok_parts FP T
  refine F.ok scCopy (fun vs H Q E h => ?_) (fun cdv A outer s H vs Q E hr h => ?_)
  · obtain ⟨v, d, Hv, rfl, _⟩ := h
    rfl
  · obtain ⟨v, d, Hv, rfl, sv, hd, hn, q⟩ := h
    refine ⟨_, pss_cons (ps_if (pt_not (pt_val (pe_callB call_isiT (by rfl) T.isi (by decide +kernel) (pa_cons (pv 0) (pa_cons (pe_tup (pa_cons (pe_bltn (v := .ty "list") (by rfl) T.lst (by decide +kernel) rfl) (pa_cons (pe_bltn (v := .ty "tuple") (by rfl) T.tpl (by decide +kernel) rfl) pa_nil))) pa_nil))))) (pss_one (ps_ret (pv 0))) pss_nil) <| pss_cons (ps_set (i := 1) scCopy.nd rfl (.inr rfl) (pe_lst pa_nil))
      (pss_cons (ps_for PassesOwn.never rfl (pi_list (pe_revL (pe_call GP hr (by rfl) gP FP.kp bP .nil pass0 (pa_cons (pv 0) pa_nil)))) (pg_name (i := 2) scCopy.nd rfl (.inl rfl))
        (pss_cons (ps_set (i := 3) scCopy.nd rfl (.inl rfl) (pv 2))
        (pss_cons (ps_if (pt_val (pe_callB call_isiT (by rfl) T.isi (by decide +kernel) (pa_cons (pv 2) (pa_cons (pe_tup (pa_cons (pe_bltn (v := .ty "list") (by rfl) T.lst (by decide +kernel) rfl) (pa_cons (pe_bltn (v := .ty "tuple") (by rfl) T.tpl (by decide +kernel) rfl) pa_nil))) pa_nil))))
          (pss_one (ps_alt
            (ps_setLc (i := 3) (own := [("_", 4)]) (g := gName 4) (tt := tYes) (te := tBM0 K "list" rPop (tVar 1)) rfl scCopy.nd rfl rfl (sw_true rfl rfl rfl (by decide +kernel)) (pi_list (pv 2)) (blkOk_by (N := ["thing", "done", "part", "made", "_"]) (sc := defScope sCopy) (by decide +kernel))
              (fun _ _ _ _ _ => pg_name (i := 4) scCopy.nd rfl (Or.inl rfl)) (fun _ _ _ _ _ => pts_nil) (fun _ _ _ _ _ => pe_bm0 PySem.F.plainAttrs_list PySem.F.slot_list_pop PySem.F.type_list_pop mt_pop (pv 1)))
            (ps_setLc (i := 3) (own := [("_", 4)]) (g := gName 4) (tt := tYes) (te := tBM0 K "list" rPop (tVar 1)) rfl scCopy.nd rfl rfl (sw_true rfl rfl rfl (by decide +kernel)) (pi_tup (pv 2)) (blkOk_by (N := ["thing", "done", "part", "made", "_"]) (sc := defScope sCopy) (by decide +kernel))
              (fun _ _ _ _ _ => pg_name (i := 4) scCopy.nd rfl (Or.inl rfl)) (fun _ _ _ _ _ => pts_nil) (fun _ _ _ _ _ => pe_bm0 PySem.F.plainAttrs_list PySem.F.slot_list_pop PySem.F.type_list_pop mt_pop (pv 1)))))
          pss_nil)
        (pss_cons (ps_if (pt_val (pe_callB call_isi (by rfl) T.isi (by decide +kernel) (pa_cons (pv 2) (pa_cons (pe_bltn (v := .ty "tuple") (by rfl) T.tpl (by decide +kernel) rfl) pa_nil))))
          (pss_one (ps_set (i := 3) scCopy.nd rfl (.inl rfl) (pe_callTy call_tuple_of (by rfl) T.tpl (by decide +kernel) (pa_cons (pv 3) pa_nil))))
          pss_nil)
        (pss_one (ps_expr (pe_bm PySem.F.plainAttrs_list PySem.F.slot_list_append PySem.F.type_list_append mt_append (pv 1) (pa_cons (pv 3) pa_nil))))))))
      (pss_one (ps_ret (pe_ix ix_list (pv 1) pe_int (fun _ _ => rfl))))), ?_⟩
    refine ⟨_, rfl, by decide, fun tp0 ntp0 => ?_⟩
    refine ⟨v, tp0, _, .type (tyD d), [.type "list", .type "tuple"], _, rfl, upd_same, .cons (.ty _) (.cons (.ty _) .nil), dp_ty (dp_same (sv.trans (same_upd ntp0)) _ _ hd), isLT d K, _, rfl, ?_⟩
    have q2 : ∀ (H' : Hp) (v' : V), Same (upd H tp0 (.tup [.ty "list", .ty "tuple"])) H' → Dp K (newp (upd H tp0 (.tup [.ty "list", .ty "tuple"])) H') v' d → Q v' H' := fun H' v' e1 e2 => q H' v' ((same_upd ntp0).trans e1) (dp_same (newp_less (same_upd ntp0)) _ _ e2)
    have sv2 : Same Hv (upd H tp0 (.tup [.ty "list", .ty "tuple"])) := sv.trans (same_upd ntp0)
    cases hlt : (tyD d == "list" || tyD d == "tuple") with
    | false =>
      exact iteT ⟨_, rfl, q2 _ _ (fun _ _ e => e) (dp_leaf hd hlt)⟩
    | true =>
    refine iteF ?_
    generalize upd H tp0 (.tup [.ty "list", .ty "tuple"]) = H at sv2 q2
    clear q sv ntp0 tp0
    have sv := sv2
    have q := q2
    refine ⟨by decide, fun da nda => ?_⟩
    -- all_parts(thing)[::-1]
    refine ⟨_, rfl, v, d, Hv, rfl, sv.trans (same_upd nda), hd, hn, fun H1 p rs sm1 np hp hP hlen => ?_⟩
    have hda1 : H1 da = some (.lst []) := sm1 _ _ upd_same
    refine ⟨p, _, rfl, SqL.of hp, fun r nr => ?_⟩
    rw [List.reverse_reverse]
    have rda : da ≠ r := ne_of_none hda1 nr
    have s0 : Same H (upd H1 r (.lst rs)) := ((same_upd nda).trans sm1).trans (same_upd nr)
    have hr0 : H r = none := ((same_upd nda).trans sm1).free nr
    have nda0 : H da = none := nda
    refine ⟨r, rfl, ⟨_, SqL.of upd_same⟩, for_list (K := K) (a := r) (xs := rs) (fun i σ H2 => ∃ (S : List V × List PyData) (cs : List V) (y2 y3 : Option V), σ = [some v, some (.ref da), y2, y3, none] ∧ Same H H2 ∧ H2 r = some (.lst rs) ∧
      Path K Hv ([v], [d]) (rs.drop i) S ∧ H2 da = some (.lst cs.reverse) ∧ DpAll K (newB H da H2) cs S.2) ?_ ?_ ?_ ?_⟩
    · exact ⟨([], []), [], none, none, rfl, s0, upd_same, hP, by rw [upd_ne rda]; exact hda1, .nil⟩
    · rintro i σ H2 hi ⟨S, cs, y2, y3, rfl, _, g, _⟩
      exact SqL.of g
    · rintro i x σ H2 hx ⟨S, cs, y2, y3, rfl, sm, hrs, hPi, hda, hcs⟩
      have edrop : rs.drop i = x :: rs.drop (i + 1) := by
        obtain ⟨hj, e⟩ := List.getElem?_eq_some_iff.mp hx
        rw [List.drop_eq_getElem_cons hj, e]
      rw [edrop] at hPi
      cases hPi with
      | @cons _ S1 _ _ hP1 hst =>
      have cnt := path_count (.cons hP1 hst)
      have cnt0 : ndAll ([d] : List PyData) = nd d := by simp [ndAll]
      have lcs : cs.length ≤ 1000000 := by
        have e1 := DpAll.length hcs
        have e2 := ndAll_len S.2
        have e3 : ndAll (([v], [d]) : List V × List PyData).2 = nd d := cnt0
        omega
      -- the part's data
      obtain ⟨dx, hdx⟩ : ∃ dx, Dp K Hv x dx ∧ ((∃ r1 rd1, S1 = (x :: r1, dx :: rd1) ∧ S = (r1, rd1) ∧ (tyD dx == "list" || tyD dx == "tuple") = false) ∨
          (∃ a xs es r1 rd1, x = .ref a ∧ dx = .list es ∧ SqL K Hv a xs ∧ DpAll K Hv xs es ∧ S1 = (x :: r1, .list es :: rd1) ∧ S = (xs ++ r1, es ++ rd1)) ∨
          (∃ a xs es r1 rd1, x = .ref a ∧ dx = .tuple es ∧ SqT K Hv a xs ∧ DpAll K Hv xs es ∧ S1 = (x :: r1, .tuple es :: rd1) ∧ S = (xs ++ r1, es ++ rd1))) := by
        cases hst with
        | leaf h e => exact ⟨_, h, .inl ⟨_, _, rfl, rfl, e⟩⟩
        | lst h g => exact ⟨_, .lst h g, .inr (.inl ⟨_, _, _, _, _, rfl, rfl, h, g, rfl, rfl⟩)⟩
        | tup h g => exact ⟨_, .tup h g, .inr (.inr ⟨_, _, _, _, _, rfl, rfl, h, g, rfl, rfl⟩)⟩
      obtain ⟨hx1, hcase⟩ := hdx
      -- made = part; isinstance(part, (list, tuple))
      refine ⟨_, rfl, _, rfl, by decide, fun tp ntp => ?_⟩
      have sm3 : Same H (upd H2 tp (.tup [.ty "list", .ty "tuple"])) := sm.trans (same_upd ntp)
      have hda3 : (upd H2 tp (.tup [.ty "list", .ty "tuple"])) da = some (.lst cs.reverse) := same_upd ntp _ _ hda
      have hrs3 : (upd H2 tp (.tup [.ty "list", .ty "tuple"])) r = some (.lst rs) := same_upd ntp _ _ hrs
      have hcs3 : DpAll K (newB H da (upd H2 tp (.tup [.ty "list", .ty "tuple"]))) cs S.2 := dpAll_same (newB_mono fun b o _ e => same_upd ntp b o e) _ _ hcs
      refine ⟨x, tp, _, .type (tyD dx), [.type "list", .type "tuple"], _, rfl, upd_same, .cons (.ty _) (.cons (.ty _) .nil), dp_ty (dp_same (sv.trans sm3) _ _ hx1), isLT dx K, _, rfl, ?_⟩
      generalize upd H2 tp (.tup [.ty "list", .ty "tuple"]) = G at sm3 hda3 hrs3 hcs3
      rcases hcase with ⟨r1, rd1, rfl, rfl, e⟩ | ⟨a, xs, es, r1, rd1, rfl, rfl, g1, g2, rfl, rfl⟩ | ⟨a, xs, es, r1, rd1, rfl, rfl, g1, g2, rfl, rfl⟩
      · rw [e]
        refine iteF ?_
        have e2 : (tyD dx == "tuple") = false := (Bool.or_eq_false_iff.mp e).2
        refine ⟨_, rfl, x, .ty "tuple", .type (tyD dx), .type "tuple", _, rfl, .ty _, dp_ty (dp_leaf hx1 e), kit1 dx K, _, rfl, ?_⟩
        rw [e2]
        refine iteF ?_
        refine ⟨_, rfl, .inl ⟨rfl, _, SqL.of hda3⟩, _, rfl, da, _, _, rfl, rfl, hda3, Nat.lt_of_le_of_lt (by simpa using lcs) (by decide), ?_⟩
        refine ⟨_, x :: cs, _, _, rfl, same_fresh nda0 sm3, by rw [upd_ne rda.symm]; exact hrs3, hP1, ?_, ?_⟩
        · rw [upd_same]
          simp
        · exact .cons (dp_leaf hx1 e) (dpAll_same (newB_mono fun b o hb e => by rw [upd_ne hb]; exact e) _ _ hcs3)
      · obtain ⟨c1, c2, rfl, hc1, hc2⟩ := DpAll.split hcs3
        have hxl : xs.length = c1.length := (DpAll.length g2).trans (DpAll.length hc1).symm
        refine iteT (.inl ?_)
        refine ⟨_, rfl, a, rfl, ⟨_, (sv.trans sm3).seq g1⟩, fun D nD => lc_list (K := K) (a := a) (xs := xs) (fun j H4 => H4 da = some (.lst (c2.reverse ++ (c1.drop j).reverse)) ∧ H4 D = some (.lst (c1.take j)) ∧ ∀ b o, b ≠ da → b ≠ D → G b = some o → H4 b = some o) ?_ ?_ ?_ ?_⟩
        · have ne : da ≠ D := ne_of_none hda3 nD
          refine ⟨?_, upd_same, fun b o _ hb e => by rw [upd_ne hb]; exact e⟩
          rw [upd_ne ne, hda3]
          simp
        · rintro j H4 hj ⟨_, _, kp⟩
          have nDH : H D = none := sm3.free nD
          exact Same.seq (fun b o e => kp b o (ne_of_none e nda0) (ne_of_none e nDH) (sm3 b o e)) (sv.seq g1)
        · rintro j y H4 hy ⟨k1, k2, kp⟩
          have ne : da ≠ D := ne_of_none hda3 nD
          have hjl : j < c1.length := by
            have := (List.getElem?_eq_some_iff.mp hy).1
            omega
          have hcj : c1[j]? = some c1[j] := List.getElem?_eq_getElem hjl
          rw [rev_drop hcj, ← List.append_assoc] at k1
          refine ⟨rfl, .ref da, rfl, .inl ⟨rfl, _, SqL.of k1⟩, da, _, c1[j], rfl, rfl, k1, by simp, ?_⟩
          rw [List.dropLast_concat]
          refine ⟨c1.take j, by rw [upd_ne ne.symm]; exact k2, ?_, ?_, ?_, fun b o h1 h2 e => ?_⟩
          · refine Nat.lt_of_le_of_lt (show (c1.take j).length ≤ 1000000 from ?_) (by decide)
            rw [List.length_append] at lcs
            have := List.length_take_le j c1
            omega
          · rw [upd_ne ne, upd_same]
          · rw [upd_same, List.take_add_one, hcj]
            rfl
          · rw [upd_ne h2, upd_ne h1]
            exact kp b o h1 h2 e
        · rintro H4 ⟨k1, k2, kp⟩
          have ne : da ≠ D := ne_of_none hda3 nD
          have nDH : H D = none := sm3.free nD
          have sm4 : Same H H4 := fun b o e => kp b o (ne_of_none e nda0) (ne_of_none e nDH) (sm3 b o e)
          have rD : r ≠ D := ne_of_none hrs3 nD
          have hr4 : H4 r = some (.lst rs) := kp r _ rda.symm rD hrs3
          rw [hxl] at k1 k2
          rw [List.drop_length, List.reverse_nil, List.append_nil] at k1
          rw [List.take_length] at k2
          have mono4 : Same (newB H da G) (newB H da H4) := fun b o e => by
            by_cases hb : b = da
            · unfold newB at e
              rw [if_pos hb] at e
              cases e
            · cases hh : H b with
              | some u =>
                unfold newB at e
                rw [if_neg hb, hh] at e
                cases e
              | none =>
                rw [newB_at hh hb] at e ⊢
                exact kp b o hb (ne_of_none e nD) e
          have hd4 : DpAll K (newB H da H4) c1 es := dpAll_same mono4 _ _ hc1
          have hd5 : DpAll K (newB H da H4) c2 rd1 := dpAll_same mono4 _ _ hc2
          have hD4 : (newB H da H4) D = some (.lst c1) := by
            rw [newB_at nDH ne.symm]
            exact k2
          have hc1l : c1.length ≤ 1000000 ∧ c2.length ≤ 1000000 := by
            rw [List.length_append] at lcs
            omega
          refine ⟨_, rfl, .ref a, .ty "tuple", .type "list", .type "tuple", _, rfl, .ty _, dp_ty (d := .list es) (.lst (Same.seq sm4 (sv.seq g1)) (dpAll_same (sv.trans sm4) _ _ g2)), kit1 (.list es) K, _, rfl, ?_⟩
          refine iteF ?_
          refine ⟨_, rfl, .inl ⟨rfl, _, SqL.of k1⟩, _, rfl, da, _, _, rfl, rfl, k1, Nat.lt_of_le_of_lt (by simpa using hc1l.2) (by decide), ?_⟩
          refine ⟨_, .ref D :: c2, _, _, rfl, same_fresh nda0 sm4, by rw [upd_ne rda.symm]; exact hr4, hP1, ?_, ?_⟩
          · rw [upd_same]
            simp
          · have up : Same (newB H da H4) (newB H da (upd H4 da (.lst (c2.reverse ++ [.ref D])))) := newB_mono fun b o hb e => by
              rw [upd_ne hb]
              exact e
            exact .cons (.lst (SqL.of (up _ _ hD4)) (dpAll_same up _ _ hd4)) (dpAll_same up _ _ hd5)
      · obtain ⟨c1, c2, rfl, hc1, hc2⟩ := DpAll.split hcs3
        have hxl : xs.length = c1.length := (DpAll.length g2).trans (DpAll.length hc1).symm
        refine iteT (.inr ?_)
        refine ⟨_, rfl, a, rfl, ⟨_, same_sqt (sv.trans sm3) g1⟩, fun D nD => lc_tup (K := K) (a := a) (xs := xs) (fun j H4 => H4 da = some (.lst (c2.reverse ++ (c1.drop j).reverse)) ∧ H4 D = some (.lst (c1.take j)) ∧ ∀ b o, b ≠ da → b ≠ D → G b = some o → H4 b = some o) ?_ ?_ ?_ ?_⟩
        · have ne : da ≠ D := ne_of_none hda3 nD
          refine ⟨?_, upd_same, fun b o _ hb e => by rw [upd_ne hb]; exact e⟩
          rw [upd_ne ne, hda3]
          simp
        · rintro j H4 hj ⟨_, _, kp⟩
          have nDH : H D = none := sm3.free nD
          exact same_sqt (fun b o e => kp b o (ne_of_none e nda0) (ne_of_none e nDH) (sm3 b o e)) (same_sqt sv g1)
        · rintro j y H4 hy ⟨k1, k2, kp⟩
          have ne : da ≠ D := ne_of_none hda3 nD
          have hjl : j < c1.length := by
            have := (List.getElem?_eq_some_iff.mp hy).1
            omega
          have hcj : c1[j]? = some c1[j] := List.getElem?_eq_getElem hjl
          rw [rev_drop hcj, ← List.append_assoc] at k1
          refine ⟨rfl, .ref da, rfl, .inl ⟨rfl, _, SqL.of k1⟩, da, _, c1[j], rfl, rfl, k1, by simp, ?_⟩
          rw [List.dropLast_concat]
          refine ⟨c1.take j, by rw [upd_ne ne.symm]; exact k2, ?_, ?_, ?_, fun b o h1 h2 e => ?_⟩
          · refine Nat.lt_of_le_of_lt (show (c1.take j).length ≤ 1000000 from ?_) (by decide)
            rw [List.length_append] at lcs
            have := List.length_take_le j c1
            omega
          · rw [upd_ne ne, upd_same]
          · rw [upd_same, List.take_add_one, hcj]
            rfl
          · rw [upd_ne h2, upd_ne h1]
            exact kp b o h1 h2 e
        · rintro H4 ⟨k1, k2, kp⟩
          have ne : da ≠ D := ne_of_none hda3 nD
          have nDH : H D = none := sm3.free nD
          have sm4 : Same H H4 := fun b o e => kp b o (ne_of_none e nda0) (ne_of_none e nDH) (sm3 b o e)
          have rD : r ≠ D := ne_of_none hrs3 nD
          have hr4 : H4 r = some (.lst rs) := kp r _ rda.symm rD hrs3
          rw [hxl] at k1 k2
          rw [List.drop_length, List.reverse_nil, List.append_nil] at k1
          rw [List.take_length] at k2
          have mono4 : Same (newB H da G) (newB H da H4) := fun b o e => by
            by_cases hb : b = da
            · unfold newB at e
              rw [if_pos hb] at e
              cases e
            · cases hh : H b with
              | some u =>
                unfold newB at e
                rw [if_neg hb, hh] at e
                cases e
              | none =>
                rw [newB_at hh hb] at e ⊢
                exact kp b o hb (ne_of_none e nD) e
          have hd4 : DpAll K (newB H da H4) c1 es := dpAll_same mono4 _ _ hc1
          have hd5 : DpAll K (newB H da H4) c2 rd1 := dpAll_same mono4 _ _ hc2
          have hD4 : (newB H da H4) D = some (.lst c1) := by
            rw [newB_at nDH ne.symm]
            exact k2
          have hc1l : c1.length ≤ 1000000 ∧ c2.length ≤ 1000000 := by
            rw [List.length_append] at lcs
            omega
          refine ⟨_, rfl, .ref a, .ty "tuple", .type "tuple", .type "tuple", _, rfl, .ty _, dp_ty (d := .tuple es) (.tup (same_sqt sm4 (same_sqt sv g1)) (dpAll_same (sv.trans sm4) _ _ g2)), kit1 (.tuple es) K, _, rfl, ?_⟩
          refine iteT ?_
          -- made = tuple(made)
          refine ⟨_, rfl, D, c1, rfl, .inl ⟨SqL.of k2, fun tq ntq => ?_⟩⟩
          have nq : H tq = none := sm4.free ntq
          have dq : da ≠ tq := ne_of_none k1 ntq
          have rq : r ≠ tq := ne_of_none hr4 ntq
          have k5 : (upd H4 tq (.tup c1)) da = some (.lst c2.reverse) := by
            rw [upd_ne dq]
            exact k1
          refine ⟨_, rfl, .inl ⟨rfl, _, SqL.of k5⟩, _, rfl, da, _, _, rfl, rfl, k5, Nat.lt_of_le_of_lt (by simpa using hc1l.2) (by decide), ?_⟩
          refine ⟨_, .ref tq :: c2, _, _, rfl, same_fresh nda0 (sm4.trans (same_upd ntq)), by rw [upd_ne rda.symm, upd_ne rq]; exact hr4, hP1, ?_, ?_⟩
          · rw [upd_same]
            simp
          · have up : Same (newB H da H4) (newB H da (upd (upd H4 tq (.tup c1)) da (.lst (c2.reverse ++ [.ref tq])))) := newB_mono fun b o hb e => by
              rw [upd_ne hb, upd_ne (ne_of_none e ntq)]
              exact e
            have at_ : (newB H da (upd (upd H4 tq (.tup c1)) da (.lst (c2.reverse ++ [.ref tq])))) tq = some (.tup c1) := by
              rw [newB_at nq dq.symm, upd_ne dq.symm, upd_same]
            exact .cons (.tup (SqT.of at_) (dpAll_same up _ _ hd4)) (dpAll_same up _ _ hd5)
    · rintro σ H2 ⟨S, cs, y2, y3, rfl, sm, hrs, hPi, hda, hcs⟩
      rw [List.drop_length] at hPi
      cases hPi
      cases hcs with
      | @cons c1 _ _ _ h1 h2 =>
        cases h2
        refine ⟨_, rfl, da, [c1], 0, c1, rfl, rfl, SqL.of hda, atI_nat (j := 0) rfl, ?_⟩
        exact q H2 c1 sm (dp_same newB_newp _ _ h1)
end
end TX
namespace TX
open PySem PySem.Spec PyProof.Rows L2
structure Nb (mg : Str → Option Value) : Prop where
  len : mg "len" = none
  abs : mg "abs" = none
  enum : mg "enumerate" = none
  int : mg "int" = none
/-- a bag of draws: two ints -/
def BagAt (H : Hp) (p : Addr) : Prop := ∃ x y : Int, H p = some (.lst [.int x, .int y])
def spBag (K : PySem.W.Frag) : Sp := fun vs H Q _ => ∃ (a : Addr) (ns : List Int) (at_ : Nat), vs = [.ref a, .int at_] ∧ SqL K H a (ns.map V.int) ∧ ns.length ≤ 63 ∧
  ∀ (H' : Hp) (p : Addr), Same H H' → H p = none → BagAt H' p → Q (.ref p) H'
def spTake : Sp := fun vs H Q _ => ∃ (p : Addr) (m : Int), vs = [.ref p, .int m] ∧ BagAt H p ∧ 0 < m ∧ m ≤ 1000000 ∧
  ∀ (x y d : Int), 0 ≤ d → d < m → Q (.int d) (upd H p (.lst [.int x, .int y]))
section
variable {P : Program} {w : World} {K : PySem.W.Frag} {mg : Str → Option Value} {base : Heap}
theorem scBag : FnScope ["_law_script", "_law_at", "_law_cell", "_law_mixed", "_law_place", "_law_each"] ["_law_script", "_law_at"] (defScope sBag) := ⟨rfl, rfl, rfl, by decide +kernel, rfl, by decide +kernel, by decide +kernel⟩
theorem ok_bag {f : Addr} {fd : FuncData} {k : Nat} (F : Fun K "_law_bag" "_law_bag" sBag f fd) (T : Nb mg) : FnOk P w K mg base CX0 (k + 1) f fd ["_law_script", "_law_at"] (spBag K) := by
  refine F.ok scBag (fun vs H Q E h => ?_) (fun cdv A outer s H vs Q E hr h => ?_)
  · obtain ⟨a, ns, i, rfl, _⟩ := h
    rfl
  · obtain ⟨a, ns, i, rfl, hS, hn, q⟩ := h
    refine ⟨_, pss_cons (ps_par (i := 2) (j := 3) rfl scBag.nd rfl rfl (by decide) rfl rfl
        (pa_cons (pe_ifExp (pt_cmpR op_lt (pv 1) (pe_callB call_len_seq (by rfl) T.len PySem.boot_len (pa_cons (pv 0) pa_nil)) (nomark _)) (pe_callB call_abs (by rfl) T.abs (by decide +kernel) (pa_cons (pe_ix ix_list (pv 0) (pv 1) (fun _ _ => rfl)) pa_nil)) pe_int)
          (pa_cons (pe_op op_add (pe_op op_mul pe_int (pv 1)) pe_int) pa_nil)) (by rfl))
      (pss_cons (ps_for PassesOwn.never rfl (pi_enum (by rfl) T.enum (pa_cons (pe_slice sl_list (pv 0) po_none (po_some pe_int)) pa_nil))
          (pg_tup rfl (pgs_cons (pg_name (i := 4) scBag.nd rfl (.inl rfl)) (pgs_cons (pg_name (i := 5) scBag.nd rfl (.inl rfl)) pgs_nil)))
        (pss_one (ps_set (i := 3) scBag.nd rfl (.inl rfl) (pe_op op_mod (pe_callTy call_int1 (by rfl) T.int (by decide +kernel)
          (pa_cons (pe_op op_add (pe_op op_add (pe_op op_mul (pv 3) pe_int) (pe_op op_mod (pe_callTy call_int1 (by rfl) T.int (by decide +kernel) (pa_cons (pv 5) pa_nil)) pe_int)) (pe_op op_mul pe_int (pv 4))) pa_nil)) pe_int))))
      (pss_one (ps_ret (pe_lst (pa_cons (pe_ifExp (pt_cmpR op_ge (pv 2) (pe_op op_pow pe_int pe_int) (nomark _)) (pv 2) pe_int) (pa_cons (pv 3) pa_nil)))))), ?_⟩
    refine ⟨_, rfl, _, rfl, a, _, rfl, .inl hS, _, _, rfl, rfl, _, rfl, ?_⟩
    have cut63 : ∀ x ∈ cutV (ns.map V.int) none (some 63), ∃ z, x = V.int z := by
      intro x hx
      unfold cutV at hx
      obtain ⟨z, _, e⟩ := List.mem_map.mp (List.mem_of_mem_drop (List.mem_of_mem_take hx))
      exact ⟨z, e.symm⟩
    generalize hC : cutV (ns.map V.int) none (some 63) = C at *
    refine ite2 (fun hlt => ?_) (fun hge => ?_)
    · have hlt' : i < ns.length := by
        have e := of_decide_eq_true hlt
        rw [List.length_map] at e
        omega
      refine ⟨_, rfl, _, rfl, a, _, _, .int ns[i], rfl, rfl, hS, atI_nat (by rw [List.getElem?_map, List.getElem?_eq_getElem hlt']; rfl), _, rfl, ?_⟩
      refine ⟨_, rfl, _, _, rfl, rfl, .inl ⟨by decide, by decide⟩, _, _, rfl, rfl, _, _, rfl, ?_⟩
      refine ⟨_, rfl, 63, rfl, a, _, rfl, hS, fun c nc => ?_⟩
      have nc0 : H c = none := nc
      refine ⟨c, C, rfl, SqL.of (by rw [upd_same, hC]), fun j m σ H3 => ∃ (y3 : Int) (y4 y5 : Option V), σ = [some (.ref a), some (.int i), some (.int (if ns[i] < 0 then -ns[i] else ns[i])), some (.int y3), y4, y5] ∧ j + m = C.length ∧ Same H H3 ∧ H3 c = some (.lst C),
        ⟨C.length, _, none, none, rfl, by omega, same_upd nc, by rw [upd_same, hC]⟩, fun j m σ H3 hW => ?_⟩
      obtain ⟨y3, y4, y5, rfl, ejm, sm, hc⟩ := hW
      by_cases hj : j < C.length
      · refine .inr ⟨⟨_, _, SqL.of hc, List.getElem?_eq_getElem hj⟩, fun σ' H' => ∃ (y3 : Int) (y4 y5 : Option V), σ' = [some (.ref a), some (.int i), some (.int (if ns[i] < 0 then -ns[i] else ns[i])), some (.int y3), y4, y5] ∧ Same H H' ∧ H' c = some (.lst C), fun σ' H' hN => ?_, fun x H' hy => ?_⟩
        · obtain ⟨z3, z4, z5, e, sm', hc'⟩ := hN
          exact ⟨m - 1, by omega, z3, z4, z5, e, by omega, sm', hc'⟩
        · obtain ⟨tp, x1, rfl, nT, rfl, f1⟩ := hy
          have g1 := f1 _ (SqL.of hc)
          obtain ⟨z, rfl⟩ := cut63 x1 (List.mem_of_getElem? g1)
          have hcT : (upd H3 tp (.tup [.int (j : Nat), .int z])) c = some (.lst C) := same_upd nT _ _ hc
          refine ⟨tp, _, rfl, SqT.of upd_same, rfl, _, _, rfl, _, _, rfl, rfl, ?_⟩
          refine ⟨_, rfl, _, _, rfl, rfl, .inr ⟨by decide, by decide⟩, _, rfl, .inl ⟨_, rfl, _, _, rfl, rfl, (by show (0 : Int) < 2147483629; decide), _, _, rfl, rfl, _, rfl, _, _, rfl, rfl, .inl ⟨by decide, by decide⟩, _, _, rfl, rfl, ?_⟩⟩
          refine .inl ⟨_, rfl, _, _, rfl, rfl, (by show (0 : Int) < 2147483647; decide), ?_⟩
          exact ⟨_, _, _, rfl, sm.trans (same_upd nT), hcT⟩
      · refine .inl ⟨⟨_, SqL.of hc, by omega⟩, ?_⟩
        refine ⟨_, rfl, _, _, rfl, rfl, ⟨by decide, by decide, by decide⟩, _, _, rfl, rfl, _, rfl, ?_⟩
        refine ite2 (fun _ => ?_) (fun _ => ?_)
        all_goals
          first
            | refine ⟨_, rfl, _, rfl, (by show 2 ≤ sizeLine; decide), fun p np => ?_⟩
            | refine ⟨_, rfl, (by show 2 ≤ sizeLine; decide), fun p np => ?_⟩
          exact q _ p (sm.trans (same_upd np)) (sm.free np) ⟨_, _, upd_same⟩
    · refine ⟨_, rfl, _, _, rfl, rfl, .inl ⟨by decide, by decide⟩, _, _, rfl, rfl, _, _, rfl, ?_⟩
      refine ⟨_, rfl, 63, rfl, a, _, rfl, hS, fun c nc => ?_⟩
      have nc0 : H c = none := nc
      refine ⟨c, C, rfl, SqL.of (by rw [upd_same, hC]), fun j m σ H3 => ∃ (y3 : Int) (y4 y5 : Option V), σ = [some (.ref a), some (.int i), some (.int 0), some (.int y3), y4, y5] ∧ j + m = C.length ∧ Same H H3 ∧ H3 c = some (.lst C),
        ⟨C.length, _, none, none, rfl, by omega, same_upd nc, by rw [upd_same, hC]⟩, fun j m σ H3 hW => ?_⟩
      obtain ⟨y3, y4, y5, rfl, ejm, sm, hc⟩ := hW
      by_cases hj : j < C.length
      · refine .inr ⟨⟨_, _, SqL.of hc, List.getElem?_eq_getElem hj⟩, fun σ' H' => ∃ (y3 : Int) (y4 y5 : Option V), σ' = [some (.ref a), some (.int i), some (.int 0), some (.int y3), y4, y5] ∧ Same H H' ∧ H' c = some (.lst C), fun σ' H' hN => ?_, fun x H' hy => ?_⟩
        · obtain ⟨z3, z4, z5, e, sm', hc'⟩ := hN
          exact ⟨m - 1, by omega, z3, z4, z5, e, by omega, sm', hc'⟩
        · obtain ⟨tp, x1, rfl, nT, rfl, f1⟩ := hy
          have g1 := f1 _ (SqL.of hc)
          obtain ⟨z, rfl⟩ := cut63 x1 (List.mem_of_getElem? g1)
          have hcT : (upd H3 tp (.tup [.int (j : Nat), .int z])) c = some (.lst C) := same_upd nT _ _ hc
          refine ⟨tp, _, rfl, SqT.of upd_same, rfl, _, _, rfl, _, _, rfl, rfl, ?_⟩
          refine ⟨_, rfl, _, _, rfl, rfl, .inr ⟨by decide, by decide⟩, _, rfl, .inl ⟨_, rfl, _, _, rfl, rfl, (by show (0 : Int) < 2147483629; decide), _, _, rfl, rfl, _, rfl, _, _, rfl, rfl, .inl ⟨by decide, by decide⟩, _, _, rfl, rfl, ?_⟩⟩
          refine .inl ⟨_, rfl, _, _, rfl, rfl, (by show (0 : Int) < 2147483647; decide), ?_⟩
          exact ⟨_, _, _, rfl, sm.trans (same_upd nT), hcT⟩
      · refine .inl ⟨⟨_, SqL.of hc, by omega⟩, ?_⟩
        refine ⟨_, rfl, _, _, rfl, rfl, ⟨by decide, by decide, by decide⟩, _, _, rfl, rfl, _, rfl, ?_⟩
        refine ite2 (fun _ => ?_) (fun _ => ?_)
        all_goals
          first
            | refine ⟨_, rfl, _, rfl, (by show 2 ≤ sizeLine; decide), fun p np => ?_⟩
            | refine ⟨_, rfl, (by show 2 ≤ sizeLine; decide), fun p np => ?_⟩
          exact q _ p (sm.trans (same_upd np)) (sm.free np) ⟨_, _, upd_same⟩
theorem scTake : FnScope ["_law_bag_here", "_law_many", "_law_digit"] ["_law_bag_here", "_law_many"] (defScope sTake) := ⟨rfl, rfl, rfl, by decide +kernel, rfl, by decide +kernel, by decide +kernel⟩
theorem ok_take {f : Addr} {fd : FuncData} {k : Nat} (F : Fun K "_law_take" "_law_take" sTake f fd) (T : Nb mg) : FnOk P w K mg base CX0 (k + 1) f fd ["_law_bag_here", "_law_many"] spTake := by
  refine F.ok scTake (fun vs H Q E h => ?_) (fun cdv A outer s H vs Q E hr h => ?_)
  · obtain ⟨p, m, rfl, _⟩ := h
    rfl
  · obtain ⟨p, m, rfl, ⟨x, y, hp⟩, hm, hm2, q⟩ := h
    refine ⟨_, pss_cons (ps_if (pt_cmpR op_gt (pe_ix ix_list (pv 0) pe_int (fun _ _ => rfl)) pe_int (nomark _))
        (pss_cons (ps_set (i := 2) scTake.nd rfl (.inl rfl) (pe_op op_mod (pe_callTy call_int1 (by rfl) T.int (by decide +kernel) (pa_cons (pe_ix ix_list (pv 0) pe_int (fun _ _ => rfl)) pa_nil)) (pv 1)))
        (pss_cons (ps_asg (pe_op op_fdiv (pe_ix ix_list (pv 0) pe_int (fun _ _ => rfl)) (pv 1)) (pg_sub (pv 0) pe_int set_list))
        (pss_one (ps_ret (pv 2))))) pss_nil)
      (pss_cons (ps_asg (pe_op op_mod (pe_callTy call_int1 (by rfl) T.int (by decide +kernel) (pa_cons (pe_op op_add (pe_op op_mul (pe_ix ix_list (pv 0) pe_int (fun _ _ => rfl)) pe_int) pe_int) pa_nil)) pe_int) (pg_sub (pv 0) pe_int set_list))
      (pss_one (ps_ret (pe_op op_mod (pe_op op_fdiv (pe_op op_mod (pe_callTy call_int1 (by rfl) T.int (by decide +kernel) (pa_cons (pe_op op_mul (pe_op op_fdiv (pe_ix ix_list (pv 0) pe_int (fun _ _ => rfl)) pe_int) pe_int) pa_nil)) pe_int) pe_int) (pv 1))))), ?_⟩
    have i0 : atI [V.int x, V.int y] 0 = some (.int x) := atI_nat (j := 0) rfl
    have i1 : atI [V.int x, V.int y] 1 = some (.int y) := atI_nat (j := 1) rfl
    refine ⟨_, rfl, p, _, 0, _, rfl, rfl, SqL.of hp, i0, _, _, rfl, rfl, _, rfl, ?_⟩
    refine ite2 (fun hx => ?_) (fun hx => ?_)
    · refine ⟨_, rfl, p, _, 0, _, rfl, rfl, SqL.of hp, i0, .inl ⟨_, rfl, _, rfl, _, _, rfl, rfl, hm, ?_⟩⟩
      refine ⟨_, rfl, p, _, 0, _, rfl, rfl, SqL.of hp, i0, _, rfl, _, _, rfl, rfl, ⟨hm, by omega⟩, ?_⟩
      refine ⟨_, rfl, p, _, 0, 0, rfl, rfl, hp, rfl, ?_⟩
      refine ⟨_, rfl, ?_⟩
      exact q _ _ _ (Int.emod_nonneg _ (by omega)) (Int.emod_lt_of_pos _ hm)
    · refine ⟨_, rfl, p, _, 1, _, rfl, rfl, SqL.of hp, i1, _, _, rfl, rfl, .inr ⟨by decide, by decide⟩, _, _, rfl, rfl, .inl ⟨_, rfl, _, _, rfl, rfl, (by show (0 : Int) < 2147483629; decide), ?_⟩⟩
      refine ⟨_, rfl, p, _, 1, 1, rfl, rfl, hp, rfl, ?_⟩
      refine ⟨_, rfl, p, _, 1, _, rfl, rfl, SqL.of upd_same, atI_nat (j := 1) rfl, _, _, rfl, rfl, ⟨by decide, by decide⟩, _, _, rfl, rfl, .inr ⟨by decide, by decide⟩, .inl ⟨_, rfl, _, _, rfl, rfl, (by show (0 : Int) < 2147483587; decide), ?_⟩⟩
      refine ⟨_, _, rfl, rfl, ⟨by decide, by decide⟩, _, rfl, _, _, rfl, rfl, hm, ?_⟩
      exact q _ _ _ (Int.emod_nonneg _ (by omega)) (Int.emod_lt_of_pos _ hm)
end
end TX
namespace TX
open PySem PySem.Spec PyProof.Rows L2
/-! ### values as data -/
def Lt (z : Str) : Prop := ∀ c ∈ z.cps.toList, 97 ≤ c ∧ c ≤ 122
mutual
def valD : PyData → Prop
  | .none => True
  | .str x => Lt x
  | .list xs => valAll xs
  | _ => False
def valAll : List PyData → Prop
  | [] => True
  | d :: ds => valD d ∧ valAll ds
end
mutual
def sz : PyData → Nat
  | .str x => x.length + 1
  | .list xs => szAll xs + 1
  | _ => 1
def szAll : List PyData → Nat
  | [] => 0
  | d :: ds => sz d + szAll ds
end
theorem szAll_append : ∀ (a b : List PyData), szAll (a ++ b) = szAll a + szAll b
  | [], b => by simp [szAll]
  | d :: a, b => by
    rw [List.cons_append, szAll, szAll, szAll_append a b]
    omega
theorem valAll_append : ∀ (a b : List PyData), valAll (a ++ b) ↔ valAll a ∧ valAll b
  | [], b => by simp [valAll]
  | d :: a, b => by
    rw [List.cons_append, valAll, valAll, valAll_append a b]
    exact ⟨fun ⟨x, y, z⟩ => ⟨⟨x, y⟩, z⟩, fun ⟨⟨x, y⟩, z⟩ => ⟨x, y, z⟩⟩
theorem depthAll_append : ∀ (a b : List PyData), PyData.depthAll (a ++ b) = max (PyData.depthAll a) (PyData.depthAll b)
  | [], b => by simp [PyData.depthAll]
  | d :: a, b => by
    rw [List.cons_append, PyData.depthAll, PyData.depthAll, depthAll_append a b]
    omega
theorem DpAll.get {K : PySem.W.Frag} {H : Hp} : ∀ {ds : List PyData} {vs : List V} {i : Nat} {v : V}, DpAll K H vs ds → vs[i]? = some v → ∃ d, ds[i]? = some d ∧ Dp K H v d
  | [], _, i, v, h, e => by
    cases h
    simp at e
  | d :: ds, _, 0, v, h, e => by
    cases h with
    | cons h1 h2 =>
      simp at e
      subst e
      exact ⟨d, rfl, h1⟩
  | d :: ds, _, i + 1, v, h, e => by
    cases h with
    | cons h1 h2 =>
      obtain ⟨d', e1, e2⟩ := DpAll.get (ds := ds) (i := i) h2 (by simpa using e)
      exact ⟨d', by simpa using e1, e2⟩
theorem val_get : ∀ {ds : List PyData} {i : Nat} {d : PyData}, valAll ds → ds[i]? = some d → valD d
  | [], i, d, h, e => by simp at e
  | x :: ds, 0, d, h, e => by
    simp at e
    subst e
    exact h.1
  | x :: ds, i + 1, d, h, e => val_get h.2 (by simpa using e)
theorem depth_get : ∀ {ds : List PyData} {i : Nat} {d : PyData}, ds[i]? = some d → d.depth ≤ PyData.depthAll ds
  | [], i, d, e => by simp at e
  | x :: ds, 0, d, e => by
    simp at e
    subst e
    simp only [PyData.depthAll]
    omega
  | x :: ds, i + 1, d, e => by
    have := depth_get (ds := ds) (i := i) (d := d) (by simpa using e)
    simp only [PyData.depthAll]
    omega
theorem sz_get : ∀ {ds : List PyData} {i : Nat} {d : PyData}, ds[i]? = some d → sz d ≤ szAll ds
  | [], i, d, e => by simp at e
  | x :: ds, 0, d, e => by
    simp at e
    subst e
    simp only [szAll]
    omega
  | x :: ds, i + 1, d, e => by
    have := sz_get (ds := ds) (i := i) (d := d) (by simpa using e)
    simp only [szAll]
    omega
theorem szAll_sum : ∀ ds : List PyData, ((ds.map fun d => ((sz d : Nat) : Int)).sum : Int) = ((szAll ds : Nat) : Int)
  | [] => rfl
  | d :: ds => by
    rw [List.map_cons, List.sum_cons, szAll_sum ds, szAll]
    omega
theorem szAll_len : ∀ ds : List PyData, ds.length ≤ szAll ds
  | [] => by simp
  | d :: ds => by
    have := szAll_len ds
    have h1 : 1 ≤ sz d := by cases d <;> simp [sz]
    rw [szAll, List.length_cons]
    omega
/-! ### isinstance against one built-in type -/
theorem kitL (d : PyData) (K : PySem.W.Frag) : PySem.W.kitOne K (.type (tyD d)) (.type "list") = some (tyD d == "list") := by
  cases d with
  | none => exact (kit_ty (a := "NoneType") (b := "list") (r := false) (by decide +kernel)).trans (by simp [tyD])
  | bool _ => exact (kit_ty (a := "bool") (b := "list") (r := false) (by decide +kernel)).trans (by simp [tyD])
  | int _ => exact (kit_ty (a := "int") (b := "list") (r := false) (by decide +kernel)).trans (by simp [tyD])
  | str _ => exact (kit_ty (a := "str") (b := "list") (r := false) (by decide +kernel)).trans (by simp [tyD])
  | list _ => exact (kit_ty (a := "list") (b := "list") (r := true) (by decide +kernel)).trans (by simp [tyD])
  | tuple _ => exact (kit_ty (a := "tuple") (b := "list") (r := false) (by decide +kernel)).trans (by simp [tyD])
  | dict _ => exact (kit_ty (a := "dict") (b := "list") (r := false) (by decide +kernel)).trans (by simp [tyD])
theorem kitS (d : PyData) (K : PySem.W.Frag) : PySem.W.kitOne K (.type (tyD d)) (.type "str") = some (tyD d == "str") := by
  cases d with
  | none => exact (kit_ty (a := "NoneType") (b := "str") (r := false) (by decide +kernel)).trans (by simp [tyD])
  | bool _ => exact (kit_ty (a := "bool") (b := "str") (r := false) (by decide +kernel)).trans (by simp [tyD])
  | int _ => exact (kit_ty (a := "int") (b := "str") (r := false) (by decide +kernel)).trans (by simp [tyD])
  | str _ => exact (kit_ty (a := "str") (b := "str") (r := true) (by decide +kernel)).trans (by simp [tyD])
  | list _ => exact (kit_ty (a := "list") (b := "str") (r := false) (by decide +kernel)).trans (by simp [tyD])
  | tuple _ => exact (kit_ty (a := "tuple") (b := "str") (r := false) (by decide +kernel)).trans (by simp [tyD])
  | dict _ => exact (kit_ty (a := "dict") (b := "str") (r := false) (by decide +kernel)).trans (by simp [tyD])
structure Nv (mg : Str → Option Value) : Prop where
  range : mg "range" = none
  sum : mg "sum" = none
  min : mg "min" = none
/-! ### _law_text -/
def spText : Sp := fun vs H Q _ => ∃ (p : Addr) (m : Int), vs = [.ref p, .int m] ∧ BagAt H p ∧ 0 ≤ m ∧ m ≤ 1000 ∧
  ∀ (H' : Hp) (z : Str), (∀ b o, b ≠ p → H b = some o → H' b = some o) → BagAt H' p → Lt z → (z.length : Int) ≤ m → Q (.str z) H'
theorem lt_append {a b : Str} (h : Lt a) (g : Lt b) : Lt (a ++ b) := by
  intro c hc
  have e : (a ++ b).cps.toList = a.cps.toList ++ b.cps.toList := by
    show (a.cps ++ b.cps).toList = _
    simp
  rw [e] at hc
  rcases List.mem_append.mp hc with x | x
  · exact h c x
  · exact g c x
section
variable {P : Program} {w : World} {K : PySem.W.Frag} {mg : Str → Option Value} {base : Heap}
theorem scText : FnScope ["_law_bag_here", "_law_most", "_law_word", "_law_signs", "_law_turn"] ["_law_bag_here", "_law_most"] (defScope sText) := ⟨rfl, rfl, rfl, by decide +kernel, rfl, by decide +kernel, by decide +kernel⟩
theorem ok_text {f fT : Addr} {fd fdT : FuncData} (F : Fun K "_law_text" "_law_text" sText f fd) (B : Nb mg) (N : Nv mg) (FT : Fun K "_law_take" "_law_take" sTake fT fdT) (bT : Binds K fdT ["_law_bag_here", "_law_many"] []) (gT : mg "_law_take" = some (.ref fT)) :
    FnOk P w K mg base CX0 2 f fd ["_law_bag_here", "_law_most"] spText := by
  have GT : FnOk P w K mg base CX0 1 fT fdT ["_law_bag_here", "_law_many"] spTake := ok_take FT B
  refine F.ok scText (fun vs H Q E h => ?_) (fun cdv A outer s H vs Q E hr h => ?_)
  · obtain ⟨p, m, rfl, _⟩ := h
    rfl
  · obtain ⟨p, m, rfl, bag, hm0, hm1, q⟩ := h
    refine ⟨_, pss_cons (ps_par (i := 2) (j := 3) rfl scText.nd rfl rfl (by decide) rfl rfl (pa_cons pe_str (pa_cons (pe_ix ix_list (pe_lst (pa_cons pe_str (pa_cons pe_str (pa_cons pe_str pa_nil)))) (pe_call GT hr (by rfl) gT FT.kp bT .nil pass0 (pa_cons (pv 0) (pa_cons pe_int pa_nil))) (fun _ _ => rfl)) pa_nil)) (by rfl))
      (pss_cons (ps_for PassesOwn.never rfl (pi_range1 (by rfl) N.range (pa_cons (pe_call GT hr (by rfl) gT FT.kp bT .nil pass0 (pa_cons (pv 0) (pa_cons (pe_op op_add (pv 1) pe_int) pa_nil))) pa_nil)) (pg_name (i := 4) scText.nd rfl (.inl rfl))
        (pss_one (ps_set (i := 2) scText.nd rfl (.inl rfl) (pe_op op_add_str (pv 2) (pe_ix ix_str (pv 3) (pe_call GT hr (by rfl) gT FT.kp bT .nil pass0 (pa_cons (pv 0) (pa_cons (pe_callB call_len_str (by rfl) B.len PySem.boot_len (pa_cons (pv 3) pa_nil)) pa_nil))) (fun _ _ => rfl))))))
      (pss_one (ps_ret (pv 2)))), ?_⟩
    refine ⟨(by show 3 ≤ sizeLine; decide), fun l nl => ?_⟩
    have bag1 : BagAt (upd H l (.lst [.str "abcdefghijklmnopqrstuvwxyz", .str "ab", .str "za"])) p := let ⟨x, y, e⟩ := bag; ⟨x, y, same_upd nl _ _ e⟩
    have lp : l ≠ p := fun e => by
      obtain ⟨x, y, e2⟩ := bag
      rw [e, e2] at nl
      cases nl
    refine ⟨_, rfl, p, 3, rfl, bag1, by decide, by decide, fun x1 y1 k hk0 hk1 => ?_⟩
    have hl : (upd (upd H l (.lst [.str "abcdefghijklmnopqrstuvwxyz", .str "ab", .str "za"])) p (.lst [.int x1, .int y1])) l = some (.lst [.str "abcdefghijklmnopqrstuvwxyz", .str "ab", .str "za"]) := by
      rw [upd_ne lp, upd_same]
    have kp : ∀ b o, b ≠ p → H b = some o → (upd (upd H l (.lst [.str "abcdefghijklmnopqrstuvwxyz", .str "ab", .str "za"])) p (.lst [.int x1, .int y1])) b = some o := fun b o hb e => by
      rw [upd_ne hb]
      exact same_upd nl _ _ e
    have bag2 : BagAt (upd (upd H l (.lst [.str "abcdefghijklmnopqrstuvwxyz", .str "ab", .str "za"])) p (.lst [.int x1, .int y1])) p := ⟨_, _, upd_same⟩
    generalize upd (upd H l (.lst [.str "abcdefghijklmnopqrstuvwxyz", .str "ab", .str "za"])) p (.lst [.int x1, .int y1]) = G at hl kp bag2
    obtain ⟨sg, hsg, hat⟩ : ∃ sg : Str, (0 < sg.length ∧ sg.length ≤ 26 ∧ Lt sg) ∧ atI ([.str "abcdefghijklmnopqrstuvwxyz", .str "ab", .str "za"] : List V) k = some (.str sg) := by
      obtain rfl | rfl | rfl : k = 0 ∨ k = 1 ∨ k = 2 := by omega
      · exact ⟨"abcdefghijklmnopqrstuvwxyz", ⟨by decide +kernel, by decide +kernel, by unfold Lt; decide +kernel⟩, atI_nat (j := 0) rfl⟩
      · exact ⟨"ab", ⟨by decide +kernel, by decide +kernel, by unfold Lt; decide +kernel⟩, atI_nat (j := 1) rfl⟩
      · exact ⟨"za", ⟨by decide +kernel, by decide +kernel, by unfold Lt; decide +kernel⟩, atI_nat (j := 2) rfl⟩
    refine ⟨l, _, k, _, rfl, rfl, SqL.of hl, hat, _, _, rfl, ?_⟩
    refine ⟨_, rfl, _, rfl, _, _, rfl, rfl, p, m + 1, rfl, bag2, by omega, by omega, fun x2 y2 t ht0 ht1 => ?_⟩
    refine ⟨t, rfl, by omega, by omega, for_range (lo := 0) (n := t.toNat) (fun i σ H2 => ∃ (z : Str) (y4 : Option V), σ = [some (.ref p), some (.int m), some (.str z), some (.str sg), y4] ∧ (∀ b o, b ≠ p → H b = some o → H2 b = some o) ∧ BagAt H2 p ∧ Lt z ∧ z.length = i) ?_ ?_ ?_⟩
    · refine ⟨"", none, rfl, fun b o hb e => by rw [upd_ne hb]; exact kp b o hb e, ⟨_, _, upd_same⟩, by unfold Lt; decide +kernel, by decide +kernel⟩
    · rintro i σ H2 hi ⟨z, y4, rfl, k2, b2, lz, ez⟩
      have hsl : sg.length ≤ sizeLine := Nat.le_trans hsg.2.1 (by decide)
      refine ⟨_, rfl, _, rfl, _, rfl, _, rfl, sg, rfl, hsl, p, (sg.length : Int), rfl, b2, by omega, by omega, fun x3 y3 c hc0 hc1 => ?_⟩
      obtain ⟨j, rfl⟩ : ∃ j : Nat, c = j := ⟨c.toNat, by omega⟩
      have hjl : j < sg.cps.toList.length := by
        have e : sg.cps.toList.length = sg.length := by simp [Str.length]
        omega
      have hcj : sg.cps.toList[j]? = some sg.cps.toList[j] := List.getElem?_eq_getElem hjl
      have lone : Lt ⟨#[sg.cps.toList[j]]⟩ := by
        intro c hc
        have e : c = sg.cps.toList[j] := by simpa using hc
        rw [e]
        exact hsg.2.2 _ (List.getElem_mem hjl)
      have one : (⟨#[sg.cps.toList[j]]⟩ : Str).length = 1 := rfl
      refine ⟨sg, _, _, rfl, rfl, hsl, atI_nat hcj, _, _, rfl, rfl, ?_, ?_⟩
      · rw [one, ez]
        exact Nat.le_trans (show i + 1 ≤ 2000 by omega) (by decide)
      · refine ⟨_, _, rfl, fun b o hb e => by rw [upd_ne hb]; exact k2 b o hb e, ⟨_, _, upd_same⟩, lt_append lz lone, ?_⟩
        rw [strLen_append, one, ez]
    · rintro σ H2 ⟨z, y4, rfl, k2, b2, lz, ez⟩
      exact ⟨_, rfl, q H2 z k2 b2 lz (by omega)⟩
/-! ### _law_size: one level more for each depth -/
def spSize (K : PySem.W.Frag) (N : Nat) : Sp := fun vs H Q _ => ∃ (v : V) (d : PyData) (Hv : Hp), vs = [v] ∧ Same Hv H ∧ Dp K Hv v d ∧ valD d ∧ d.depth ≤ N ∧ sz d ≤ 1000000 ∧ ∀ H', Same H H' → Q (.int (sz d : Nat)) H'
theorem scSize : FnScope ["_law_value_here", "_law_one"] ["_law_value_here"] (defScope sSize) := ⟨rfl, rfl, rfl, by decide +kernel, rfl, by decide +kernel, by decide +kernel⟩
/-- what is no list: one, or one more than the letters -/
theorem val_leaf {K : PySem.W.Frag} {H : Hp} {v : V} {d : PyData} (h : Dp K H v d) (hv : valD d) (e : (tyD d == "list") = false) : (v = .non ∧ d = .none) ∨ ∃ x, v = .str x ∧ d = .str x := by
  cases h with
  | non => exact .inl ⟨rfl, rfl⟩
  | str x => exact .inr ⟨x, rfl, rfl⟩
  | bl _ => exact hv.elim
  | int _ => exact hv.elim
  | lst _ _ => simp [tyD] at e
  | tup _ _ => exact hv.elim
theorem ok_size {f : Addr} {fd : FuncData} (F : Fun K "_law_size" "_law_size" sSize f fd) (T : Nm mg) (B : Nb mg) (Y : Nv mg) (b : Binds K fd ["_law_value_here"] []) (g : mg "_law_size" = some (.ref f)) : ∀ N : Nat, FnOk P w K mg base CX0 (N + 1) f fd ["_law_value_here"] (spSize K N)
  | 0 => by
    refine F.ok scSize (fun vs H Q E h => ?_) (fun cdv A outer s H vs Q E hr h => ?_)
    · obtain ⟨v, d, Hv, rfl, _⟩ := h
      rfl
    · obtain ⟨v, d, Hv, rfl, sv, hd, hv, hz, hn, q⟩ := h
      refine ⟨_, pss_cons (ps_if (pt_val (pe_callB call_isi (by rfl) T.isi (by decide +kernel) (pa_cons (pv 0) (pa_cons (pe_bltn (v := .ty "list") (by rfl) T.lst (by decide +kernel) rfl) pa_nil)))) pss_never pss_nil)
        (pss_one (ps_ret (pe_ifExp (pt_cmp (pc_isN (pv 0))) pe_int (pe_op op_add pe_int (pe_callB call_len_str (by rfl) B.len PySem.boot_len (pa_cons (pv 0) pa_nil)))))), ?_⟩
      refine ⟨_, rfl, v, .ty "list", .type (tyD d), .type "list", _, rfl, .ty _, dp_ty (dp_same sv _ _ hd), kitL d K, _, rfl, ?_⟩
      have e : (tyD d == "list") = false := by
        cases hd with
        | lst _ _ => simp [PyData.depth] at hz
        | _ => simp [tyD]
      rw [e]
      refine iteF ?_
      rcases val_leaf hd hv e with ⟨rfl, rfl⟩ | ⟨x, rfl, rfl⟩
      · exact ⟨_, rfl, _, rfl, iteT (q H (Same.refl _))⟩
      · refine ⟨_, rfl, _, rfl, iteF ⟨_, rfl, x, rfl, Nat.le_trans (show x.length ≤ 1000000 by simp only [sz] at hn; omega) (by decide), _, _, rfl, rfl, ?_⟩⟩
        have e2 : (1 : Int) + ((x.length : Nat) : Int) = ((sz (.str x) : Nat) : Int) := by simp only [sz]; omega
        show Q (.int (1 + ((x.length : Nat) : Int))) H
        rw [e2]
        exact q H (Same.refl _)
  | N + 1 => by
    have G := ok_size F T B Y b g N
    refine F.ok scSize (fun vs H Q E h => ?_) (fun cdv A outer s H vs Q E hr h => ?_)
    · obtain ⟨v, d, Hv, rfl, _⟩ := h
      rfl
    · obtain ⟨v, d, Hv, rfl, sv, hd, hv, hz, hn, q⟩ := h
      refine ⟨_, pss_cons (ps_if (pt_val (pe_callB call_isi (by rfl) T.isi (by decide +kernel) (pa_cons (pv 0) (pa_cons (pe_bltn (v := .ty "list") (by rfl) T.lst (by decide +kernel) rfl) pa_nil))))
          (pss_one (ps_ret (pe_op op_add pe_int (pe_callB (cr_sum rfl) (by rfl) Y.sum (by decide +kernel) (pa_cons (pe_lc (own := [("_law_one", 1)]) (g := gName 1) (tt := tYes) (te := tCall (spSize K N) [] E0 (tCons (tVar 1) tNil)) rfl scSize.nd (pi_list (pv 0))
            (blkOk_by (own := [("_law_one", 1)]) (N := ["_law_value_here", "_law_one"]) (sc := defScope sSize) (by decide +kernel)) (fun _ _ _ _ _ => pg_name (i := 1) scSize.nd rfl (Or.inl rfl)) (fun _ _ _ _ _ => pts_nil)
            (fun _ _ _ _ _ => pe_call G hr (by rfl) g F.kp b .nil pass0 (pa_cons (pv 1) pa_nil))) pa_nil))))) pss_nil)
        (pss_one (ps_ret (pe_ifExp (pt_cmp (pc_isN (pv 0))) pe_int (pe_op op_add pe_int (pe_callB call_len_str (by rfl) B.len PySem.boot_len (pa_cons (pv 0) pa_nil)))))), ?_⟩
      refine ⟨_, rfl, v, .ty "list", .type (tyD d), .type "list", _, rfl, .ty _, dp_ty (dp_same sv _ _ hd), kitL d K, _, rfl, ?_⟩
      by_cases e : (tyD d == "list") = true
      · rw [e]
        refine iteT ?_
        cases hd with
        | @lst a xs es h1 h2 =>
          have hl : xs.length = es.length := DpAll.length h2
          have hvs : valAll es := hv
          have hz2 : PyData.depthAll es ≤ N := by
            simp only [PyData.depth] at hz
            omega
          have hn2 : szAll es + 1 ≤ 1000000 := by simpa only [sz] using hn
          refine ⟨_, rfl, a, rfl, ⟨_, sv.seq h1⟩, fun D nD => lc_list (K := K) (a := a) (xs := xs) (fun i H' => H' D = some (.lst ((es.take i).map fun e => V.int ((sz e : Nat) : Int))) ∧ Same H H') ⟨upd_same, same_upd nD⟩ (fun i H' hi ⟨_, sm⟩ => sm.seq (sv.seq h1)) ?_ ?_⟩
          · rintro i x H' hx ⟨k1, k2⟩
            obtain ⟨ei, hei, dei⟩ := DpAll.get h2 hx
            refine ⟨rfl, x, rfl, x, ei, Hv, rfl, sv.trans k2, dei, val_get hvs hei, Nat.le_trans (depth_get hei) hz2, Nat.le_trans (sz_get hei) (by omega), fun H'' s2 => ?_⟩
            have il := (List.getElem?_eq_some_iff.mp hei).1
            have el := szAll_len es
            refine ⟨_, s2 _ _ k1, Nat.lt_of_le_of_lt (show ((es.take i).map fun e => V.int ((sz e : Nat) : Int)).length ≤ 1000000 by rw [List.length_map, List.length_take]; omega) (by decide), ?_, same_fresh nD (k2.trans s2)⟩
            rw [upd_same, List.take_add_one, hei, List.map_append]
            rfl
          · rintro H' ⟨k1, k2⟩
            rw [hl, List.take_length] at k1
            have k1' : H' D = some (.lst ((es.map fun e => ((sz e : Nat) : Int)).map V.int)) := by
              rw [k1, List.map_map]
              rfl
            refine ⟨D, _, rfl, SqL.of k1', _, _, rfl, rfl, ?_⟩
            have e2 : (1 : Int) + (es.map fun e => ((sz e : Nat) : Int)).sum = ((sz (.list es) : Nat) : Int) := by
              rw [szAll_sum, sz]
              omega
            show Q (.int (1 + (es.map fun e => ((sz e : Nat) : Int)).sum)) H'
            rw [e2]
            exact q H' k2
        | _ => simp [tyD] at e
      · have e' : (tyD d == "list") = false := by simpa using e
        rw [e']
        refine iteF ?_
        rcases val_leaf hd hv e' with ⟨rfl, rfl⟩ | ⟨x, rfl, rfl⟩
        · exact ⟨_, rfl, _, rfl, iteT (q H (Same.refl _))⟩
        · refine ⟨_, rfl, _, rfl, iteF ⟨_, rfl, x, rfl, Nat.le_trans (show x.length ≤ 1000000 by simp only [sz] at hn; omega) (by decide), _, _, rfl, rfl, ?_⟩⟩
          have e2 : (1 : Int) + ((x.length : Nat) : Int) = ((sz (.str x) : Nat) : Int) := by simp only [sz]; omega
          show Q (.int (1 + ((x.length : Nat) : Int))) H
          rw [e2]
          exact q H (Same.refl _)
end
end TX
namespace TX
open PySem PySem.Spec PyProof.Rows L2
theorem eqT {n m : Int} {A B : Prop} (h : n = m) (a : A) : if decide (V.int n = V.int m) = true then A else B := by
  rw [h, decide_eq_true rfl]
  exact iteT a
theorem eqF {n m : Int} {A B : Prop} (h : n ≠ m) (b : B) : if decide (V.int n = V.int m) = true then A else B := by
  rw [decide_eq_false fun e => h (V.int.inj e)]
  exact iteF b
theorem ltT {n m : Int} {A B : Prop} (h : n < m) (a : A) : if decide (n < m) = true then A else B := by
  rw [decide_eq_true h]
  exact iteT a
theorem ltF {n m : Int} {A B : Prop} (h : ¬ n < m) (b : B) : if decide (n < m) = true then A else B := by
  rw [decide_eq_false h]
  exact iteF b
/-! ### _law_value -/
def spValue (K : PySem.W.Frag) (N : Nat) : Sp := fun vs H Q _ => ∃ (p : Addr) (deep room : Nat), vs = [.ref p, .int deep, .int room] ∧ BagAt H p ∧ deep ≤ N ∧ 1 ≤ room ∧ room ≤ 1000 ∧
  ∀ (H' : Hp) (v : V) (d : PyData), (∀ b o, b ≠ p → H b = some o → H' b = some o) → BagAt H' p → Dp K (newp H H') v d → valD d → d.depth ≤ deep → sz d ≤ room → Q v H'
theorem szAll_snoc (ds : List PyData) (d : PyData) : szAll (ds ++ [d]) = szAll ds + sz d := by
  rw [szAll_append]
  simp [szAll]
section
variable {P : Program} {w : World} {K : PySem.W.Frag} {mg : Str → Option Value} {base : Heap}
theorem scValue : FnScope ["_law_bag_here", "_law_deep", "_law_room", "_law_pick", "_law_made", "_law_left", "_law_turn"] ["_law_bag_here", "_law_deep", "_law_room"] (defScope sValue) := ⟨rfl, rfl, rfl, by decide +kernel, rfl, by decide +kernel, by decide +kernel⟩
/-- what value calls -/
structure Vc (P : Program) (w : World) (K : PySem.W.Frag) (mg : Str → Option Value) (base : Heap) (fT fX fS : Addr) (dT dX dS : FuncData) : Prop where
  GT : FnOk P w K mg base CX0 1 fT dT ["_law_bag_here", "_law_many"] spTake
  bT : Binds K dT ["_law_bag_here", "_law_many"] []
  gT : mg "_law_take" = some (.ref fT)
  kT : PySem.W.keepIn K (.ref fT) = true
  GX : FnOk P w K mg base CX0 2 fX dX ["_law_bag_here", "_law_most"] spText
  bX : Binds K dX ["_law_bag_here", "_law_most"] []
  gX : mg "_law_text" = some (.ref fX)
  kX : PySem.W.keepIn K (.ref fX) = true
  GS : ∀ N : Nat, FnOk P w K mg base CX0 (N + 1) fS dS ["_law_value_here"] (spSize K N)
  bS : Binds K dS ["_law_value_here"] []
  gS : mg "_law_size" = some (.ref fS)
  kS : PySem.W.keepIn K (.ref fS) = true
theorem pe_ex {X : Cx} {i : Type} {e : Expr} {t : i → TE} (h : ∀ j, PE X e (t j)) : PE X e (fun σ H Q => ∃ j, t j σ H Q) := ⟨fun pins s σ H Q I ⟨j, q⟩ => (h j).run pins s σ H Q I q⟩
theorem ok_value {f fT fX fS : Addr} {fd dT dX dS : FuncData} (F : Fun K "_law_value" "_law_value" sValue f fd) (b : Binds K fd ["_law_bag_here", "_law_deep", "_law_room"] []) (g : mg "_law_value" = some (.ref f)) (Y : Nv mg) (C : Vc P w K mg base fT fX fS dT dX dS) (N : Nat)
    (G : ∀ j : { M : Nat // M + 1 = N }, FnOk P w K mg base CX0 (j.1 + 3) f fd ["_law_bag_here", "_law_deep", "_law_room"] (spValue K j.1)) : FnOk P w K mg base CX0 (N + 3) f fd ["_law_bag_here", "_law_deep", "_law_room"] (spValue K N) := by
  refine F.ok scValue (fun vs H Q E h => ?_) (fun cdv A outer s H vs Q E hr h => ?_)
  · obtain ⟨p, deep, room, rfl, _⟩ := h
    rfl
  · obtain ⟨p, deep, room, rfl, bag, hdN, hr1, hr2, q⟩ := h
    have hrT : Room 1 _ := hr.mono (by omega)
    have hrX : Room 2 _ := hr.mono (by omega)
    have hrS : Room (N + 1) _ := hr.mono (by omega)
    have hrR : ∀ j : { M : Nat // M + 1 = N }, Room (j.1 + 3) _ := fun j => hr.mono (by have := j.2; omega)
    refine ⟨_, pss_cons (ps_set (i := 3) scValue.nd rfl (.inl rfl) (pe_call C.GT hrT (by rfl) C.gT C.kT C.bT .nil pass0 (pa_cons (pv 0) (pa_cons pe_int pa_nil))))
      (pss_cons (ps_if (PW.pt (pw_or (pt_cmpR op_eq (pv 3) pe_int (nomark _)) (pw_or1 (pt_cmpR op_eq (pv 2) pe_int (nomark _)))))
        (pss_one (ps_ret (pe_ix ix_list (pe_lst (pa_cons pe_non (pa_cons pe_str (pa_cons (pe_lst pa_nil) pa_nil)))) (pe_call C.GT hrT (by rfl) C.gT C.kT C.bT .nil pass0 (pa_cons (pv 0) (pa_cons (pe_ifExp (pt_cmpR op_gt (pv 1) pe_int (nomark _)) pe_int pe_int) pa_nil))) (fun _ _ => rfl)))) pss_nil)
      (pss_cons (ps_if (PW.pt (pw_or (pt_cmpR op_eq (pv 3) pe_int (nomark _)) (pw_or1 (pt_cmpR op_eq (pv 1) pe_int (nomark _)))))
        (pss_one (ps_ret (pe_call C.GX hrX (by rfl) C.gX C.kX C.bX .nil pass0 (pa_cons (pv 0) (pa_cons (pe_callB (call_min2 rfl) (by rfl) Y.min (by decide +kernel) (pa_cons pe_int (pa_cons (pe_op op_sub (pv 2) pe_int) pa_nil))) pa_nil))))) pss_nil)
      (pss_cons (ps_par (i := 4) (j := 5) rfl scValue.nd rfl rfl (by decide) rfl rfl (pa_cons (pe_lst pa_nil) (pa_cons (pe_op op_sub (pv 2) pe_int) pa_nil)) (by rfl))
      (pss_cons (ps_for PassesOwn.never rfl (pi_range1 (by rfl) Y.range (pa_cons (pe_call C.GT hrT (by rfl) C.gT C.kT C.bT .nil pass0 (pa_cons (pv 0) (pa_cons pe_int pa_nil))) pa_nil)) (pg_name (i := 6) scValue.nd rfl (.inl rfl))
        (pss_one (ps_if (pt_cmpR op_gt (pv 5) pe_int (nomark _))
          (pss_cons (ps_expr (pe_bm PySem.F.plainAttrs_list PySem.F.slot_list_append PySem.F.type_list_append mt_append (pv 4) (pa_cons (pe_ex fun j => pe_call (G j) (hrR j) (by rfl) g F.kp b .nil pass0 (pa_cons (pv 0) (pa_cons (pe_op op_sub (pv 1) pe_int) (pa_cons (pv 5) pa_nil)))) pa_nil)))
          (pss_one (ps_set (i := 5) scValue.nd rfl (.inl rfl) (pe_op op_sub (pv 5) (pe_call (C.GS N) hrS (by rfl) C.gS C.kS C.bS .nil pass0 (pa_cons (pe_ix ix_list (pv 4) (pe_un un_neg pe_int) (fun _ _ => rfl)) pa_nil)))))) pss_nil)))
      (pss_one (ps_ret (pv 4))))))), ?_⟩
    refine ⟨_, rfl, p, 5, rfl, bag, by decide, by decide, fun x1 y1 k hk0 hk1 => ?_⟩
    have kp : ∀ b o, b ≠ p → H b = some o → upd H p (.lst [.int x1, .int y1]) b = some o := fun b o hb e => by
      rw [upd_ne hb]
      exact e
    have bag1 : BagAt (upd H p (.lst [.int x1, .int y1])) p := ⟨_, _, upd_same⟩
    have keepAll : ∀ b, H b ≠ none → upd H p (.lst [.int x1, .int y1]) b ≠ none := fun b hb => by
      by_cases e : b = p
      · rw [e, upd_same]
        exact fun z => nomatch z
      · rw [upd_ne e]
        exact hb
    have pH : H p ≠ none := by
      obtain ⟨x, y, e⟩ := bag
      rw [e]
      exact fun z => nomatch z
    generalize upd H p (.lst [.int x1, .int y1]) = G1 at kp bag1 keepAll
    have newOf : ∀ {b : Addr}, G1 b = none → H b = none := fun {b} e => Classical.byContradiction fun hb => keepAll b hb e
    -- the first return: one of three small things
    have small : (tRet (tOp (rIxL K) (tLst (tCons (tC .non) (tCons (tC (.str "")) (tCons (tLst tNil) tNil)))) (tCall spTake [] E0 (tCons (tVar 0) (tCons (tIf (tTest (tOp (rI0 fun i j => .bl (decide (j < i))) (tVar 1) (tC (.int 0)))) (tC (.int 3)) (tC (.int 2))) tNil))))) { nx := fun _ H' => Q .non H', rt := Q } [some (.ref p), some (.int deep), some (.int room), some (.int k), none, none, none] G1 := by
      refine ⟨Nat.zero_le _, fun l0 n0 => ⟨(by show 3 ≤ sizeLine; decide), fun l n => ?_⟩⟩
      have b2 : BagAt (upd (upd G1 l0 (.lst [])) l (.lst [.non, .str "", .ref l0])) p := let ⟨x, y, e⟩ := bag1; ⟨x, y, same_upd n _ _ (same_upd n0 _ _ e)⟩
      have p0 : p ≠ l0 := fun e => by
        obtain ⟨x, y, e2⟩ := bag1
        rw [← e, e2] at n0
        cases n0
      have p1 : p ≠ l := fun e => by
        obtain ⟨x, y, e2⟩ := bag1
        have e3 := same_upd n0 (o := .lst []) _ _ e2
        rw [e, n] at e3
        cases e3
      have l01 : l0 ≠ l := fun e => by
        rw [← e, upd_same] at n
        cases n
      refine ⟨_, rfl, _, rfl, _, _, rfl, rfl, _, rfl, ?_⟩
      by_cases hd0 : (0 : Int) < (deep : Int)
      · refine ltT hd0 ?_
        refine ⟨p, 3, rfl, b2, by decide, by decide, fun x2 y2 c hc0 hc1 => ?_⟩
        have hl : (upd (upd (upd G1 l0 (.lst [])) l (.lst [.non, .str "", .ref l0])) p (.lst [.int x2, .int y2])) l = some (.lst [.non, .str "", .ref l0]) := by
          rw [upd_ne p1.symm, upd_same]
        have hl0 : (upd (upd (upd G1 l0 (.lst [])) l (.lst [.non, .str "", .ref l0])) p (.lst [.int x2, .int y2])) l0 = some (.lst []) := by
          rw [upd_ne p0.symm, upd_ne l01, upd_same]
        have k2 : ∀ b o, b ≠ p → H b = some o → (upd (upd (upd G1 l0 (.lst [])) l (.lst [.non, .str "", .ref l0])) p (.lst [.int x2, .int y2])) b = some o := fun b o hb e => by
          rw [upd_ne hb]
          exact same_upd n _ _ (same_upd n0 _ _ (kp b o hb e))
        have b3 : BagAt (upd (upd (upd G1 l0 (.lst [])) l (.lst [.non, .str "", .ref l0])) p (.lst [.int x2, .int y2])) p := ⟨_, _, upd_same⟩
        obtain rfl | rfl | rfl : c = 0 ∨ c = 1 ∨ c = 2 := by omega
        · exact ⟨l, _, 0, _, rfl, rfl, SqL.of hl, atI_nat (j := 0) rfl, q _ _ .none k2 b3 .non trivial (by simp [PyData.depth]) (by simpa [sz] using hr1)⟩
        · exact ⟨l, _, 1, _, rfl, rfl, SqL.of hl, atI_nat (j := 1) rfl, q _ _ (.str "") k2 b3 (.str _) (by show Lt ""; unfold Lt; decide +kernel) (by simp [PyData.depth]) (by simp only [sz]; exact hr1)⟩
        · refine ⟨l, _, 2, _, rfl, rfl, SqL.of hl, atI_nat (j := 2) rfl, q _ _ (.list []) k2 b3 (.lst (SqL.of ?_) .nil) trivial (by simp [PyData.depth, PyData.depthAll]; omega) (by simp [sz, szAll]; exact hr1)⟩
          rw [newp_at (newOf n0)]
          exact hl0
      · refine ltF hd0 ?_
        refine ⟨p, 2, rfl, b2, by decide, by decide, fun x2 y2 c hc0 hc1 => ?_⟩
        have hl : (upd (upd (upd G1 l0 (.lst [])) l (.lst [.non, .str "", .ref l0])) p (.lst [.int x2, .int y2])) l = some (.lst [.non, .str "", .ref l0]) := by
          rw [upd_ne p1.symm, upd_same]
        have hl0 : (upd (upd (upd G1 l0 (.lst [])) l (.lst [.non, .str "", .ref l0])) p (.lst [.int x2, .int y2])) l0 = some (.lst []) := by
          rw [upd_ne p0.symm, upd_ne l01, upd_same]
        have k2 : ∀ b o, b ≠ p → H b = some o → (upd (upd (upd G1 l0 (.lst [])) l (.lst [.non, .str "", .ref l0])) p (.lst [.int x2, .int y2])) b = some o := fun b o hb e => by
          rw [upd_ne hb]
          exact same_upd n _ _ (same_upd n0 _ _ (kp b o hb e))
        have b3 : BagAt (upd (upd (upd G1 l0 (.lst [])) l (.lst [.non, .str "", .ref l0])) p (.lst [.int x2, .int y2])) p := ⟨_, _, upd_same⟩
        obtain rfl | rfl : c = 0 ∨ c = 1 := by omega
        · exact ⟨l, _, 0, _, rfl, rfl, SqL.of hl, atI_nat (j := 0) rfl, q _ _ .none k2 b3 .non trivial (by simp [PyData.depth]) (by simpa [sz] using hr1)⟩
        · exact ⟨l, _, 1, _, rfl, rfl, SqL.of hl, atI_nat (j := 1) rfl, q _ _ (.str "") k2 b3 (.str _) (by show Lt ""; unfold Lt; decide +kernel) (by simp [PyData.depth]) (by simp only [sz]; exact hr1)⟩
    refine ⟨_, rfl, rfl, _, rfl, ?_⟩
    by_cases e0 : k = 0
    · exact eqT e0 (iteT small)
    refine eqF e0 ⟨_, rfl, rfl, _, rfl, ?_⟩
    by_cases er : (room : Int) = 1
    · exact eqT er small
    refine eqF er ?_
    -- a text
    have text : (tRet (tCall spText [] E0 (tCons (tVar 0) (tCons (tCB (fun xs H Q => ∃ i j, xs = [.int i, .int j] ∧ Q (.int (if j < i then j else i)) H) (tCons (tC (.int 4)) (tCons (tOp (rI0 fun i j => .int (i - j)) (tVar 2) (tC (.int 1))) tNil))) tNil)))) { nx := fun _ H' => Q .non H', rt := Q } [some (.ref p), some (.int deep), some (.int room), some (.int k), none, none, none] G1 := by
      refine ⟨_, rfl, _, rfl, _, _, rfl, rfl, _, _, rfl, p, _, rfl, bag1, ?_, ?_, fun H' z k2 b2 lz hz => ?_⟩
      · split <;> omega
      · split <;> omega
      · refine q H' (.str z) (.str z) (fun b o hb e => k2 b o hb (kp b o hb e)) b2 (.str z) lz (by simp [PyData.depth]) ?_
        simp only [sz]
        split at hz <;> omega
    refine ⟨_, rfl, rfl, _, rfl, ?_⟩
    by_cases e1 : k = 1
    · exact eqT e1 (iteT text)
    refine eqF e1 ⟨_, rfl, rfl, _, rfl, ?_⟩
    by_cases ed : (deep : Int) = 0
    · exact eqT ed text
    refine eqF ed ?_
    clear small text
    obtain ⟨M, rfl⟩ : ∃ M, deep = M + 1 := ⟨deep - 1, by omega⟩
    -- made, left = [], room - 1
    refine ⟨Nat.zero_le _, fun m nm => ⟨_, rfl, _, _, rfl, rfl, _, _, rfl, ?_⟩⟩
    have nmH : H m = none := newOf nm
    have mp : m ≠ p := fun e => by
      rw [e] at nmH
      exact pH nmH
    have b2 : BagAt (upd G1 m (.lst [])) p := let ⟨x, y, e⟩ := bag1; ⟨x, y, same_upd nm _ _ e⟩
    refine ⟨_, rfl, p, 5, rfl, b2, by decide, by decide, fun x2 y2 c hc0 hc1 => ?_⟩
    refine ⟨c, rfl, by omega, by omega, for_range (lo := 0) (n := c.toNat) (fun i σ H2 => ∃ (left : Nat) (ws : List V) (ds : List PyData) (y6 : Option V), σ = [some (.ref p), some (.int ((M + 1 : Nat) : Int)), some (.int room), some (.int k), some (.ref m), some (.int left), y6] ∧
      (∀ b o, b ≠ p → H b = some o → H2 b = some o) ∧ BagAt H2 p ∧ H2 m = some (.lst ws) ∧ DpAll K (newB H m H2) ws ds ∧ valAll ds ∧ PyData.depthAll ds ≤ M ∧ szAll ds + left + 1 = room) ?_ ?_ ?_⟩
    · refine ⟨room - 1, [], [], none, ?_, fun b o hb e => ?_, ⟨_, _, upd_same⟩, ?_, .nil, trivial, by simp [PyData.depthAll], by simp [szAll]; omega⟩
      · have e : ((room : Int) - 1) = ((room - 1 : Nat) : Int) := by omega
        show _ = _
        rw [← e]
        rfl
      · rw [upd_ne hb]
        exact same_upd nm _ _ (kp b o hb e)
      · rw [upd_ne mp, upd_same]
    · rintro i σ H2 hi ⟨left, ws, ds, y6, rfl, k2, b2, hm2, hws, hvs, hdp, hsz⟩
      refine ⟨_, rfl, _, _, rfl, rfl, _, rfl, ?_⟩
      by_cases hl : (0 : Int) < (left : Int)
      · refine ltT hl ?_
        have em : ((M + 1 : Nat) : Int) - 1 = ((M : Nat) : Int) := by omega
        refine ⟨_, rfl, .inl ⟨rfl, _, SqL.of hm2⟩, ⟨N - 1, by omega⟩, _, rfl, _, rfl, _, _, rfl, rfl, _, rfl, p, M, left, ?_, b2, (by show M ≤ N - 1; omega), by omega, by omega, fun H3 v d k3 b3 hv vd dd ds3 => ?_⟩
        · show [V.ref p, V.int (((M + 1 : Nat) : Int) - 1), V.int left] ++ [] = _
          rw [em]
          rfl
        have hm3 : H3 m = some (.lst ws) := k3 m _ mp hm2
        have wl : ws.length ≤ 1000 := by
          have e1 := DpAll.length hws
          have e2 := szAll_len ds
          omega
        refine ⟨m, ws, v, rfl, rfl, hm3, Nat.lt_of_le_of_lt wl (by decide), ?_⟩
        have all2 : ∀ b, H b ≠ none → H2 b ≠ none := fun b hb => by
          cases e : H b with
          | none => exact absurd e hb
          | some o =>
            by_cases eb : b = p
            · rw [eb]
              obtain ⟨x, y, e2⟩ := b2
              rw [e2]
              exact fun z => nomatch z
            · rw [k2 b o eb e]
              exact fun z => nomatch z
        have old : Same (newB H m H2) (newB H m (upd H3 m (.lst (ws ++ [v])))) := fun b o e => by
          by_cases bm : b = m
          · unfold newB at e
            rw [if_pos bm] at e
            cases e
          · cases hh : H b with
            | some u =>
              unfold newB at e
              rw [if_neg bm, hh] at e
              cases e
            | none =>
              have bp : b ≠ p := fun z => by
                rw [z] at hh
                exact pH hh
              rw [newB_at hh bm] at e ⊢
              rw [upd_ne bm]
              exact k3 b o bp e
        have new : Same (newp H2 H3) (newB H m (upd H3 m (.lst (ws ++ [v])))) := fun b o e => by
          cases h2 : H2 b with
          | some u =>
            rw [newp_old h2] at e
            cases e
          | none =>
            rw [newp_at h2] at e
            have hh : H b = none := Classical.byContradiction fun z => all2 b z h2
            have bm : b ≠ m := fun z => by
              rw [z, hm2] at h2
              cases h2
            rw [newB_at hh bm, upd_ne bm]
            exact e
        have b4 : BagAt (upd H3 m (.lst (ws ++ [v]))) p := let ⟨x, y, e⟩ := b3; ⟨x, y, by rw [upd_ne mp.symm]; exact e⟩
        have k4 : ∀ b o, b ≠ p → H b = some o → (upd H3 m (.lst (ws ++ [v]))) b = some o := fun b o hb e => by
          rw [upd_ne (ne_of_none e nmH)]
          exact k3 b o hb (k2 b o hb e)
        have hm4 : (upd H3 m (.lst (ws ++ [v]))) m = some (.lst (ws ++ [v])) := upd_same
        have vnew : Dp K (newB H m (upd H3 m (.lst (ws ++ [v])))) v d := dp_same new _ _ hv
        have all4 : DpAll K (newB H m (upd H3 m (.lst (ws ++ [v])))) (ws ++ [v]) (ds ++ [d]) := DpAll.append (dpAll_same old _ _ hws) (.cons vnew .nil)
        generalize upd H3 m (.lst (ws ++ [v])) = G4 at b4 k4 hm4 vnew all4
        have sub : Same (newB H m G4) G4 := fun b o e => newp_same _ _ (newB_newp _ _ e)
        -- left = left - size(made[-1])
        refine ⟨_, rfl, _, rfl, 1, rfl, m, _, -1, v, rfl, rfl, SqL.of hm4, atI_last _ _, v, d, newB H m G4, rfl, sub, vnew, vd, by omega, by omega, fun H5 s5 => ?_⟩
        refine ⟨_, _, rfl, rfl, left - sz d, ws ++ [v], ds ++ [d], some (.int (0 + (i : Int))), ?_, fun b o hb e => s5 _ _ (k4 b o hb e), ?_, s5 _ _ hm4, dpAll_same (newB_mono fun b o _ e => s5 _ _ e) _ _ all4, (valAll_append _ _).mpr ⟨hvs, vd, trivial⟩, ?_, ?_⟩
        · have e : ((left : Int) - (sz d : Int)) = ((left - sz d : Nat) : Int) := by omega
          show _ = _
          rw [← e]
          rfl
        · obtain ⟨x, y, e⟩ := b4
          exact ⟨x, y, s5 _ _ e⟩
        · rw [depthAll_append]
          simp only [PyData.depthAll]
          omega
        · rw [szAll_snoc]
          omega
      · refine ltF hl ?_
        exact ⟨left, ws, ds, _, rfl, k2, b2, hm2, hws, hvs, hdp, hsz⟩
    · rintro σ H2 ⟨left, ws, ds, y6, rfl, k2, b2, hm2, hws, hvs, hdp, hsz⟩
      refine ⟨_, rfl, q H2 (.ref m) (.list ds) k2 b2 (.lst (SqL.of ?_) (dpAll_same newB_newp _ _ hws)) hvs ?_ ?_⟩
      · rw [newp_at nmH]
        exact hm2
      · simp only [PyData.depth]
        omega
      · simp only [sz]
        omega
end
end TX
namespace TX
open PySem PySem.Spec PyProof.Rows L2
/-! ### a text, repeated -/
theorem mem_reps {P : Nat → Prop} {x : Array Nat} (hx : ∀ c ∈ x.toList, P c) : ∀ (k : Nat) (acc : Array Nat), (∀ c ∈ acc.toList, P c) → ∀ c ∈ ((List.replicate k x).foldl (· ++ ·) acc).toList, P c
  | 0, acc, h => by simpa using h
  | k + 1, acc, h => by
    rw [List.replicate_succ, List.foldl_cons]
    refine mem_reps hx k _ fun c hc => ?_
    rw [Array.toList_append] at hc
    exact (List.mem_append.mp hc).elim (h c) (hx c)
theorem size_rep : ∀ (x : Array Nat) (k : Nat) (acc : Array Nat), ((List.replicate k x).foldl (· ++ ·) acc).size = acc.size + k * x.size
  | x, 0, acc => by simp
  | x, k + 1, acc => by
    rw [List.replicate_succ, List.foldl_cons, size_rep x k, Array.size_append, Nat.succ_mul]
    omega
theorem mul_lt {x : Str} {n : Nat} (h : Lt x) : Lt (Txt.mul x (n : Int)) ∧ (Txt.mul x (n : Int)).length ≤ n * x.length + x.length := by
  unfold Txt.mul
  split
  · refine ⟨by unfold Lt; decide +kernel, ?_⟩
    have e : Str.empty.length = 0 := rfl
    omega
  · split
    · exact ⟨h, by omega⟩
    · refine ⟨mem_reps (P := fun c => 97 ≤ c ∧ c ≤ 122) h _ _ (by simp), ?_⟩
      have e := size_rep x.cps (n : Int).toNat #[]
      have e2 : (n : Int).toNat = n := by omega
      rw [e2] at e
      show ((List.replicate (n : Int).toNat x.cps).foldl (· ++ ·) #[]).size ≤ _
      rw [e2, e]
      have e3 : x.length = x.cps.size := rfl
      rw [e3]
      simp
section
variable {X : Cx}
def rMulS : R2 := fun x y H Q => ∃ (a : Str) (n : Nat), x = .str a ∧ y = .int n ∧ n ≤ 1000 ∧ a.length ≤ 1000 ∧ Q (.str (Txt.mul a (n : Int))) H
theorem op_mulS : OpR X (binaryOp .Mult) rMulS := by
  intro pins s σ H x y v u Q I rx ry h
  obtain ⟨a, n, rfl, rfl, hn, ha, q⟩ := h
  obtain ⟨t, rfl⟩ := rx
  obtain ⟨t', rfl⟩ := ry
  refine SB.mul ⟨?_, fun h1 _ => ?_, fun h1 _ => ?_⟩ fun t' k => ⟨.str _, H, I.tok k, ⟨t', rfl⟩, q⟩
  · rw [decide_eq_false (show ¬ ((n : Int) < -(2 ^ 63 : Int)) by omega), decide_eq_false (show ¬ ((n : Int) ≥ 2 ^ 63) by omega)]
    rfl
  · have h2 : (2 ^ 63 - 1 : Int) / 1000 ≤ (2 ^ 63 - 1) / (n : Int) := by
      refine Int.le_ediv_of_mul_le (by omega) ?_
      have e : (2 ^ 63 - 1 : Int) / 1000 = 9223372036854775 := by decide
      rw [e]
      have e2 : (9223372036854775 : Int) * (n : Int) ≤ 9223372036854775 * 1000 := Int.mul_le_mul_of_nonneg_left (by omega) (by omega)
      omega
    have e : (2 ^ 63 - 1 : Int) / 1000 = 9223372036854775 := by decide
    omega
  · have e : a.length * (n : Int).toNat ≤ 1000 * 1000 := Nat.mul_le_mul ha (by omega)
    show decide (a.length * (n : Int).toNat > sizeLine) = false
    exact decide_eq_false (by have : (1000 * 1000 : Nat) ≤ sizeLine := by decide
                              omega)
end
theorem lt_cut {z : Str} {lo hi : Option Int} (h : Lt z) : Lt (cutS z lo hi) := fun c hc => h c (List.mem_of_mem_drop (List.mem_of_mem_take (by simpa [cutS] using hc)))
theorem len_cut {z : Str} {t : Nat} : (cutS z none (some (t : Int))).length ≤ t := by
  unfold cutS
  show (List.toArray _).size ≤ t
  rw [List.size_toArray, List.length_take, HT.sIx_nat, HT.sIx_none]
  omega
theorem qfit {z : Str} (h : (z.length : Int) ≤ 5) : (("q" : Str)).length + z.length ≤ sizeLine := by
  have e : (("q" : Str)).length = 1 := by decide +kernel
  exact Nat.le_trans (show (("q" : Str)).length + z.length ≤ 6 by omega) (by decide)
/-! ### lists of data, cut and repeated -/
theorem DpAll.take {K : PySem.W.Frag} {H : Hp} : ∀ {ds : List PyData} {vs : List V} (n : Nat), DpAll K H vs ds → DpAll K H (vs.take n) (ds.take n)
  | [], _, n, h => by
    cases h
    simp
    exact .nil
  | d :: ds, _, 0, h => by
    simp
    exact .nil
  | d :: ds, _, n + 1, h => by
    cases h with
    | cons h1 h2 => exact .cons h1 (DpAll.take (ds := ds) n h2)
theorem DpAll.rep {K : PySem.W.Frag} {H : Hp} {ds : List PyData} {vs : List V} (h : DpAll K H vs ds) : ∀ n : Nat, DpAll K H (List.replicate n vs).flatten (List.replicate n ds).flatten
  | 0 => .nil
  | n + 1 => by
    rw [List.replicate_succ, List.replicate_succ, List.flatten_cons, List.flatten_cons]
    exact DpAll.append h (DpAll.rep h n)
theorem val_take : ∀ {ds : List PyData} (n : Nat), valAll ds → valAll (ds.take n)
  | [], n, h => by simpa using h
  | d :: ds, 0, h => trivial
  | d :: ds, n + 1, h => ⟨h.1, val_take n h.2⟩
theorem depth_take : ∀ {ds : List PyData} (n : Nat), PyData.depthAll (ds.take n) ≤ PyData.depthAll ds
  | [], n => by simp
  | d :: ds, 0 => by simp [PyData.depthAll]
  | d :: ds, n + 1 => by
    have := depth_take (ds := ds) n
    simp only [List.take_succ_cons, PyData.depthAll]
    omega
theorem val_rep {ds : List PyData} (h : valAll ds) : ∀ n : Nat, valAll (List.replicate n ds).flatten
  | 0 => trivial
  | n + 1 => by
    rw [List.replicate_succ, List.flatten_cons]
    exact (valAll_append _ _).mpr ⟨h, val_rep h n⟩
theorem depth_rep {ds : List PyData} : ∀ n : Nat, PyData.depthAll (List.replicate n ds).flatten ≤ PyData.depthAll ds
  | 0 => by simp [PyData.depthAll]
  | n + 1 => by
    have := depth_rep (ds := ds) n
    rw [List.replicate_succ, List.flatten_cons, depthAll_append]
    omega
/-- each of the data is at most that great -/
def EachLe (c : Nat) (ds : List PyData) : Prop := ∀ d ∈ ds, sz d ≤ c
theorem each_nil {c : Nat} : EachLe c [] := fun d hd => nomatch hd
theorem each_sum {c : Nat} : ∀ {ds : List PyData}, EachLe c ds → szAll ds ≤ c * ds.length
  | [], _ => by simp [szAll]
  | d :: ds, h => by
    have h1 := h d List.mem_cons_self
    have h2 := each_sum (ds := ds) fun e he => h e (List.mem_cons_of_mem _ he)
    rw [szAll, List.length_cons, Nat.mul_succ]
    omega
/-! ### what is new stays new -/
theorem newp_mono {H H2 H3 : Hp} {p : Addr} (pH : H p ≠ none) (k : ∀ b o, b ≠ p → H2 b = some o → H3 b = some o) : Same (newp H H2) (newp H H3) := fun b o e => by
  cases h : H b with
  | some u =>
    rw [newp_old h] at e
    cases e
  | none =>
    rw [newp_at h] at e ⊢
    exact k b o (fun z => pH (z ▸ h)) e
theorem newp_sub {H H2 H3 : Hp} (k : ∀ b, H b ≠ none → H2 b ≠ none) : Same (newp H2 H3) (newp H H3) := fun b o e => by
  cases h2 : H2 b with
  | some u =>
    rw [newp_old h2] at e
    cases e
  | none =>
    rw [newp_at h2] at e
    have h : H b = none := Classical.byContradiction fun z => k b z h2
    rw [newp_at h]
    exact e
/-- the entries of H are still there -/
theorem there {H H2 : Hp} {p : Addr} (k : ∀ b o, b ≠ p → H b = some o → H2 b = some o) (b2 : BagAt H2 p) : ∀ b, H b ≠ none → H2 b ≠ none := fun b hb => by
  cases e : H b with
  | none => exact absurd e hb
  | some o =>
    by_cases eb : b = p
    · rw [eb]
      obtain ⟨x, y, e2⟩ := b2
      rw [e2]
      exact fun z => nomatch z
    · rw [k b o eb e]
      exact fun z => nomatch z
theorem bag_in {H : Hp} {p : Addr} (b : BagAt H p) : H p ≠ none := by
  obtain ⟨x, y, e⟩ := b
  rw [e]
  exact fun z => nomatch z
theorem bag_same {H H' : Hp} {p : Addr} (b : BagAt H p) (s : Same H H') : BagAt H' p := let ⟨x, y, e⟩ := b; ⟨x, y, s _ _ e⟩
/-- a list of data at m, the bag at p: one more made behind -/
theorem grow {K : PySem.W.Frag} {H H2 H3 : Hp} {p m : Addr} {ws : List V} {ds : List PyData} {v : V} {d : PyData} (pH : H p ≠ none) (nmH : H m = none) (k2 : ∀ b o, b ≠ p → H b = some o → H2 b = some o) (b2 : BagAt H2 p) (hm2 : H2 m = some (.lst ws))
    (hws : DpAll K (newB H m H2) ws ds) (k3 : ∀ b o, b ≠ p → H2 b = some o → H3 b = some o) (b3 : BagAt H3 p) (hv : Dp K (newp H2 H3) v d) :
    (∀ b o, b ≠ p → H b = some o → (upd H3 m (.lst (ws ++ [v]))) b = some o) ∧ BagAt (upd H3 m (.lst (ws ++ [v]))) p ∧ H3 m = some (.lst ws) ∧ DpAll K (newB H m (upd H3 m (.lst (ws ++ [v])))) (ws ++ [v]) (ds ++ [d]) := by
  have mp : m ≠ p := fun e => pH (e ▸ nmH)
  have all2 := there k2 b2
  have old : Same (newB H m H2) (newB H m (upd H3 m (.lst (ws ++ [v])))) := fun b o e => by
    by_cases bm : b = m
    · unfold newB at e
      rw [if_pos bm] at e
      cases e
    · cases hh : H b with
      | some u =>
        unfold newB at e
        rw [if_neg bm, hh] at e
        cases e
      | none =>
        have bp : b ≠ p := fun z => pH (z ▸ hh)
        rw [newB_at hh bm] at e ⊢
        rw [upd_ne bm]
        exact k3 b o bp e
  have new : Same (newp H2 H3) (newB H m (upd H3 m (.lst (ws ++ [v])))) := fun b o e => by
    cases h2 : H2 b with
    | some u =>
      rw [newp_old h2] at e
      cases e
    | none =>
      rw [newp_at h2] at e
      have hh : H b = none := Classical.byContradiction fun z => all2 b z h2
      have bm : b ≠ m := fun z => by
        rw [z, hm2] at h2
        cases h2
      rw [newB_at hh bm, upd_ne bm]
      exact e
  refine ⟨fun b o hb e => ?_, ?_, k3 m _ mp hm2, DpAll.append (dpAll_same old _ _ hws) (.cons (dp_same new _ _ hv) .nil)⟩
  · rw [upd_ne (ne_of_none e nmH)]
    exact k3 b o hb (k2 b o hb e)
  · obtain ⟨x, y, e⟩ := b3
    exact ⟨x, y, by rw [upd_ne mp.symm]; exact e⟩
section
variable {P : Program} {w : World} {K : PySem.W.Frag} {mg : Str → Option Value} {base : Heap}
theorem ok_values {f fT fX fS : Addr} {fd dT dX dS : FuncData} (F : Fun K "_law_value" "_law_value" sValue f fd) (b : Binds K fd ["_law_bag_here", "_law_deep", "_law_room"] []) (g : mg "_law_value" = some (.ref f)) (Y : Nv mg) (C : Vc P w K mg base fT fX fS dT dX dS) :
    ∀ N : Nat, FnOk P w K mg base CX0 (N + 3) f fd ["_law_bag_here", "_law_deep", "_law_room"] (spValue K N)
  | 0 => ok_value F b g Y C 0 fun j => absurd j.2 (by omega)
  | N + 1 => ok_value F b g Y C (N + 1) fun ⟨M, e⟩ => by
    have e2 : M = N := by omega
    subst e2
    exact ok_values F b g Y C M
/-! ### _law_great -/
def spGreat (K : PySem.W.Frag) : Sp := fun vs H Q _ => ∃ (p : Addr), vs = [.ref p] ∧ BagAt H p ∧
  ∀ (H' : Hp) (v : V) (d : PyData), (∀ b o, b ≠ p → H b = some o → H' b = some o) → BagAt H' p → Dp K (newp H H') v d → valD d → d.depth ≤ 13 → sz d ≤ 500 → Q v H'
theorem scGreat : FnScope ["_law_bag_here", "_law_pick", "_law_word", "_law_turn", "_law_small", "_law_made", "_law_k"] ["_law_bag_here"] (defScope sGreat) := ⟨rfl, rfl, rfl, by decide +kernel, rfl, by decide +kernel, by decide +kernel⟩
theorem ok_great {f fT fX fS fV : Addr} {fd dT dX dS dV : FuncData} (F : Fun K "_law_great" "_law_great" sGreat f fd) (Y : Nv mg) (C : Vc P w K mg base fT fX fS dT dX dS) (GV : FnOk P w K mg base CX0 7 fV dV ["_law_bag_here", "_law_deep", "_law_room"] (spValue K 4)) (gV : mg "_law_value" = some (.ref fV))
    (kV : PySem.W.keepIn K (.ref fV) = true) (bV : Binds K dV ["_law_bag_here", "_law_deep", "_law_room"] []) : FnOk P w K mg base CX0 8 f fd ["_law_bag_here"] (spGreat K) := by
  refine F.ok scGreat (fun vs H Q E h => ?_) (fun cdv A outer s H vs Q E hr h => ?_)
  · obtain ⟨p, rfl, _⟩ := h
    rfl
  · obtain ⟨p, rfl, bag, q⟩ := h
    have hr1 : Room 1 _ := hr.mono (by decide)
    have hr2 : Room 2 _ := hr.mono (by decide)
    refine ⟨_, pss_cons (ps_set (i := 1) scGreat.nd rfl (.inl rfl) (pe_call C.GT hr1 (by rfl) C.gT C.kT C.bT .nil pass0 (pa_cons (pv 0) (pa_cons pe_int pa_nil))))
      (pss_cons (ps_if (pt_cmpR op_gt (pv 1) pe_int (nomark _)) (pss_one (ps_ret (pe_call GV hr (by rfl) gV kV bV .nil pass0 (pa_cons (pv 0) (pa_cons pe_int (pa_cons pe_int pa_nil)))))) pss_nil)
      (pss_cons (ps_if (pt_cmpR op_eq (pv 1) pe_int (nomark _))
        (pss_cons (ps_set (i := 2) scGreat.nd rfl (.inl rfl) (pe_op op_add_str pe_str (pe_call C.GX hr2 (by rfl) C.gX C.kX C.bX .nil pass0 (pa_cons (pv 0) (pa_cons pe_int pa_nil)))))
        (pss_one (ps_ret (pe_slice sl_str (pe_op op_mulS (pv 2) pe_int) po_none (po_some (pe_call C.GT hr1 (by rfl) C.gT C.kT C.bT .nil pass0 (pa_cons (pv 0) (pa_cons pe_int pa_nil)))))))) pss_nil)
      (pss_cons (ps_if (pt_cmpR op_eq (pv 1) pe_int (nomark _))
        (pss_cons (ps_setLc (i := 4) (own := [("_law_turn", 3)]) (g := gName 3) (tt := tYes) (te := tCall (spValue K 4) [] E0 (tCons (tVar 0) (tCons (tC (.int 1)) (tCons (tC (.int 2)) tNil)))) rfl scGreat.nd rfl rfl (sw_true rfl rfl rfl (by decide +kernel))
            (pi_range1 (by rfl) Y.range (pa_cons (pe_op op_add pe_int (pe_call C.GT hr1 (by rfl) C.gT C.kT C.bT .nil pass0 (pa_cons (pv 0) (pa_cons pe_int pa_nil)))) pa_nil))
            (blkOk_by (N := ["_law_bag_here", "_law_pick", "_law_word", "_law_turn", "_law_small", "_law_made", "_law_k"]) (sc := defScope sGreat) (by decide +kernel)) (fun _ _ _ _ _ => pg_name (i := 3) scGreat.nd rfl (Or.inl rfl)) (fun _ _ _ _ _ => pts_nil)
            (fun _ _ _ _ _ => pe_call GV hr (by rfl) gV kV bV .nil pass0 (pa_cons (pv 0) (pa_cons pe_int (pa_cons pe_int pa_nil)))))
        (pss_one (ps_ret (pe_slice sl_list (pe_op op_rep (pv 4) pe_int) po_none (po_some (pe_call C.GT hr1 (by rfl) C.gT C.kT C.bT .nil pass0 (pa_cons (pv 0) (pa_cons pe_int pa_nil)))))))) pss_nil)
      (pss_cons (ps_set (i := 5) scGreat.nd rfl (.inl rfl) (pe_call GV hr (by rfl) gV kV bV .nil pass0 (pa_cons (pv 0) (pa_cons pe_int (pa_cons pe_int pa_nil)))))
      (pss_cons (ps_for PassesOwn.never rfl (pi_range1 (by rfl) Y.range (pa_cons (pe_call C.GT hr1 (by rfl) C.gT C.kT C.bT .nil pass0 (pa_cons (pv 0) (pa_cons pe_int pa_nil))) pa_nil)) (pg_name (i := 3) scGreat.nd rfl (.inl rfl))
        (pss_cons (ps_setLc (i := 4) (own := [("_law_k", 6)]) (g := gName 6) (tt := tYes) (te := tCall (spValue K 4) [] E0 (tCons (tVar 0) (tCons (tC (.int 1)) (tCons (tC (.int 3)) tNil)))) rfl scGreat.nd rfl rfl (sw_true rfl rfl rfl (by decide +kernel))
            (pi_range1 (by rfl) Y.range (pa_cons (pe_call C.GT hr1 (by rfl) C.gT C.kT C.bT .nil pass0 (pa_cons (pv 0) (pa_cons pe_int pa_nil))) pa_nil))
            (blkOk_by (N := ["_law_bag_here", "_law_pick", "_law_word", "_law_turn", "_law_small", "_law_made", "_law_k"]) (sc := defScope sGreat) (by decide +kernel)) (fun _ _ _ _ _ => pg_name (i := 6) scGreat.nd rfl (Or.inl rfl)) (fun _ _ _ _ _ => pts_nil)
            (fun _ _ _ _ _ => pe_call GV hr (by rfl) gV kV bV .nil pass0 (pa_cons (pv 0) (pa_cons pe_int (pa_cons pe_int pa_nil)))))
        (pss_one (ps_set (i := 5) scGreat.nd rfl (.inl rfl) (pe_ifExp (pt_cmpR op_eq (pe_call C.GT hr1 (by rfl) C.gT C.kT C.bT .nil pass0 (pa_cons (pv 0) (pa_cons pe_int pa_nil))) pe_int (nomark _)) (pe_op op_cat (pv 4) (pe_lst (pa_cons (pv 5) pa_nil))) (pe_op op_cat (pe_lst (pa_cons (pv 5) pa_nil)) (pv 4)))))))
      (pss_one (ps_ret (pv 5)))))))), ?_⟩
    refine ⟨_, rfl, p, 6, rfl, bag, by decide, by decide, fun x1 y1 k hk0 hk1 => ?_⟩
    have pH := bag_in bag
    have kp : ∀ b o, b ≠ p → H b = some o → upd H p (.lst [.int x1, .int y1]) b = some o := fun b o hb e => by
      rw [upd_ne hb]
      exact e
    have bag1 : BagAt (upd H p (.lst [.int x1, .int y1])) p := ⟨_, _, upd_same⟩
    generalize upd H p (.lst [.int x1, .int y1]) = G1 at kp bag1
    -- a value
    refine ⟨_, rfl, _, _, rfl, rfl, _, rfl, ?_⟩
    by_cases e3 : (2 : Int) < k
    · refine ltT e3 ?_
      exact ⟨_, rfl, p, 4, 60, rfl, bag1, by decide, by decide, by decide, fun H' v d k2 b2 hv vd dd ds => q H' v d (fun b o hb e => k2 b o hb (kp b o hb e)) b2 (dp_same (newp_sub (there kp bag1)) _ _ hv) vd (by omega) (by omega)⟩
    refine ltF e3 ?_
    -- a long text
    refine ⟨_, rfl, rfl, _, rfl, ?_⟩
    by_cases e2 : k = 2
    · refine eqT e2 ?_
      refine ⟨_, rfl, p, 5, rfl, bag1, by decide, by decide, fun H' z k2 b2 lz hz => ⟨_, _, rfl, rfl, qfit hz, ?_⟩⟩
      have lq : Lt "q" := by unfold Lt; decide +kernel
      have eq1 : (("q" : Str)).length = 1 := by decide +kernel
      have lw : Lt ("q" ++ z) := lt_append lq lz
      have ll : (("q" : Str) ++ z).length ≤ 6 := by
        rw [strLen_append]
        omega
      obtain ⟨lm, le⟩ := mul_lt (n := 399) lw
      refine ⟨_, rfl, _, 399, rfl, rfl, by decide, by omega, ?_⟩
      refine ⟨_, rfl, p, 400, rfl, b2, by decide, by decide, fun x2 y2 c hc0 hc1 => ?_⟩
      obtain ⟨j, rfl⟩ : ∃ j : Nat, c = j := ⟨c.toNat, by omega⟩
      have lj : (cutS (Txt.mul ("q" ++ z) ((399 : Nat) : Int)) none (some (j : Int))).length ≤ j := len_cut
      refine ⟨_, rfl, _, rfl, Nat.le_trans (Nat.le_trans le (show 399 * (("q" : Str) ++ z).length + (("q" : Str) ++ z).length ≤ 10000 by omega)) (by decide), ?_⟩
      refine q _ _ (.str _) (fun b o hb e => ?_) ⟨_, _, upd_same⟩ (.str _) (lt_cut lm) (by simp [PyData.depth]) ?_
      · rw [upd_ne hb]
        exact k2 b o hb (kp b o hb e)
      · simp only [sz]
        omega
    refine eqF e2 ?_
    -- a wide list
    refine ⟨_, rfl, rfl, _, rfl, ?_⟩
    by_cases e1 : k = 1
    · refine eqT e1 ?_
      refine ⟨_, rfl, p, 3, rfl, bag1, by decide, by decide, fun x2 y2 c hc0 hc1 => ⟨_, _, rfl, rfl, ?_⟩⟩
      have kp2 : ∀ b o, b ≠ p → H b = some o → upd G1 p (.lst [.int x2, .int y2]) b = some o := fun b o hb e => by
        rw [upd_ne hb]
        exact kp b o hb e
      have bag2 : BagAt (upd G1 p (.lst [.int x2, .int y2])) p := ⟨_, _, upd_same⟩
      generalize upd G1 p (.lst [.int x2, .int y2]) = G2 at kp2 bag2
      refine ⟨1 + c, rfl, by omega, by omega, fun D nD => lc_range (lo := 0) (n := (1 + c).toNat) (fun i H' => ∃ ws ds, H' D = some (.lst ws) ∧ ws.length = i ∧ DpAll K (newB H D H') ws ds ∧ valAll ds ∧ PyData.depthAll ds ≤ 1 ∧ EachLe 2 ds ∧ (∀ b o, b ≠ p → H b = some o → H' b = some o) ∧ BagAt H' p) ?_ ?_ ?_⟩
      · exact ⟨[], [], upd_same, rfl, .nil, trivial, by simp [PyData.depthAll], each_nil, fun b o hb e => same_upd nD _ _ (kp2 b o hb e), bag_same bag2 (same_upd nD)⟩
      · rintro i H' hi ⟨ws, ds, hD, wl, hws, hvs, hdp, hea, kk, bb⟩
        have nDH : H D = none := Classical.byContradiction fun z => there kp2 bag2 D z nD
        refine ⟨rfl, _, rfl, p, 1, 2, rfl, bb, by decide, by decide, by decide, fun H3 v d k3 b3 hv vd dd ds3 => ?_⟩
        obtain ⟨g1, g2, g3, g4⟩ := grow pH nDH kk bb hD hws k3 b3 hv
        refine ⟨ws, g3, Nat.lt_of_le_of_lt (show ws.length ≤ 100 by omega) (by decide), ws ++ [v], ds ++ [d], upd_same, by simp [wl], g4, (valAll_append _ _).mpr ⟨hvs, vd, trivial⟩, ?_, ?_, g1, g2⟩
        · rw [depthAll_append]
          simp only [PyData.depthAll]
          omega
        · intro x hx
          rcases List.mem_append.mp hx with h | h
          · exact hea x h
          · have e : x = d := by simpa using h
            rw [e]
            exact ds3
      · rintro H' ⟨ws, ds, hD, wl, hws, hvs, hdp, hea, kk, bb⟩
        have nDH : H D = none := Classical.byContradiction fun z => there kp2 bag2 D z nD
        have dl := DpAll.length hws
        refine ⟨_, rfl, D, 199, ws, rfl, rfl, hD, by decide, by decide, Nat.le_trans (show ws.length * 199 ≤ 1000 by omega) (by decide), fun r nr => ?_⟩
        have b4 : BagAt (upd H' r (.lst (List.replicate (199 : Int).toNat ws).flatten)) p := bag_same bb (same_upd nr)
        refine ⟨_, rfl, p, 200, rfl, b4, by decide, by decide, fun x3 y3 c2 hc2 hc3 => ?_⟩
        obtain ⟨j, rfl⟩ : ∃ j : Nat, c2 = j := ⟨c2.toNat, by omega⟩
        have rp : r ≠ p := fun e => by
          obtain ⟨x, y, e4⟩ := bb
          rw [e, e4] at nr
          cases nr
        refine ⟨_, rfl, r, _, rfl, SqL.of (by rw [upd_ne rp, upd_same]), fun s2 ns2 => ?_⟩
        have cv : cutV (List.replicate (199 : Int).toNat ws).flatten none (some (j : Int)) = ((List.replicate 199 ws).flatten).take j := by
          unfold cutV
          rw [HT.sIx_none, HT.sIx_nat, List.drop_zero, Nat.sub_zero]
          show List.take (min j (List.replicate 199 ws).flatten.length) (List.replicate 199 ws).flatten = _
          rw [← List.take_eq_take_min]
        rw [cv]
        have s2p : s2 ≠ p := fun e => by
          rw [e, upd_same] at ns2
          cases ns2
        have nH : H s2 = none := Classical.byContradiction fun z => by
          have h1 := there kk bb s2 z
          rw [upd_ne s2p] at ns2
          by_cases sr : s2 = r
          · rw [sr, upd_same] at ns2
            cases ns2
          · rw [upd_ne sr] at ns2
            exact h1 ns2
        have up : Same (newB H D H') (newp H (upd (upd (upd H' r (.lst (List.replicate (199 : Int).toNat ws).flatten)) p (.lst [.int x3, .int y3])) s2 (.lst (((List.replicate 199 ws).flatten).take j)))) := fun b o e => by
          have e5 := newB_newp b o e
          cases hh : H b with
          | some u =>
            rw [newp_old hh] at e5
            cases e5
          | none =>
            rw [newp_at hh] at e5 ⊢
            have bp : b ≠ p := fun z => pH (z ▸ hh)
            have br : b ≠ r := ne_of_none e5 nr
            have bs : b ≠ s2 := fun z => by
              rw [← z, upd_ne bp, upd_ne br, e5] at ns2
              cases ns2
            rw [upd_ne bs, upd_ne bp, upd_ne br]
            exact e5
        refine q _ (.ref s2) (.list (((List.replicate 199 ds).flatten).take j)) (fun b o hb e => ?_) ?_ (.lst (SqL.of ?_) (dpAll_same up _ _ (DpAll.take j (DpAll.rep hws 199)))) (val_take j (val_rep hvs 199)) ?_ ?_
        · have e6 := kk b o hb e
          rw [upd_ne (ne_of_none e nH), upd_ne hb, upd_ne (ne_of_none e6 nr)]
          exact e6
        · exact ⟨x3, y3, by rw [upd_ne s2p.symm, upd_same]⟩
        · rw [newp_at nH, upd_same]
        · have h1 := depth_take (ds := (List.replicate 199 ds).flatten) j
          have h2 := depth_rep (ds := ds) 199
          simp only [PyData.depth]
          omega
        · have h1 : EachLe 2 (((List.replicate 199 ds).flatten).take j) := fun x hx => by
            obtain ⟨l, hl, hx2⟩ := List.mem_flatten.mp (List.mem_of_mem_take hx)
            have e := (List.mem_replicate.mp hl).2
            rw [e] at hx2
            exact hea x hx2
          have h2 := each_sum h1
          have h3 : (((List.replicate 199 ds).flatten).take j).length ≤ j := by
            rw [List.length_take]
            omega
          simp only [sz]
          omega
    refine eqF e1 ?_
    -- a deep one
    refine ⟨_, rfl, p, 3, 20, rfl, bag1, by decide, by decide, by decide, fun G2 made d0 k2 b2 hv0 vd0 dd0 sz0 => ?_⟩
    have kp2 : ∀ b o, b ≠ p → H b = some o → G2 b = some o := fun b o hb e => k2 b o hb (kp b o hb e)
    have hv0' : Dp K (newp H G2) made d0 := dp_same (newp_sub (there kp bag1)) _ _ hv0
    refine ⟨_, rfl, p, 10, rfl, b2, by decide, by decide, fun x2 y2 c hc0 hc1 => ?_⟩
    refine ⟨c, rfl, by omega, by omega, for_range (lo := 0) (n := c.toNat) (fun i σ H2 => ∃ (v : V) (d : PyData) (y3 y4 : Option V), σ = [some (.ref p), some (.int k), none, y3, y4, some v, none] ∧ (∀ b o, b ≠ p → H b = some o → H2 b = some o) ∧ BagAt H2 p ∧
      Dp K (newp H H2) v d ∧ valD d ∧ d.depth ≤ 3 + i ∧ sz d ≤ 20 + 10 * i) ?_ ?_ ?_⟩
    · refine ⟨made, d0, none, none, rfl, fun b o hb e => ?_, ⟨_, _, upd_same⟩, dp_same (newp_mono pH fun b o hb e => ?_) _ _ hv0', vd0, by omega, by omega⟩
      · rw [upd_ne hb]
        exact kp2 b o hb e
      · rw [upd_ne hb]
        exact e
    · rintro i σ H2 hi ⟨v, d, y3, y4, rfl, kk, bb, hv, vd, dd, sd⟩
      -- small
      refine ⟨_, rfl, p, 2, rfl, bb, by decide, by decide, fun x3 y3 c2 hc2 hc3 => ?_⟩
      have kk2 : ∀ b o, b ≠ p → H b = some o → upd H2 p (.lst [.int x3, .int y3]) b = some o := fun b o hb e => by
        rw [upd_ne hb]
        exact kk b o hb e
      have bb2 : BagAt (upd H2 p (.lst [.int x3, .int y3])) p := ⟨_, _, upd_same⟩
      have hv2 : Dp K (newp H (upd H2 p (.lst [.int x3, .int y3]))) v d := dp_same (newp_mono pH fun b o hb e => by rw [upd_ne hb]; exact e) _ _ hv
      generalize upd H2 p (.lst [.int x3, .int y3]) = H3 at kk2 bb2 hv2
      refine ⟨c2, rfl, by omega, by omega, fun D nD => lc_range (lo := 0) (n := c2.toNat) (fun j H' => ∃ ws ds, H' D = some (.lst ws) ∧ ws.length = j ∧ DpAll K (newB H D H') ws ds ∧ valAll ds ∧ PyData.depthAll ds ≤ 1 ∧ EachLe 3 ds ∧ (∀ b o, b ≠ p → H b = some o → H' b = some o) ∧ BagAt H' p ∧ Dp K (newB H D H') v d) ?_ ?_ ?_⟩
      · have nDH : H D = none := Classical.byContradiction fun z => there kk2 bb2 D z nD
        refine ⟨[], [], upd_same, rfl, .nil, trivial, by simp [PyData.depthAll], each_nil, fun b o hb e => same_upd nD _ _ (kk2 b o hb e), bag_same bb2 (same_upd nD), dp_same (fun b o e => ?_) _ _ hv2⟩
        cases hh : H b with
        | some u =>
          rw [newp_old hh] at e
          cases e
        | none =>
          rw [newp_at hh] at e
          have bD : b ≠ D := ne_of_none e nD
          rw [newB_at hh bD, upd_ne bD]
          exact e
      · rintro j H' hj ⟨ws, ds, hD, wl, hws, hvs, hdp, hea, k4, b4, hvB⟩
        have nDH : H D = none := Classical.byContradiction fun z => there kk2 bb2 D z nD
        refine ⟨rfl, _, rfl, p, 1, 3, rfl, b4, by decide, by decide, by decide, fun H5 u e k5 b5 hu vu du su => ?_⟩
        obtain ⟨g1, g2, g3, g4⟩ := grow pH nDH k4 b4 hD hws k5 b5 hu
        refine ⟨ws, g3, Nat.lt_of_le_of_lt (show ws.length ≤ 100 by omega) (by decide), ws ++ [u], ds ++ [e], upd_same, by simp [wl], g4, (valAll_append _ _).mpr ⟨hvs, vu, trivial⟩, ?_, ?_, g1, g2, dp_same (fun b o eb => ?_) _ _ hvB⟩
        · rw [depthAll_append]
          simp only [PyData.depthAll]
          omega
        · intro x hx
          rcases List.mem_append.mp hx with h | h
          · exact hea x h
          · have e : x = e := by simpa using h
            rw [e]
            exact su
        · by_cases bD : b = D
          · unfold newB at eb
            rw [if_pos bD] at eb
            cases eb
          · cases hh : H b with
            | some u =>
              unfold newB at eb
              rw [if_neg bD, hh] at eb
              cases eb
            | none =>
              have bp : b ≠ p := fun z => pH (z ▸ hh)
              rw [newB_at hh bD] at eb ⊢
              rw [upd_ne bD]
              exact k5 b o bp eb
      · rintro H' ⟨ws, ds, hD, wl, hws, hvs, hdp, hea, k4, b4, hvB⟩
        have nDH : H D = none := Classical.byContradiction fun z => there kk2 bb2 D z nD
        have dl := DpAll.length hws
        have es := each_sum hea
        have wl1 : ws.length ≤ 1 := by omega
        -- made = ..
        refine ⟨_, rfl, p, 2, rfl, b4, by decide, by decide, fun x4 y4 c4 hc4 hc5 => ?_⟩
        have Dp_ : D ≠ p := fun e => pH (e ▸ nDH)
        have k6 : ∀ b o, b ≠ p → H b = some o → upd H' p (.lst [.int x4, .int y4]) b = some o := fun b o hb e => by
          rw [upd_ne hb]
          exact k4 b o hb e
        have b6 : BagAt (upd H' p (.lst [.int x4, .int y4])) p := ⟨_, _, upd_same⟩
        have hD6 : (upd H' p (.lst [.int x4, .int y4])) D = some (.lst ws) := by
          rw [upd_ne Dp_]
          exact hD
        have to6 : Same (newB H D H') (newp H (upd H' p (.lst [.int x4, .int y4]))) := fun b o e => newp_mono (H2 := H') pH (fun b o hb e => by rw [upd_ne hb]; exact e) b o (newB_newp b o e)
        generalize upd H' p (.lst [.int x4, .int y4]) = H6 at k6 b6 hD6 to6
        have hv6 := dp_same to6 _ _ hvB
        have hw6 := dpAll_same to6 _ _ hws
        have in6 : Same (newp H H6) H6 := newp_same
        -- one list more, and the two together
        have fin : ∀ (l r : Addr) (us : List V) (es2 : List PyData), H6 l = none → (upd H6 l (.lst [v])) r = none → DpAll K (newp H H6) us es2 → valAll es2 → PyData.depthAll es2 ≤ 3 + i → szAll es2 ≤ 20 + 10 * i + 3 →
            ∃ (v' : V) (d' : PyData) (y3 y4 : Option V), [some (V.ref p), some (V.int k), none, some (V.int (0 + (i : Int))), some (V.ref D), some (V.ref r), none] = [some (V.ref p), some (V.int k), none, y3, y4, some v', none] ∧ (∀ b o, b ≠ p → H b = some o → (upd (upd H6 l (.lst [v])) r (.lst us)) b = some o) ∧ BagAt (upd (upd H6 l (.lst [v])) r (.lst us)) p ∧
              Dp K (newp H (upd (upd H6 l (.lst [v])) r (.lst us))) v' d' ∧ valD d' ∧ d'.depth ≤ 3 + (i + 1) ∧ sz d' ≤ 20 + 10 * (i + 1) := by
          intro l r us es2 nl nr hus hvs2 hdp2 hsz2
          have s8 : Same H6 (upd (upd H6 l (.lst [v])) r (.lst us)) := (same_upd nl).trans (same_upd nr)
          have nrH : H r = none := Classical.byContradiction fun z => by
            have h1 := there k6 b6 r z
            by_cases rl : r = l
            · rw [rl, upd_same] at nr
              cases nr
            · rw [upd_ne rl] at nr
              exact h1 nr
          refine ⟨.ref r, .list es2, _, _, rfl, fun b o hb e => s8 _ _ (k6 b o hb e), bag_same b6 s8, .lst (SqL.of ?_) (dpAll_same (newp_mono pH fun b o _ e => s8 b o e) _ _ hus), hvs2, ?_, ?_⟩
          · rw [newp_at nrH, upd_same]
          · simp only [PyData.depth]
            omega
          · simp only [sz]
            omega
        refine ⟨rfl, _, rfl, ?_⟩
        have sB : szAll (ds ++ [d]) ≤ 20 + 10 * i + 3 ∧ szAll ([d] ++ ds) ≤ 20 + 10 * i + 3 := by
          rw [szAll_append, szAll_append]
          simp only [szAll]
          omega
        have dB : PyData.depthAll (ds ++ [d]) ≤ 3 + i ∧ PyData.depthAll ([d] ++ ds) ≤ 3 + i := by
          rw [depthAll_append, depthAll_append]
          simp only [PyData.depthAll]
          omega
        by_cases e4 : c4 = 0
        · refine eqT e4 ?_
          refine ⟨_, rfl, _, rfl, (by show 1 ≤ sizeLine; decide), fun l nl => ⟨D, l, ws, [v], rfl, rfl, same_upd nl _ _ hD6, upd_same, Nat.le_trans (show ws.length + 1 ≤ 2 by omega) (by decide), fun r nr => ?_⟩⟩
          exact fin l r (ws ++ [v]) (ds ++ [d]) nl nr (DpAll.append hw6 (.cons hv6 .nil)) ((valAll_append _ _).mpr ⟨hvs, vd, trivial⟩) dB.1 sB.1
        · refine eqF e4 ?_
          refine ⟨_, rfl, (by show 1 ≤ sizeLine; decide), fun l nl => ⟨_, rfl, l, D, [v], ws, rfl, rfl, upd_same, same_upd nl _ _ hD6, Nat.le_trans (show 1 + ws.length ≤ 2 by omega) (by decide), fun r nr => ?_⟩⟩
          exact fin l r ([v] ++ ws) ([d] ++ ds) nl nr (DpAll.append (.cons hv6 .nil) hw6) ((valAll_append _ _).mpr ⟨⟨vd, trivial⟩, hvs⟩) dB.2 sB.2
    · rintro σ H2 ⟨v, d, y3, y4, rfl, kk, bb, hv, vd, dd, sd⟩
      exact ⟨_, rfl, q H2 v d kk bb hv vd (by omega) (by omega)⟩
end
end TX
namespace TX
open PySem PySem.Spec PyProof.Rows L2
/-! ### data whose lists stand each at a place of its own: S, all of them -/
mutual
inductive Tr (H : Hp) : V → PyData → List Addr → Prop
  | non : Tr H .non .none []
  | bl (b : Bool) : Tr H (.bl b) (.bool b) []
  | int (i : Int) : Tr H (.int i) (.int i) []
  | str (x : Str) : Tr H (.str x) (.str x) []
  | lst {a : Addr} {xs : List V} {es : List PyData} {S : List Addr} : H a = some (.lst xs) → TrAll H xs es S → a ∉ S → Tr H (.ref a) (.list es) (a :: S)
  | tup {a : Addr} {xs : List V} {es : List PyData} {S : List Addr} : H a = some (.tup xs) → TrAll H xs es S → a ∉ S → Tr H (.ref a) (.tuple es) (a :: S)
inductive TrAll (H : Hp) : List V → List PyData → List Addr → Prop
  | nil : TrAll H [] [] []
  | cons {v : V} {d : PyData} {S : List Addr} {vs : List V} {ds : List PyData} {T : List Addr} : Tr H v d S → TrAll H vs ds T → (∀ b ∈ S, b ∉ T) → TrAll H (v :: vs) (d :: ds) (S ++ T)
end
theorem TrAll.length {H : Hp} : ∀ {ds : List PyData} {vs : List V} {S : List Addr}, TrAll H vs ds S → vs.length = ds.length
  | [], _, _, h => by cases h; rfl
  | _ :: _, _, _, h => by
    cases h with
    | cons _ h2 _ => exact congrArg (· + 1) (TrAll.length h2)
mutual
theorem Tr.frame {H H' : Hp} : ∀ {d : PyData} {v : V} {S : List Addr}, Tr H v d S → (∀ b ∈ S, ∀ o, H b = some o → H' b = some o) → Tr H' v d S
  | .none, _, _, h, _ => by cases h; exact .non
  | .bool b, _, _, h, _ => by cases h; exact .bl b
  | .int i, _, _, h, _ => by cases h; exact .int i
  | .str x, _, _, h, _ => by cases h; exact .str x
  | .list es, _, _, h, k => by
    cases h with
    | lst h1 h2 h3 => exact .lst (k _ List.mem_cons_self _ h1) (TrAll.frame h2 fun b hb => k b (List.mem_cons_of_mem _ hb)) h3
  | .tuple es, _, _, h, k => by
    cases h with
    | tup h1 h2 h3 => exact .tup (k _ List.mem_cons_self _ h1) (TrAll.frame h2 fun b hb => k b (List.mem_cons_of_mem _ hb)) h3
  | .dict _, _, _, h, _ => nomatch h
theorem TrAll.frame {H H' : Hp} : ∀ {ds : List PyData} {vs : List V} {S : List Addr}, TrAll H vs ds S → (∀ b ∈ S, ∀ o, H b = some o → H' b = some o) → TrAll H' vs ds S
  | [], _, _, h, _ => by cases h; exact .nil
  | d :: ds, _, _, h, k => by
    cases h with
    | cons h1 h2 h3 => exact .cons (Tr.frame h1 fun b hb => k b (List.mem_append_left _ hb)) (TrAll.frame h2 fun b hb => k b (List.mem_append_right _ hb)) h3
end
mutual
theorem Tr.dp {K : PySem.W.Frag} {H : Hp} : ∀ {d : PyData} {v : V} {S : List Addr}, Tr H v d S → Dp K H v d
  | .none, _, _, h => by cases h; exact .non
  | .bool b, _, _, h => by cases h; exact .bl b
  | .int i, _, _, h => by cases h; exact .int i
  | .str x, _, _, h => by cases h; exact .str x
  | .list es, _, _, h => by
    cases h with
    | lst h1 h2 h3 => exact .lst (SqL.of h1) (TrAll.dp h2)
  | .tuple es, _, _, h => by
    cases h with
    | tup h1 h2 h3 => exact .tup (SqT.of h1) (TrAll.dp h2)
  | .dict _, _, _, h => nomatch h
theorem TrAll.dp {K : PySem.W.Frag} {H : Hp} : ∀ {ds : List PyData} {vs : List V} {S : List Addr}, TrAll H vs ds S → DpAll K H vs ds
  | [], _, _, h => by cases h; exact .nil
  | d :: ds, _, _, h => by
    cases h with
    | cons h1 h2 h3 => exact .cons (Tr.dp h1) (TrAll.dp h2)
end
mutual
theorem Tr.there {H : Hp} : ∀ {d : PyData} {v : V} {S : List Addr}, Tr H v d S → ∀ b ∈ S, H b ≠ none
  | .none, _, _, h => by cases h; exact fun b hb => nomatch hb
  | .bool b, _, _, h => by cases h; exact fun b hb => nomatch hb
  | .int i, _, _, h => by cases h; exact fun b hb => nomatch hb
  | .str x, _, _, h => by cases h; exact fun b hb => nomatch hb
  | .list es, _, _, h => by
    cases h with
    | lst h1 h2 h3 =>
      intro b hb
      rcases List.mem_cons.mp hb with e | e
      · rw [e, h1]
        exact fun z => nomatch z
      · exact TrAll.there h2 b e
  | .tuple es, _, _, h => by
    cases h with
    | tup h1 h2 h3 =>
      intro b hb
      rcases List.mem_cons.mp hb with e | e
      · rw [e, h1]
        exact fun z => nomatch z
      · exact TrAll.there h2 b e
  | .dict _, _, _, h => nomatch h
theorem TrAll.there {H : Hp} : ∀ {ds : List PyData} {vs : List V} {S : List Addr}, TrAll H vs ds S → ∀ b ∈ S, H b ≠ none
  | [], _, _, h => by cases h; exact fun b hb => nomatch hb
  | d :: ds, _, _, h => by
    cases h with
    | cons h1 h2 h3 =>
      intro b hb
      rcases List.mem_append.mp hb with e | e
      · exact Tr.there h1 b e
      · exact TrAll.there h2 b e
end
theorem TrAll.split {H : Hp} : ∀ {ds es : List PyData} {vs : List V} {S : List Addr}, TrAll H vs (ds ++ es) S → ∃ a b A B, vs = a ++ b ∧ S = A ++ B ∧ TrAll H a ds A ∧ TrAll H b es B ∧ ∀ x ∈ A, x ∉ B
  | [], _, vs, S, h => ⟨[], vs, [], S, rfl, rfl, .nil, h, fun _ z => nomatch z⟩
  | d :: ds, es, _, _, h => by
    cases h with
    | @cons v _ S1 _ _ T h1 h2 h3 =>
      obtain ⟨a, b, A, B, rfl, rfl, ha, hb, hd⟩ := TrAll.split (ds := ds) (es := es) h2
      refine ⟨v :: a, b, S1 ++ A, B, rfl, (List.append_assoc ..).symm, .cons h1 ha (fun x hx hA => h3 x hx (List.mem_append_left _ hA)), hb, fun x hx hB => ?_⟩
      rcases List.mem_append.mp hx with e | e
      · exact h3 x e (List.mem_append_right _ hB)
      · exact hd x e hB
theorem tr_leaf {K : PySem.W.Frag} {H H' : Hp} {v : V} {d : PyData} (h : Dp K H v d) (e : (tyD d == "list" || tyD d == "tuple") = false) : Tr H' v d [] := by
  cases h with
  | non => exact .non
  | bl b => exact .bl b
  | int i => exact .int i
  | str x => exact .str x
  | lst _ _ => simp [tyD] at e
  | tup _ _ => simp [tyD] at e
def spCopyT (K : PySem.W.Frag) : Sp := fun vs H Q _ => ∃ (v : V) (d : PyData) (Hv : Hp), vs = [v] ∧ Same Hv H ∧ Dp K Hv v d ∧ nd d ≤ 1000000 ∧
  ∀ (H' : Hp) (v' : V) (S : List Addr), Same H H' → Tr H' v' d S → (∀ b ∈ S, H b = none) → Q v' H'
section
variable {P : Program} {w : World} {K : PySem.W.Frag} {mg : Str → Option Value} {base : Heap}
theorem ok_copyT {f fP : Addr} {fd fdP : FuncData} {k : Nat} (F : Fun K "copy_of" "copy_of" sCopy f fd) (T : Nm mg) (FP : Fun K "all_parts" "all_parts" sParts fP fdP) (bP : Binds K fdP ["thing"] []) (gP : mg "all_parts" = some (.ref fP)) :
    FnOk P w K mg base CX0 (k + 2) f fd ["thing"] (spCopyT K) := by
  have GP : FnOk P w K mg base CX0 (k + 1) fP fdP ["thing"] (spParts K) := ok_parts FP T
  refine F.ok scCopy (fun vs H Q E h => ?_) (fun cdv A outer s H vs Q E hr h => ?_)
  · obtain ⟨v, d, Hv, rfl, _⟩ := h
    rfl
  · obtain ⟨v, d, Hv, rfl, sv, hd, hn, q⟩ := h
    refine ⟨_, pss_cons (ps_if (pt_not (pt_val (pe_callB call_isiT (by rfl) T.isi (by decide +kernel) (pa_cons (pv 0) (pa_cons (pe_tup (pa_cons (pe_bltn (v := .ty "list") (by rfl) T.lst (by decide +kernel) rfl) (pa_cons (pe_bltn (v := .ty "tuple") (by rfl) T.tpl (by decide +kernel) rfl) pa_nil))) pa_nil))))) (pss_one (ps_ret (pv 0))) pss_nil) <| pss_cons (ps_set (i := 1) scCopy.nd rfl (.inr rfl) (pe_lst pa_nil))
      (pss_cons (ps_for PassesOwn.never rfl (pi_list (pe_revL (pe_call GP hr (by rfl) gP FP.kp bP .nil pass0 (pa_cons (pv 0) pa_nil)))) (pg_name (i := 2) scCopy.nd rfl (.inl rfl))
        (pss_cons (ps_set (i := 3) scCopy.nd rfl (.inl rfl) (pv 2))
        (pss_cons (ps_if (pt_val (pe_callB call_isiT (by rfl) T.isi (by decide +kernel) (pa_cons (pv 2) (pa_cons (pe_tup (pa_cons (pe_bltn (v := .ty "list") (by rfl) T.lst (by decide +kernel) rfl) (pa_cons (pe_bltn (v := .ty "tuple") (by rfl) T.tpl (by decide +kernel) rfl) pa_nil))) pa_nil))))
          (pss_one (ps_alt
            (ps_setLc (i := 3) (own := [("_", 4)]) (g := gName 4) (tt := tYes) (te := tBM0 K "list" rPop (tVar 1)) rfl scCopy.nd rfl rfl (sw_true rfl rfl rfl (by decide +kernel)) (pi_list (pv 2)) (blkOk_by (N := ["thing", "done", "part", "made", "_"]) (sc := defScope sCopy) (by decide +kernel))
              (fun _ _ _ _ _ => pg_name (i := 4) scCopy.nd rfl (Or.inl rfl)) (fun _ _ _ _ _ => pts_nil) (fun _ _ _ _ _ => pe_bm0 PySem.F.plainAttrs_list PySem.F.slot_list_pop PySem.F.type_list_pop mt_pop (pv 1)))
            (ps_setLc (i := 3) (own := [("_", 4)]) (g := gName 4) (tt := tYes) (te := tBM0 K "list" rPop (tVar 1)) rfl scCopy.nd rfl rfl (sw_true rfl rfl rfl (by decide +kernel)) (pi_tup (pv 2)) (blkOk_by (N := ["thing", "done", "part", "made", "_"]) (sc := defScope sCopy) (by decide +kernel))
              (fun _ _ _ _ _ => pg_name (i := 4) scCopy.nd rfl (Or.inl rfl)) (fun _ _ _ _ _ => pts_nil) (fun _ _ _ _ _ => pe_bm0 PySem.F.plainAttrs_list PySem.F.slot_list_pop PySem.F.type_list_pop mt_pop (pv 1)))))
          pss_nil)
        (pss_cons (ps_if (pt_val (pe_callB call_isi (by rfl) T.isi (by decide +kernel) (pa_cons (pv 2) (pa_cons (pe_bltn (v := .ty "tuple") (by rfl) T.tpl (by decide +kernel) rfl) pa_nil))))
          (pss_one (ps_set (i := 3) scCopy.nd rfl (.inl rfl) (pe_callTy call_tuple_of (by rfl) T.tpl (by decide +kernel) (pa_cons (pv 3) pa_nil))))
          pss_nil)
        (pss_one (ps_expr (pe_bm PySem.F.plainAttrs_list PySem.F.slot_list_append PySem.F.type_list_append mt_append (pv 1) (pa_cons (pv 3) pa_nil))))))))
      (pss_one (ps_ret (pe_ix ix_list (pv 1) pe_int (fun _ _ => rfl))))), ?_⟩
    refine ⟨_, rfl, by decide, fun tp0 ntp0 => ?_⟩
    refine ⟨v, tp0, _, .type (tyD d), [.type "list", .type "tuple"], _, rfl, upd_same, .cons (.ty _) (.cons (.ty _) .nil), dp_ty (dp_same (sv.trans (same_upd ntp0)) _ _ hd), isLT d K, _, rfl, ?_⟩
    have q2 : ∀ (H' : Hp) (v' : V) (S : List Addr), Same (upd H tp0 (.tup [.ty "list", .ty "tuple"])) H' → Tr H' v' d S → (∀ b ∈ S, (upd H tp0 (.tup [.ty "list", .ty "tuple"])) b = none) → Q v' H' := fun H' v' S e1 e2 e3 => q H' v' S ((same_upd ntp0).trans e1) e2 (fun b hb => (same_upd ntp0).free (e3 b hb))
    have sv2 : Same Hv (upd H tp0 (.tup [.ty "list", .ty "tuple"])) := sv.trans (same_upd ntp0)
    cases hlt : (tyD d == "list" || tyD d == "tuple") with
    | false =>
      exact iteT ⟨_, rfl, q2 _ _ [] (fun _ _ e => e) (tr_leaf hd hlt) (fun _ z => nomatch z)⟩
    | true =>
    refine iteF ?_
    generalize upd H tp0 (.tup [.ty "list", .ty "tuple"]) = H at sv2 q2
    clear q sv ntp0 tp0
    have sv := sv2
    have q := q2
    refine ⟨by decide, fun da nda => ?_⟩
    -- all_parts(thing)[::-1]
    refine ⟨_, rfl, v, d, Hv, rfl, sv.trans (same_upd nda), hd, hn, fun H1 p rs sm1 np hp hP hlen => ?_⟩
    have hda1 : H1 da = some (.lst []) := sm1 _ _ upd_same
    refine ⟨p, _, rfl, SqL.of hp, fun r nr => ?_⟩
    rw [List.reverse_reverse]
    have rda : da ≠ r := ne_of_none hda1 nr
    have s0 : Same H (upd H1 r (.lst rs)) := ((same_upd nda).trans sm1).trans (same_upd nr)
    have hr0 : H r = none := ((same_upd nda).trans sm1).free nr
    have nda0 : H da = none := nda
    refine ⟨r, rfl, ⟨_, SqL.of upd_same⟩, for_list (K := K) (a := r) (xs := rs) (fun i σ H2 => ∃ (S : List V × List PyData) (cs : List V) (y2 y3 : Option V), σ = [some v, some (.ref da), y2, y3, none] ∧ Same H H2 ∧ H2 r = some (.lst rs) ∧
      Path K Hv ([v], [d]) (rs.drop i) S ∧ H2 da = some (.lst cs.reverse) ∧ ∃ A, TrAll H2 cs S.2 A ∧ ∀ b ∈ A, H b = none ∧ b ≠ da) ?_ ?_ ?_ ?_⟩
    · exact ⟨([], []), [], none, none, rfl, s0, upd_same, hP, by rw [upd_ne rda]; exact hda1, [], .nil, fun b hb => nomatch hb⟩
    · rintro i σ H2 hi ⟨S, cs, y2, y3, rfl, _, g, _⟩
      exact SqL.of g
    · rintro i x σ H2 hx ⟨S, cs, y2, y3, rfl, sm, hrs, hPi, hda, Ar, hcs, hAr⟩
      have edrop : rs.drop i = x :: rs.drop (i + 1) := by
        obtain ⟨hj, e⟩ := List.getElem?_eq_some_iff.mp hx
        rw [List.drop_eq_getElem_cons hj, e]
      rw [edrop] at hPi
      cases hPi with
      | @cons _ S1 _ _ hP1 hst =>
      have cnt := path_count (.cons hP1 hst)
      have cnt0 : ndAll ([d] : List PyData) = nd d := by simp [ndAll]
      have lcs : cs.length ≤ 1000000 := by
        have e1 := TrAll.length hcs
        have e2 := ndAll_len S.2
        have e3 : ndAll (([v], [d]) : List V × List PyData).2 = nd d := cnt0
        omega
      -- the part's data
      obtain ⟨dx, hdx⟩ : ∃ dx, Dp K Hv x dx ∧ ((∃ r1 rd1, S1 = (x :: r1, dx :: rd1) ∧ S = (r1, rd1) ∧ (tyD dx == "list" || tyD dx == "tuple") = false) ∨
          (∃ a xs es r1 rd1, x = .ref a ∧ dx = .list es ∧ SqL K Hv a xs ∧ DpAll K Hv xs es ∧ S1 = (x :: r1, .list es :: rd1) ∧ S = (xs ++ r1, es ++ rd1)) ∨
          (∃ a xs es r1 rd1, x = .ref a ∧ dx = .tuple es ∧ SqT K Hv a xs ∧ DpAll K Hv xs es ∧ S1 = (x :: r1, .tuple es :: rd1) ∧ S = (xs ++ r1, es ++ rd1))) := by
        cases hst with
        | leaf h e => exact ⟨_, h, .inl ⟨_, _, rfl, rfl, e⟩⟩
        | lst h g => exact ⟨_, .lst h g, .inr (.inl ⟨_, _, _, _, _, rfl, rfl, h, g, rfl, rfl⟩)⟩
        | tup h g => exact ⟨_, .tup h g, .inr (.inr ⟨_, _, _, _, _, rfl, rfl, h, g, rfl, rfl⟩)⟩
      obtain ⟨hx1, hcase⟩ := hdx
      -- made = part; isinstance(part, (list, tuple))
      refine ⟨_, rfl, _, rfl, by decide, fun tp ntp => ?_⟩
      have sm3 : Same H (upd H2 tp (.tup [.ty "list", .ty "tuple"])) := sm.trans (same_upd ntp)
      have hda3 : (upd H2 tp (.tup [.ty "list", .ty "tuple"])) da = some (.lst cs.reverse) := same_upd ntp _ _ hda
      have hrs3 : (upd H2 tp (.tup [.ty "list", .ty "tuple"])) r = some (.lst rs) := same_upd ntp _ _ hrs
      have hcs3 : TrAll (upd H2 tp (.tup [.ty "list", .ty "tuple"])) cs S.2 Ar := TrAll.frame hcs fun b _ o e => same_upd ntp b o e
      refine ⟨x, tp, _, .type (tyD dx), [.type "list", .type "tuple"], _, rfl, upd_same, .cons (.ty _) (.cons (.ty _) .nil), dp_ty (dp_same (sv.trans sm3) _ _ hx1), isLT dx K, _, rfl, ?_⟩
      generalize upd H2 tp (.tup [.ty "list", .ty "tuple"]) = G at sm3 hda3 hrs3 hcs3
      rcases hcase with ⟨r1, rd1, rfl, rfl, e⟩ | ⟨a, xs, es, r1, rd1, rfl, rfl, g1, g2, rfl, rfl⟩ | ⟨a, xs, es, r1, rd1, rfl, rfl, g1, g2, rfl, rfl⟩
      · rw [e]
        refine iteF ?_
        have e2 : (tyD dx == "tuple") = false := (Bool.or_eq_false_iff.mp e).2
        refine ⟨_, rfl, x, .ty "tuple", .type (tyD dx), .type "tuple", _, rfl, .ty _, dp_ty (dp_leaf hx1 e), kit1 dx K, _, rfl, ?_⟩
        rw [e2]
        refine iteF ?_
        refine ⟨_, rfl, .inl ⟨rfl, _, SqL.of hda3⟩, _, rfl, da, _, _, rfl, rfl, hda3, Nat.lt_of_le_of_lt (by simpa using lcs) (by decide), ?_⟩
        refine ⟨_, x :: cs, _, _, rfl, same_fresh nda0 sm3, by rw [upd_ne rda.symm]; exact hrs3, hP1, ?_, ?_⟩
        · rw [upd_same]
          simp
        · exact ⟨[] ++ Ar, .cons (tr_leaf hx1 e) (TrAll.frame hcs3 fun b hb o e => by rw [upd_ne (hAr b hb).2]; exact e) (fun b hb => nomatch hb), hAr⟩
      · obtain ⟨c1, c2, A1, A2, rfl, rfl, hc1, hc2, dis⟩ := TrAll.split hcs3
        have hxl : xs.length = c1.length := (DpAll.length g2).trans (TrAll.length hc1).symm
        refine iteT (.inl ?_)
        refine ⟨_, rfl, a, rfl, ⟨_, (sv.trans sm3).seq g1⟩, fun D nD => lc_list (K := K) (a := a) (xs := xs) (fun j H4 => H4 da = some (.lst (c2.reverse ++ (c1.drop j).reverse)) ∧ H4 D = some (.lst (c1.take j)) ∧ ∀ b o, b ≠ da → b ≠ D → G b = some o → H4 b = some o) ?_ ?_ ?_ ?_⟩
        · have ne : da ≠ D := ne_of_none hda3 nD
          refine ⟨?_, upd_same, fun b o _ hb e => by rw [upd_ne hb]; exact e⟩
          rw [upd_ne ne, hda3]
          simp
        · rintro j H4 hj ⟨_, _, kp⟩
          have nDH : H D = none := sm3.free nD
          exact Same.seq (fun b o e => kp b o (ne_of_none e nda0) (ne_of_none e nDH) (sm3 b o e)) (sv.seq g1)
        · rintro j y H4 hy ⟨k1, k2, kp⟩
          have ne : da ≠ D := ne_of_none hda3 nD
          have hjl : j < c1.length := by
            have := (List.getElem?_eq_some_iff.mp hy).1
            omega
          have hcj : c1[j]? = some c1[j] := List.getElem?_eq_getElem hjl
          rw [rev_drop hcj, ← List.append_assoc] at k1
          refine ⟨rfl, .ref da, rfl, .inl ⟨rfl, _, SqL.of k1⟩, da, _, c1[j], rfl, rfl, k1, by simp, ?_⟩
          rw [List.dropLast_concat]
          refine ⟨c1.take j, by rw [upd_ne ne.symm]; exact k2, ?_, ?_, ?_, fun b o h1 h2 e => ?_⟩
          · refine Nat.lt_of_le_of_lt (show (c1.take j).length ≤ 1000000 from ?_) (by decide)
            rw [List.length_append] at lcs
            have := List.length_take_le j c1
            omega
          · rw [upd_ne ne, upd_same]
          · rw [upd_same, List.take_add_one, hcj]
            rfl
          · rw [upd_ne h2, upd_ne h1]
            exact kp b o h1 h2 e
        · rintro H4 ⟨k1, k2, kp⟩
          have ne : da ≠ D := ne_of_none hda3 nD
          have nDH : H D = none := sm3.free nD
          have sm4 : Same H H4 := fun b o e => kp b o (ne_of_none e nda0) (ne_of_none e nDH) (sm3 b o e)
          have rD : r ≠ D := ne_of_none hrs3 nD
          have hr4 : H4 r = some (.lst rs) := kp r _ rda.symm rD hrs3
          rw [hxl] at k1 k2
          rw [List.drop_length, List.reverse_nil, List.append_nil] at k1
          rw [List.take_length] at k2
          have at4 : ∀ b ∈ A1 ++ A2, ∀ o, G b = some o → H4 b = some o := fun b hb o e => kp b o (hAr b hb).2 (ne_of_none e nD) e
          have hd4 : TrAll H4 c1 es A1 := TrAll.frame hc1 fun b hb o e => at4 b (List.mem_append_left _ hb) o e
          have hd5 : TrAll H4 c2 rd1 A2 := TrAll.frame hc2 fun b hb o e => at4 b (List.mem_append_right _ hb) o e
          have nD1 : D ∉ A1 := fun hb => TrAll.there hc1 D hb nD
          have nD2 : D ∉ A2 := fun hb => TrAll.there hc2 D hb nD
          have hc1l : c1.length ≤ 1000000 ∧ c2.length ≤ 1000000 := by
            rw [List.length_append] at lcs
            omega
          refine ⟨_, rfl, .ref a, .ty "tuple", .type "list", .type "tuple", _, rfl, .ty _, dp_ty (d := .list es) (.lst (Same.seq sm4 (sv.seq g1)) (dpAll_same (sv.trans sm4) _ _ g2)), kit1 (.list es) K, _, rfl, ?_⟩
          refine iteF ?_
          refine ⟨_, rfl, .inl ⟨rfl, _, SqL.of k1⟩, _, rfl, da, _, _, rfl, rfl, k1, Nat.lt_of_le_of_lt (by simpa using hc1l.2) (by decide), ?_⟩
          refine ⟨_, .ref D :: c2, _, _, rfl, same_fresh nda0 sm4, by rw [upd_ne rda.symm]; exact hr4, hP1, ?_, ?_⟩
          · rw [upd_same]
            simp
          · refine ⟨(D :: A1) ++ A2, .cons (.lst (by rw [upd_ne ne.symm]; exact k2) (TrAll.frame hd4 fun b hb o e => by rw [upd_ne (hAr b (List.mem_append_left _ hb)).2]; exact e) nD1) (TrAll.frame hd5 fun b hb o e => by rw [upd_ne (hAr b (List.mem_append_right _ hb)).2]; exact e) fun b hb h2 => ?_, fun b hb => ?_⟩
            · rcases List.mem_cons.mp hb with z | z
              · exact nD2 (z ▸ h2)
              · exact dis b z h2
            · rcases List.mem_append.mp hb with z | z
              · rcases List.mem_cons.mp z with y | y
                · exact y ▸ ⟨nDH, ne.symm⟩
                · exact hAr b (List.mem_append_left _ y)
              · exact hAr b (List.mem_append_right _ z)
      · obtain ⟨c1, c2, A1, A2, rfl, rfl, hc1, hc2, dis⟩ := TrAll.split hcs3
        have hxl : xs.length = c1.length := (DpAll.length g2).trans (TrAll.length hc1).symm
        refine iteT (.inr ?_)
        refine ⟨_, rfl, a, rfl, ⟨_, same_sqt (sv.trans sm3) g1⟩, fun D nD => lc_tup (K := K) (a := a) (xs := xs) (fun j H4 => H4 da = some (.lst (c2.reverse ++ (c1.drop j).reverse)) ∧ H4 D = some (.lst (c1.take j)) ∧ ∀ b o, b ≠ da → b ≠ D → G b = some o → H4 b = some o) ?_ ?_ ?_ ?_⟩
        · have ne : da ≠ D := ne_of_none hda3 nD
          refine ⟨?_, upd_same, fun b o _ hb e => by rw [upd_ne hb]; exact e⟩
          rw [upd_ne ne, hda3]
          simp
        · rintro j H4 hj ⟨_, _, kp⟩
          have nDH : H D = none := sm3.free nD
          exact same_sqt (fun b o e => kp b o (ne_of_none e nda0) (ne_of_none e nDH) (sm3 b o e)) (same_sqt sv g1)
        · rintro j y H4 hy ⟨k1, k2, kp⟩
          have ne : da ≠ D := ne_of_none hda3 nD
          have hjl : j < c1.length := by
            have := (List.getElem?_eq_some_iff.mp hy).1
            omega
          have hcj : c1[j]? = some c1[j] := List.getElem?_eq_getElem hjl
          rw [rev_drop hcj, ← List.append_assoc] at k1
          refine ⟨rfl, .ref da, rfl, .inl ⟨rfl, _, SqL.of k1⟩, da, _, c1[j], rfl, rfl, k1, by simp, ?_⟩
          rw [List.dropLast_concat]
          refine ⟨c1.take j, by rw [upd_ne ne.symm]; exact k2, ?_, ?_, ?_, fun b o h1 h2 e => ?_⟩
          · refine Nat.lt_of_le_of_lt (show (c1.take j).length ≤ 1000000 from ?_) (by decide)
            rw [List.length_append] at lcs
            have := List.length_take_le j c1
            omega
          · rw [upd_ne ne, upd_same]
          · rw [upd_same, List.take_add_one, hcj]
            rfl
          · rw [upd_ne h2, upd_ne h1]
            exact kp b o h1 h2 e
        · rintro H4 ⟨k1, k2, kp⟩
          have ne : da ≠ D := ne_of_none hda3 nD
          have nDH : H D = none := sm3.free nD
          have sm4 : Same H H4 := fun b o e => kp b o (ne_of_none e nda0) (ne_of_none e nDH) (sm3 b o e)
          have rD : r ≠ D := ne_of_none hrs3 nD
          have hr4 : H4 r = some (.lst rs) := kp r _ rda.symm rD hrs3
          rw [hxl] at k1 k2
          rw [List.drop_length, List.reverse_nil, List.append_nil] at k1
          rw [List.take_length] at k2
          have at4 : ∀ b ∈ A1 ++ A2, ∀ o, G b = some o → H4 b = some o := fun b hb o e => kp b o (hAr b hb).2 (ne_of_none e nD) e
          have hd4 : TrAll H4 c1 es A1 := TrAll.frame hc1 fun b hb o e => at4 b (List.mem_append_left _ hb) o e
          have hd5 : TrAll H4 c2 rd1 A2 := TrAll.frame hc2 fun b hb o e => at4 b (List.mem_append_right _ hb) o e
          have nD1 : D ∉ A1 := fun hb => TrAll.there hc1 D hb nD
          have nD2 : D ∉ A2 := fun hb => TrAll.there hc2 D hb nD
          have hc1l : c1.length ≤ 1000000 ∧ c2.length ≤ 1000000 := by
            rw [List.length_append] at lcs
            omega
          refine ⟨_, rfl, .ref a, .ty "tuple", .type "tuple", .type "tuple", _, rfl, .ty _, dp_ty (d := .tuple es) (.tup (same_sqt sm4 (same_sqt sv g1)) (dpAll_same (sv.trans sm4) _ _ g2)), kit1 (.tuple es) K, _, rfl, ?_⟩
          refine iteT ?_
          -- made = tuple(made)
          refine ⟨_, rfl, D, c1, rfl, .inl ⟨SqL.of k2, fun tq ntq => ?_⟩⟩
          have nq : H tq = none := sm4.free ntq
          have dq : da ≠ tq := ne_of_none k1 ntq
          have rq : r ≠ tq := ne_of_none hr4 ntq
          have k5 : (upd H4 tq (.tup c1)) da = some (.lst c2.reverse) := by
            rw [upd_ne dq]
            exact k1
          refine ⟨_, rfl, .inl ⟨rfl, _, SqL.of k5⟩, _, rfl, da, _, _, rfl, rfl, k5, Nat.lt_of_le_of_lt (by simpa using hc1l.2) (by decide), ?_⟩
          refine ⟨_, .ref tq :: c2, _, _, rfl, same_fresh nda0 (sm4.trans (same_upd ntq)), by rw [upd_ne rda.symm, upd_ne rq]; exact hr4, hP1, ?_, ?_⟩
          · rw [upd_same]
            simp
          · have nq1 : tq ∉ A1 := fun hb => TrAll.there hd4 tq hb ntq
            have nq2 : tq ∉ A2 := fun hb => TrAll.there hd5 tq hb ntq
            have up : ∀ b ∈ A1 ++ A2, ∀ o, H4 b = some o → (upd (upd H4 tq (.tup c1)) da (.lst (c2.reverse ++ [.ref tq]))) b = some o := fun b hb o e => by
              rw [upd_ne (hAr b hb).2, upd_ne (ne_of_none e ntq)]
              exact e
            refine ⟨(tq :: A1) ++ A2, .cons (.tup (by rw [upd_ne dq.symm, upd_same]) (TrAll.frame hd4 fun b hb o e => up b (List.mem_append_left _ hb) o e) nq1) (TrAll.frame hd5 fun b hb o e => up b (List.mem_append_right _ hb) o e) fun b hb h2 => ?_, fun b hb => ?_⟩
            · rcases List.mem_cons.mp hb with z | z
              · exact nq2 (z ▸ h2)
              · exact dis b z h2
            · rcases List.mem_append.mp hb with z | z
              · rcases List.mem_cons.mp z with y | y
                · exact y ▸ ⟨nq, dq.symm⟩
                · exact hAr b (List.mem_append_left _ y)
              · exact hAr b (List.mem_append_right _ z)
    · rintro σ H2 ⟨S, cs, y2, y3, rfl, sm, hrs, hPi, hda, Ar, hcs, hAr⟩
      rw [List.drop_length] at hPi
      cases hPi
      cases hcs with
      | @cons c1 d1 A0 vs0 ds0 T0 h1 h2 hdis =>
        cases h2
        refine ⟨_, rfl, da, [c1], 0, c1, rfl, rfl, SqL.of hda, atI_nat (j := 0) rfl, ?_⟩
        exact q H2 c1 A0 sm h1 fun b hb => (hAr b (List.mem_append_left _ hb)).1
end
end TX
namespace TX
open PySem PySem.Spec PyProof.Rows L2
structure Nk (mg : Str → Option Value) : Prop where
  str : mg "str" = none
  bool : mg "bool" = none
/-! ### list(text) -/
def signV (z : Str) : List V := z.cps.toList.map fun c => V.str ⟨#[c]⟩
def signD (z : Str) : List PyData := z.cps.toList.map fun c => PyData.str ⟨#[c]⟩
theorem vals_get : ∀ (l : List V) (m : List Value), l.length = m.length → (∀ (j : Nat) v u, l[j]? = some v → m[j]? = some u → RelV v u) → Vals l m
  | [], [], _, _ => .nil
  | v :: l, u :: m, e, h => .cons (h 0 v u rfl rfl) (vals_get l m (by simpa using e) fun j a b ha hb => h (j + 1) a b (by simpa using ha) (by simpa using hb))
theorem call_list_s {X : Cx} (hc : X.calm = true) : CallR X (.type "list") (fun xs H Q => ∃ z : Str, xs = [.str z] ∧ z.length ≤ sizeLine ∧ ∀ l, H l = none → Q (.ref l) (upd H l (.lst (signV z)))) := by
  intro pins s σ H xs us Q I r h
  obtain ⟨z, rfl, hz, q⟩ := h
  obtain ⟨u, rfl, t, rfl⟩ := vals1 r
  have nf : H s.heap.objs.size = none := I.hok.fresh (Nat.le_refl _)
  refine call_list_str (I.ok.hd hc) z t (hn := hz) fun h' tk acc c' hk hS hacc => ⟨.ref _, _, I.laid (t' := tk) (o := .lst (signV z)) hk (Nat.le_refl _) ⟨?_, acc.toList, c', ?_, ?_⟩, rfl, q _ nf⟩
  · unfold signV
    rw [List.length_map]
    exact hz
  · refine vals_get _ _ ?_ fun j v u hv hu => ?_
    · unfold signV
      rw [List.length_map]
      have e := hacc.1
      simp only [Array.length_toList]
      omega
    · obtain ⟨c, t2, hc2, rfl⟩ := hacc.2 j u (by simpa using hu)
      have e : (signV z)[j]? = some (V.str ⟨#[c]⟩) := by
        unfold signV
        rw [List.getElem?_map]
        have e2 : z.cps.toList[j]? = some c := by simpa using hc2
        rw [e2]
        rfl
      rw [e] at hv
      cases hv
      exact ⟨t2, rfl⟩
  · simpa using hS
theorem dp_signs {K : PySem.W.Frag} {H : Hp} (z : Str) : DpAll K H (signV z) (signD z) := by
  unfold signV signD
  induction z.cps.toList with
  | nil => exact .nil
  | cons c l ih => exact .cons (.str _) ih

theorem kitN (d : PyData) (K : PySem.W.Frag) : PySem.W.kitOne K (.type (tyD d)) (.type "int") = some (tyD d == "int" || tyD d == "bool") := by
  cases d with
  | none => exact (kit_ty (a := "NoneType") (b := "int") (r := false) (by decide +kernel)).trans (by simp [tyD])
  | bool _ => exact (kit_ty (a := "bool") (b := "int") (r := true) (by decide +kernel)).trans (by simp [tyD])
  | int _ => exact (kit_ty (a := "int") (b := "int") (r := true) (by decide +kernel)).trans (by simp [tyD])
  | str _ => exact (kit_ty (a := "str") (b := "int") (r := false) (by decide +kernel)).trans (by simp [tyD])
  | list _ => exact (kit_ty (a := "list") (b := "int") (r := false) (by decide +kernel)).trans (by simp [tyD])
  | tuple _ => exact (kit_ty (a := "tuple") (b := "int") (r := false) (by decide +kernel)).trans (by simp [tyD])
  | dict _ => exact (kit_ty (a := "dict") (b := "int") (r := false) (by decide +kernel)).trans (by simp [tyD])
theorem kitB (d : PyData) (K : PySem.W.Frag) : PySem.W.kitOne K (.type (tyD d)) (.type "bool") = some (tyD d == "bool") := by
  cases d with
  | none => exact (kit_ty (a := "NoneType") (b := "bool") (r := false) (by decide +kernel)).trans (by simp [tyD])
  | bool _ => exact (kit_ty (a := "bool") (b := "bool") (r := true) (by decide +kernel)).trans (by simp [tyD])
  | int _ => exact (kit_ty (a := "int") (b := "bool") (r := false) (by decide +kernel)).trans (by simp [tyD])
  | str _ => exact (kit_ty (a := "str") (b := "bool") (r := false) (by decide +kernel)).trans (by simp [tyD])
  | list _ => exact (kit_ty (a := "list") (b := "bool") (r := false) (by decide +kernel)).trans (by simp [tyD])
  | tuple _ => exact (kit_ty (a := "tuple") (b := "bool") (r := false) (by decide +kernel)).trans (by simp [tyD])
  | dict _ => exact (kit_ty (a := "dict") (b := "bool") (r := false) (by decide +kernel)).trans (by simp [tyD])
def wholeB : PyData → Bool
  | .int _ => true
  | _ => false
def spWhole (K : PySem.W.Frag) : Sp := fun vs H Q _ => ∃ (v : V) (d : PyData) (Hv : Hp), vs = [v] ∧ Same Hv H ∧ Dp K Hv v d ∧ Q (.bl (wholeB d)) H
def innerD : PyData → List PyData
  | .list es => es
  | .str x => if 1 < x.length then signD x else []
  | _ => []
def spInner (K : PySem.W.Frag) : Sp := fun vs H Q _ => ∃ (v : V) (d : PyData) (Hv : Hp), vs = [v] ∧ Same Hv H ∧ Dp K Hv v d ∧ sz d ≤ 100000 ∧ ∀ (H' : Hp) (b : Addr) (xs : List V), Same H H' → SqL K H' b xs → DpAll K Hv xs (innerD d) → Q (.ref b) H'
section
variable {P : Program} {w : World} {K : PySem.W.Frag} {mg : Str → Option Value} {base : Heap}
theorem scWhole : FnScope ["thing"] ["thing"] (defScope s_is_whole_number) := ⟨rfl, rfl, rfl, by decide +kernel, rfl, by decide +kernel, by decide +kernel⟩
theorem ok_whole {f : Addr} {fd : FuncData} (F : Fun K "is_whole_number" "is_whole_number" s_is_whole_number f fd) (T : Nm mg) (k : Nk mg) (B : Nb mg) : FnOk P w K mg base CX0 1 f fd ["thing"] (spWhole K) := by
  refine F.ok scWhole (fun vs H Q E h => ?_) (fun cdv A outer s H vs Q E hr h => ?_)
  · obtain ⟨v, d, Hv, rfl, _⟩ := h
    rfl
  · obtain ⟨v, d, Hv, rfl, sv, hd, q⟩ := h
    refine ⟨_, pss_one (ps_ret (pe_and (pe_callB call_isi (by rfl) T.isi (by decide +kernel) (pa_cons (pv 0) (pa_cons (pe_bltn (v := .ty "int") (by rfl) B.int (by decide +kernel) rfl) pa_nil)))
      (pe_one (pe_not (pe_callB call_isi (by rfl) T.isi (by decide +kernel) (pa_cons (pv 0) (pa_cons (pe_bltn (v := .ty "bool") (by rfl) k.bool (by decide +kernel) rfl) pa_nil))))))), ?_⟩
    have ty := dp_ty (dp_same sv _ _ hd)
    refine ⟨_, rfl, v, .ty "int", _, .type "int", _, rfl, .ty _, ty, kitN d K, _, rfl, ?_⟩
    by_cases e : (tyD d == "int" || tyD d == "bool") = true
    · rw [e]
      refine iteT ⟨_, rfl, v, .ty "bool", _, .type "bool", _, rfl, .ty _, ty, kitB d K, _, rfl, ?_⟩
      have e2 : (!(tyD d == "bool")) = wholeB d := by
        cases d <;> simp [tyD] at e <;> simp [tyD, wholeB]
      show Q (.bl (!(tyD d == "bool"))) H
      rw [e2]
      exact q
    · have e' : (tyD d == "int" || tyD d == "bool") = false := by simpa using e
      rw [e']
      have e2 : wholeB d = false := by
        cases d with
        | int _ => simp [tyD] at e'
        | _ => rfl
      rw [e2] at q
      exact iteF q
theorem scInner : FnScope ["part"] ["part"] (defScope s_inner_of) := ⟨rfl, rfl, rfl, by decide +kernel, rfl, by decide +kernel, by decide +kernel⟩
theorem ok_inner {f : Addr} {fd : FuncData} (F : Fun K "inner_of" "inner_of" s_inner_of f fd) (T : Nm mg) (k : Nk mg) (B : Nb mg) : FnOk P w K mg base CX0 1 f fd ["part"] (spInner K) := by
  refine F.ok scInner (fun vs H Q E h => ?_) (fun cdv A outer s H vs Q E hr h => ?_)
  · obtain ⟨v, d, Hv, rfl, _⟩ := h
    rfl
  · obtain ⟨v, d, Hv, rfl, sv, hd, hz, q⟩ := h
    refine ⟨_, pss_cons (ps_if (pt_val (pe_callB call_isi (by rfl) T.isi (by decide +kernel) (pa_cons (pv 0) (pa_cons (pe_bltn (v := .ty "list") (by rfl) T.lst (by decide +kernel) rfl) pa_nil)))) (pss_one (ps_ret (pv 0))) pss_nil) <|
      pss_cons (ps_if (PW.pt (pw_and (pt_val (pe_callB call_isi (by rfl) T.isi (by decide +kernel) (pa_cons (pv 0) (pa_cons (pe_bltn (v := .ty "str") (by rfl) k.str (by decide +kernel) rfl) pa_nil)))) (pw_and1 (pt_cmpR op_gt (pe_callB call_len_str (by rfl) B.len PySem.boot_len (pa_cons (pv 0) pa_nil)) pe_int (nomark _)))))
        (pss_one (ps_ret (pe_callTy (call_list_s rfl) (by rfl) T.lst (by decide +kernel) (pa_cons (pv 0) pa_nil)))) pss_nil) <|
      pss_one (ps_ret (pe_lst pa_nil)), ?_⟩
    have ty := dp_ty (dp_same sv _ _ hd)
    refine ⟨_, rfl, v, .ty "list", _, .type "list", _, rfl, .ty _, ty, kitL d K, _, rfl, ?_⟩
    by_cases e : (tyD d == "list") = true
    · rw [e]
      refine iteT ?_
      cases hd with
      | @lst b xs es h1 h2 => exact ⟨_, rfl, q H b xs (Same.refl _) (sv.seq h1) h2⟩
      | _ => simp [tyD] at e
    · have e' : (tyD d == "list") = false := by simpa using e
      rw [e']
      refine iteF ⟨_, rfl, v, .ty "str", _, .type "str", _, rfl, .ty _, ty, kitS d K, _, rfl, ?_⟩
      by_cases e2 : (tyD d == "str") = true
      · rw [e2]
        refine iteT ?_
        cases hd with
        | str x =>
          have hx : x.length ≤ 100000 := by
            simp only [sz] at hz
            omega
          have xs : x.length ≤ sizeLine := Nat.le_trans hx (by decide)
          refine ⟨_, rfl, x, rfl, xs, _, _, rfl, rfl, _, rfl, ?_⟩
          by_cases h1 : 1 < x.length
          · rw [decide_eq_true (show (1 : Int) < ((x.length : Nat) : Int) by omega)]
            refine iteT ⟨_, rfl, x, rfl, xs, fun l nl => q _ l _ (same_upd nl) (SqL.of upd_same) ?_⟩
            simp only [innerD, if_pos h1]
            exact dp_signs x
          · rw [decide_eq_false (show ¬ (1 : Int) < ((x.length : Nat) : Int) by omega)]
            refine iteF ⟨by decide, fun l nl => q _ l _ (same_upd nl) (SqL.of upd_same) ?_⟩
            simp only [innerD, if_neg h1]
            exact .nil
        | _ => simp [tyD] at e2
      · have e2' : (tyD d == "str") = false := by simpa using e2
        rw [e2']
        refine iteF (A := False) ?_
        refine ⟨by decide, fun l nl => q _ l _ (same_upd nl) (SqL.of upd_same) ?_⟩
        have e3 : innerD d = [] := by
          cases d with
          | list _ => simp [tyD] at e'
          | str _ => simp [tyD] at e2'
          | _ => rfl
        rw [e3]
        exact .nil
end
end TX
namespace TX
open PySem PySem.Spec PyProof.Rows L2
structure Cl (K : PySem.W.Frag) (mg : Str → Option Value) (TE : Addr) (nm : Str) (C : Addr) : Prop where
  mgC : mg nm = some (.ref C)
  ox : OexC K C
  ec : ExcC K C
  xf : XfC K C
  ty : PySem.W.typeIn K (.ref C) = some (.type "type")
  mro : ∃ cd, PySem.W.clsIn K C = some cd ∧ cd.mro = [.ref C, .ref TE, .type "ValueError", .type "Exception", .type "BaseException", .type "object"]
theorem mro_is {K : PySem.W.Frag} {C : Addr} {cd : ClassData} {l : List Value} {b : Value} (h : PySem.W.clsIn K C = some cd) (e : cd.mro = l) (hl : l.isEmpty = false) : PySem.W.mroIn K C b = some (l.contains b) := by
  unfold PySem.W.mroIn
  rw [h]
  show (if cd.mro.isEmpty = true then none else some (cd.mro.contains b)) = _
  rw [e, hl, if_neg Bool.false_ne_true]
theorem ref_beq (a b : Addr) : (Value.ref a == Value.ref b) = decide (a = b) := by
  by_cases h : a = b
  · rw [h, decide_eq_true rfl]
    exact beq_self_eq_true _
  · rw [decide_eq_false h]
    exact beq_eq_false_iff_ne.mpr fun e => h (Value.ref.inj e)
section
variable {K : PySem.W.Frag} {mg : Str → Option Value} {TE C D : Addr} {nm nm' : Str}
theorem kit_same (c : Cl K mg TE nm C) : PySem.W.kitOne K (.ref C) (.ref C) = some true := by
  unfold PySem.W.kitOne
  rw [beq_self_eq_true, if_pos rfl]
theorem kit_cls (c : Cl K mg TE nm C) {cd : ClassData} (hd : PySem.W.clsIn K D = some cd) (ht : PySem.W.typeIn K (.ref D) = some (.type "type")) (hne : C ≠ D) : PySem.W.kitOne K (.ref C) (.ref D) = some (decide (D = TE)) := by
  obtain ⟨c1, h1, h2⟩ := c.mro
  have e1 : (Value.ref C == Value.ref D) = false := by
    rw [ref_beq]
    exact decide_eq_false hne
  have e2 : ((PySem.W.clsIn K D).isSome && PySem.W.typeIn K (.ref D) == some (.type "type")) = true := by
    rw [hd, ht]
    rfl
  unfold PySem.W.kitOne
  rw [e1, if_neg Bool.false_ne_true]
  show (if ((PySem.W.clsIn K D).isSome && PySem.W.typeIn K (.ref D) == some (.type "type")) = true then PySem.W.mroIn K C (.ref D) else none) = _
  rw [if_pos e2, mro_is h1 h2 rfl]
  have e3 : (Value.ref D == Value.ref C) = false := by
    rw [ref_beq]
    exact decide_eq_false (Ne.symm hne)
  simp only [List.contains_cons, e3, ref_beq, Bool.false_or]
  have f1 : (Value.ref D == Value.type "ValueError") = false := rfl
  have f2 : (Value.ref D == Value.type "Exception") = false := rfl
  have f3 : (Value.ref D == Value.type "BaseException") = false := rfl
  have f4 : (Value.ref D == Value.type "object") = false := rfl
  simp [f1, f2, f3, f4]
theorem kit_ve (c : Cl K mg TE nm C) : PySem.W.kitOne K (.ref C) (.type "ValueError") = some true := by
  obtain ⟨c1, h1, h2⟩ := c.mro
  unfold PySem.W.kitOne
  rw [show (Value.ref C == Value.type "ValueError") = false from rfl, if_neg Bool.false_ne_true]
  show (if PySem.W.kitMeta "ValueError" = true then PySem.W.mroIn K C (.type "ValueError") else none) = _
  rw [if_pos (by decide +kernel), mro_is h1 h2 rfl]
  have f0 : (Value.type "ValueError" == Value.ref C) = false := rfl
  have f1 : (Value.type "ValueError" == Value.ref TE) = false := rfl
  have f2 : (Value.type "ValueError" == Value.type "ValueError") = true := by decide +kernel
  simp only [List.contains_cons, f0, f1, f2, Bool.true_or, Bool.or_true]
/-- what «except TextorlistError» takes -/
theorem exm_te (c : Cl K mg TE nm C) (hs : PySem.W.subIn K (.ref TE) (.type "BaseException") = some true) (hd : PySem.W.hasDictIn K TE = true) (ht : PySem.W.typeIn K (.ref TE) = some (.type "type")) : PySem.W.exmOne K (.ref C) (.ref TE) = some true := by
  obtain ⟨c1, h1, h2⟩ := c.mro
  refine PySem.W.exm_ref hs hd ht ?_
  show PySem.W.mroIn K C (.ref TE) = _
  rw [mro_is h1 h2 rfl]
  have f1 : (Value.ref TE == Value.ref TE) = true := beq_self_eq_true _
  simp only [List.contains_cons, f1, Bool.true_or, Bool.or_true]
end
def rIsE3 (K : PySem.W.Frag) (a : Addr) (cls : Value) (d : Option Addr) : List V → Hp → VK → Prop := fun xs H Q => ∃ (D : Addr) (c : V) (cv : Value) (b : Bool), cls = .ref D ∧ ExcC K D ∧ xs = [.ref a, c] ∧ ClsV c cv ∧ PySem.W.kitOne K (.ref D) cv = some b ∧ (∀ dd, d = some dd → ∃ fs, H dd = some (.xd fs)) ∧ Q (.bl b) H
theorem call_isE3 {X : Cx} {a : Addr} {oe : Obj} {cls : Value} {d : Option Addr} {pn : List (Addr × Obj)} (hz : Zc cls d oe) (hf : ∃ vs, oe.data = .fields vs) : CallR (X.suite a ((a, oe) :: pn)) (.builtin "isinstance") (rIsE3 X.K a cls d) := by
  intro pins s σ H xs us Q I r h
  obtain ⟨D, c, cv, b, rfl, C, h1, h2, h3, h4, q⟩ := h
  exact call_isE2 C hz hf pins s σ H xs us Q I r ⟨c, cv, b, h1, h2, h3, h4, q⟩
theorem take0 {X : Cx} : Takes X (fun _ _ _ _ => False) := fun _ _ ⟨_, _, _, _, _, _, _, _, _, _, _, _, _, _, _, _, z⟩ => z.elim
/-- what the top's row of facts says of an error's class -/
theorem cl_of {K : PySem.W.Frag} {mg : Str → Option Value} {TE C : Addr} {x nm q : Str} {N : Addr} {bs : List Value} {sn : List Str} {sub : List Value} {ab : Bool} {col : Option Bool} {dd : Option Addr} {m0 m1 m2 m3 m5 : Option Value}
    (g : mg x = some (.ref C)) (l : K.lookup C = some (excClassObj nm q C N bs [.ref TE, .type "ValueError", .type "Exception", .type "BaseException", .type "object"] true sn sub ab col dd m0 m1 m2 m3 m5 "ValueError.__new__"))
    (sa : PySem.W.findIn K (.ref C) "__setattr__" = some (some (.builtin "object.__setattr__"))) (ga : PySem.W.findIn K (.ref C) "__getattribute__" = some (some (.builtin "BaseException.__getattribute__"))) (gg : PySem.W.findIn K (.ref C) "__getattr__" = some none)
    (ha : PySem.W.findIn K (.ref C) "__class__" = some (some (.builtin "object.__class__"))) (hn : PySem.W.specialIn K (.builtin "object.__class__") "__get__" = some (some (.builtin "getset_descriptor.__get__"))) (ht : PySem.W.takesIn K (.builtin "object.__class__") = some true)
    (kc : PySem.W.keepIn K (.ref C) = true) : Cl K mg TE x C := by
  have hc : ∃ cd, PySem.W.clsIn K C = some cd ∧ cd.mro = [.ref C, .ref TE, .type "ValueError", .type "Exception", .type "BaseException", .type "object"] ∧ cd.hasDict = true := by
    refine ⟨{ name := nm, bases := bs, mro := [.ref C, .ref TE, .type "ValueError", .type "Exception", .type "BaseException", .type "object"], ns := N, qualname := q, hasDict := true, slotNames := sn, subclasses := sub, abstract := ab, collection := col, hasDel := false }, ?_, ?_, ?_⟩
    · unfold PySem.W.clsIn
      rw [l] <;> rfl
    · rfl
    · rfl
  obtain ⟨cd, h1, h2, h3⟩ := hc
  have has : ∀ T : String, PySem.W.mroIn K C (.type T) = some ((Value.type T == Value.type "ValueError") || ((Value.type T == Value.type "Exception") || ((Value.type T == Value.type "BaseException") || ((Value.type T == Value.type "object") || false)))) := by
    intro T
    rw [mro_is h1 h2 rfl]
    have f0 : (Value.type T == Value.ref C) = false := rfl
    have f1 : (Value.type T == Value.ref TE) = false := rfl
    simp only [List.contains_cons, f0, f1, Bool.false_or, List.contains_nil]
  have sB : PySem.W.subIn K (.ref C) (.type "BaseException") = some true := (has "BaseException").trans (by decide +kernel)
  have sO : PySem.W.mroIn K C (.type "object") = some true := (has "object").trans (by decide +kernel)
  have hd : PySem.W.hasDictIn K C = true := by
    unfold PySem.W.hasDictIn
    rw [h1]
    exact h3
  have ty : PySem.W.typeIn K (.ref C) = some (.type "type") := by
    show (K.lookup C).map (·.cls) = _
    rw [l] <;> rfl
  exact ⟨g, ⟨⟨nm, q, N, bs, _, sn, sub, ab, col, dd, m0, m1, m2, m3, m5, l, rfl⟩, sa, sB, ty, kc⟩, ⟨ga, gg, sB, hd, ha, hn, ht, sO⟩, ⟨ga, gg, sB, hd⟩, ty, cd, h1, h2⟩
theorem passF {X : Cx} : Passes (L2.CX X.prog X.w) X (fun _ _ _ => False) := fun _ _ _ _ _ _ _ ⟨_, _, _, _, _, _, _, _, _, _, _, _, z⟩ => z.elim
/-- behind an __init__ of the fields fs: the error at a, its dict at dx -/
structure Made (K : PySem.W.Frag) (H : Hp) (a C dx : Addr) (fs : List (Str × V)) (H2 : Hp) (ws : List V) (ds : List PyData) : Prop where
  ea : H2 a = some (exo a C (some dx))
  ed : H2 dx = some (exd dx fs)
  new : H dx = none
  ne : dx ≠ a
  keep : ∀ b o, b ≠ a → H b = some o → H2 b = some o
  dat : DpAll K (newp H (del (del H2 a) dx)) ws ds
def spIn1 (K : PySem.W.Frag) (C : Addr) (fld : Str) : Sp := fun vs H Q _ => ∃ (a : Addr) (v : V) (d : PyData) (Hv : Hp), vs = [.ref a, v] ∧ OexC K C ∧ PySem.W.findIn K (.ref C) fld = some none ∧ H a = some (exo a C none) ∧ Same Hv H ∧ Dp K Hv v d ∧ nd d ≤ 1000000 ∧
  ∀ (H2 : Hp) (dx : Addr) (w : V), Made K H a C dx [(fld, w)] H2 [w] [d] → Q .non H2
theorem cut_same {H H' : Hp} {a dx : Addr} {o : HO} {u u' : HO} (ha : H a = some o) (hd : H' dx = none) : Same (newp H H') (del (del (upd (upd H' dx u) a u') a) dx) := fun b x e => by
  cases h : H b with
  | some y =>
    rw [newp_old h] at e
    cases e
  | none =>
    rw [newp_at h] at e
    have ba : b ≠ a := fun z => by
      rw [z, ha] at h
      cases h
    have bd : b ≠ dx := fun z => by
      rw [z, hd] at e
      cases e
    rw [del_ne bd, del_ne ba, upd_ne ba, upd_ne bd]
    exact e
theorem to_newp {H A B : Hp} (s : Same (newp H A) B) : Same (newp H A) (newp H B) := fun b o e => by
  cases q : H b with
  | some y =>
    rw [newp_old q] at e
    cases e
  | none =>
    rw [newp_at q]
    exact s _ _ e
theorem made_same {K : PySem.W.Frag} {H H2 : Hp} {a C dx : Addr} {fs fs' : List (Str × V)} {ws : List V} {ds : List PyData} (na : H a = none) (M : Made K (upd H a (exo a C none)) a C dx fs H2 ws ds) :
    Same H (upd (del H2 a) dx (.xd fs')) ∧ H dx = none ∧ DpAll K (newp H (upd (del H2 a) dx (.xd fs'))) ws ds := by
  have hd : H dx = none := by
    have e := M.new
    rw [upd_ne M.ne] at e
    exact e
  refine ⟨fun b o e => ?_, hd, dpAll_same (fun b o e => ?_) _ _ M.dat⟩
  · have ba := ne_of_none e na
    rw [upd_ne (ne_of_none e hd), del_ne ba]
    exact M.keep b o ba (by rw [upd_ne ba]; exact e)
  · cases q : (upd H a (exo a C none)) b with
    | some y =>
      rw [newp_old q] at e
      cases e
    | none =>
      rw [newp_at q] at e
      have ba : b ≠ a := fun z => by
        rw [z, upd_same] at q
        cases q
      rw [upd_ne ba] at q
      rw [newp_at q]
      have hb : b ≠ dx := fun z => by
        rw [z, del_same] at e
        cases e
      rw [upd_ne hb]
      rw [del_ne hb] at e
      exact e
def tFe (K : PySem.W.Frag) (a : Addr) (cls : Value) (d : Option Addr) (f : Str) (te : TE) : TE := fun σ H Q => ∃ C, cls = .ref C ∧ XfC K C ∧ PySem.W.findIn K (.ref C) f = some none ∧ tXf a cls d C f te σ H Q
theorem pe_fe {X : Cx} {a : Addr} {oe : Obj} {cls : Value} {d : Option Addr} {pn : List (Addr × Obj)} {e : Expr} {te : TE} {pos : Pos} {n : Str} (hz : Zc cls d oe) (hf : ∃ vs, oe.data = .fields vs) (he : PE (X.suite a ((a, oe) :: pn)) e te)
    (hb : attributeBase e n X.env (eval e X.env) = eval e X.env := by rfl) : PE (X.suite a ((a, oe) :: pn)) (.Attribute e n pos) (tFe X.K a cls d n te) := by
  refine ⟨fun pins s σ H Q I h => ?_⟩
  obtain ⟨C, _, T, hno, h⟩ := h
  exact (pe_xf T hno hz hf he hb).run pins s σ H Q I h

def natV (p : List Nat) : List V := p.map fun i => V.int ((i : Nat) : Int)
def natD (p : List Nat) : List PyData := p.map fun i => PyData.int ((i : Nat) : Int)
theorem dp_nats {K : PySem.W.Frag} {H : Hp} : ∀ p : List Nat, DpAll K H (natV p) (natD p)
  | [] => .nil
  | i :: p => .cons (.int _) (dp_nats p)
theorem nd_nats : ∀ p : List Nat, ndAll (natD p) = p.length
  | [] => rfl
  | i :: p => by
    have := nd_nats p
    simp only [natD, List.map_cons, ndAll, nd, List.length_cons] at this ⊢
    omega
section
variable {P : Program} {w : World} {K : PySem.W.Frag} {mg : Str → Option Value} {base : Heap} {fC : Addr} {fdC : FuncData} {TE NP : Addr}
theorem scNp : FnScope ["self", "place"] ["self", "place"] (defScope mNoPlace_init) := ⟨rfl, rfl, rfl, by decide +kernel, rfl, by decide +kernel, by decide +kernel⟩
theorem ok_inNp {f C : Addr} {fd : FuncData} (F : Fun K "__init__" "NoPlace.__init__" mNoPlace_init f fd) (GC : FnOk P w K mg base CX0 2 fC fdC ["thing"] (spCopy K)) (gC : mg "copy_of" = some (.ref fC)) (kC : PySem.W.keepIn K (.ref fC) = true) (bC : Binds K fdC ["thing"] []) :
    FnOk P w K mg base CX0 3 f fd ["self", "place"] (spIn1 K C "place") := by
  refine F.ok scNp (fun vs H Q E h => ?_) (fun cdv A outer s H vs Q E hr h => ?_)
  · obtain ⟨a, v, d, Hv, rfl, _⟩ := h
    rfl
  · obtain ⟨a, v, d, Hv, rfl, ox, no, ha, sv, hd, hn, q⟩ := h
    refine ⟨_, pss_one (ps_ost (pv 0) (pe_call GC hr (by rfl) gC kC bC .nil pass0 (pa_cons (pv 1) pa_nil))), ?_⟩
    refine ⟨_, rfl, v, d, Hv, rfl, sv, hd, hn, fun H' v' sm hv' => ⟨_, rfl, a, C, rfl, ox, no, .inl ⟨sm _ _ ha, fun dx ndx hne => ?_⟩⟩⟩
    refine q _ dx v' ⟨upd_same, by rw [upd_ne hne, upd_same], sm.free ndx, hne, fun b o hb e => ?_, .cons (dp_same (to_newp (cut_same ha ndx)) _ _ hv') .nil⟩
    rw [upd_ne hb, upd_ne (ne_of_none (sm _ _ e) ndx)]
    exact sm _ _ e
end
end TX
namespace TX
open PySem PySem.Spec PyProof.Rows L2
theorem drop_at {es : List PyData} {i : Nat} {e : PyData} (h : es[i]? = some e) : es.drop i = e :: es.drop (i + 1) := by
  obtain ⟨hj, e1⟩ := List.getElem?_eq_some_iff.mp h
  rw [List.drop_eq_getElem_cons hj, e1]
/-! ### the part at a place, by the rules -/
def atD : PyData → List PyData → Option PyData
  | d, [] => some d
  | d, k :: ks => match k with
    | .int i => if 0 ≤ i then (match (innerD d)[i.toNat]? with
      | some e => atD e ks
      | none => none) else none
    | _ => none
def foundD (d : PyData) : PyData → Option PyData
  | .tuple ks => atD d ks
  | _ => none
theorem signs_sz : ∀ l : List Nat, szAll (l.map fun c => PyData.str ⟨#[c]⟩) = 2 * l.length
  | [] => rfl
  | c :: l => by
    have := signs_sz l
    have e : sz (PyData.str ⟨#[c]⟩) = 2 := rfl
    simp only [List.map_cons, szAll, List.length_cons]
    omega
theorem inner_sz (d : PyData) : szAll (innerD d) ≤ 2 * sz d := by
  cases d with
  | list es => simp only [innerD, sz]; omega
  | str x =>
    have e : x.length = x.cps.toList.length := by simp [Str.length]
    simp only [innerD]
    split
    · unfold signD
      rw [signs_sz]
      simp only [sz]
      omega
    · simp [szAll]
  | _ => simp [innerD, szAll]
/-- a part is no greater than what it is of, or one sign -/
theorem inner_get {d e : PyData} {i : Nat} (h : (innerD d)[i]? = some e) : sz e ≤ sz d ∨ sz e ≤ 2 := by
  cases d with
  | list es =>
    have := sz_get (ds := es) h
    simp only [sz]
    omega
  | str x =>
    right
    simp only [innerD] at h
    split at h
    · unfold signD at h
      rw [List.getElem?_map] at h
      cases h2 : x.cps.toList[i]? with
      | none =>
        rw [h2] at h
        cases h
      | some c =>
        rw [h2] at h
        cases h
        exact Nat.le_refl 2
    · simp at h
  | _ => simp [innerD] at h
def spFound (K : PySem.W.Frag) (NP : Addr) : Sp := fun vs H Q E => ∃ (v u : V) (d pl : PyData) (Hv : Hp), vs = [v, u] ∧ Same Hv H ∧ Dp K Hv v d ∧ Dp K Hv u pl ∧ sz d ≤ 10000 ∧ nd pl ≤ 1000000 ∧
  (∀ e, foundD d pl = some e → ∀ H' w, Same H H' → Dp K Hv w e → Q w H') ∧ (foundD d pl = none → ∀ (H3 : Hp) (dx : Addr) (w : V), Same H H3 → H3 dx = some (.xd [("place", w)]) → Dp K (newp H H3) w pl → E (.ref NP) (some dx) H3)
section
variable {P : Program} {w : World} {K : PySem.W.Frag} {mg : Str → Option Value} {base : Heap} {TE NP : Addr}
theorem scFound : FnScope ["value", "place", "part", "at", "inner"] ["value", "place"] (defScope s_found_at) := ⟨rfl, rfl, rfl, by decide +kernel, rfl, by decide +kernel, by decide +kernel⟩
theorem ok_found {f fW fN fI : Addr} {fd dW dN dI : FuncData} (F : Fun K "found_at" "found_at" s_found_at f fd) (T : Nm mg) (B : Nb mg) (c : Cl K mg TE "NoPlace" NP) (iC : PySem.W.findIn K (.ref NP) "__init__" = some (some (.ref fI))) (tI : PySem.W.typeIn K (.ref fI) = some (.type "function")) (nP : PySem.W.findIn K (.ref NP) "place" = some none)
    (GI : FnOk P w K mg base CX0 3 fI dI ["self", "place"] (spIn1 K NP "place")) (bI : Binds K dI ["self", "place"] [])
    (GW : FnOk P w K mg base CX0 1 fW dW ["thing"] (spWhole K)) (gW : mg "is_whole_number" = some (.ref fW)) (kW : PySem.W.keepIn K (.ref fW) = true) (bW : Binds K dW ["thing"] [])
    (GN : FnOk P w K mg base CX0 1 fN dN ["part"] (spInner K)) (gN : mg "inner_of" = some (.ref fN)) (kN : PySem.W.keepIn K (.ref fN) = true) (bN : Binds K dN ["part"] []) :
    FnOk P w K mg base (L2.CX P w) 5 f fd ["value", "place"] (spFound K NP) := by
  refine F.okX scFound (fun vs H Q E h => ?_) (fun cdv A outer s H vs Q E hr h => ?_)
  · obtain ⟨v, u, d, pl, Hv, rfl, _⟩ := h
    rfl
  · obtain ⟨v, u, d, pl, Hv, rfl, sv, hd, hu, hz, hnd, q1, q2⟩ := h
    have r1 : Room 1 _ := hr.mono (by decide)
    refine ⟨_, pss_cons (ps_if (pt_not (pt_val (pe_callB call_isi (by rfl) T.isi (by decide +kernel) (pa_cons (pv 1) (pa_cons (pe_bltn (v := .ty "tuple") (by rfl) T.tpl (by decide +kernel) rfl) pa_nil)))))
        (pss_one (ps_raise rfl (takes_of rfl rfl rfl rfl) (by exact (pmk_oex c.ox iC tI GI hr bI .nil pass0 (by rfl) c.mgC (pa_cons (pv 1) pa_nil))))) pss_nil) <|
      pss_cons (ps_set (i := 2) scFound.nd rfl (.inl rfl) (pv 0)) <|
      pss_cons (ps_for (passes_of rfl) rfl (pi_tup (pv 1)) (pg_name (i := 3) scFound.nd rfl (.inl rfl)) (
        pss_cons (ps_set (i := 4) scFound.nd rfl (.inl rfl) (pe_call GN r1 (by rfl) gN kN bN .nil pass0 (pa_cons (pv 2) pa_nil))) <|
        pss_cons (ps_if (PW.pt (pw_or (pt_not (pt_val (pe_call GW r1 (by rfl) gW kW bW .nil pass0 (pa_cons (pv 3) pa_nil)))) (pw_or1 (pt_not (pt_chain op_le op_lt pe_int (pv 3) (pe_callB call_len_seq (by rfl) B.len PySem.boot_len (pa_cons (pv 4) pa_nil)))))))
          (pss_one (ps_raise rfl (takes_of rfl rfl rfl rfl) (by exact (pmk_oex c.ox iC tI GI hr bI .nil pass0 (by rfl) c.mgC (pa_cons (pv 1) pa_nil))))) pss_nil) <|
        pss_one (ps_set (i := 2) scFound.nd rfl (.inl rfl) (pe_ix ix_list (pv 4) (pv 3) (fun _ _ => rfl))))) <|
      pss_one (ps_ret (pv 2)), ?_⟩
    have ty := dp_ty (dp_same sv _ _ hu)
    -- NoPlace(place)
    have bad : foundD d pl = none → ∀ (G : Hp), Same H G → ∀ {z : Q = Q}, ∀ a, G a = none → ∃ (a' : Addr) (v' : V) (d' : PyData) (Hw : Hp), [V.ref a, u] = [.ref a', v'] ∧ OexC K NP ∧ PySem.W.findIn K (.ref NP) "place" = some none ∧ (upd G a (exo a NP none)) a' = some (exo a' NP none) ∧ Same Hw (upd G a (exo a NP none)) ∧ Dp K Hw v' d' ∧ nd d' ≤ 1000000 ∧
        ∀ (H2 : Hp) (dx : Addr) (w : V), Made K (upd G a (exo a NP none)) a' NP dx [("place", w)] H2 [w] [d'] → V.non = .non ∧ ∃ (dy : Addr) (fs : List (Str × V)), H2 a = some (exo a NP (some dy)) ∧ H2 dy = some (exd dy fs) ∧ G dy = none ∧ E (.ref NP) (some dy) (upd (del H2 a) dy (.xd fs)) := by
      intro e G sm _ a na
      refine ⟨a, u, pl, Hv, rfl, c.ox, nP, upd_same, (sv.trans sm).trans (same_upd na), hu, hnd, fun H2 dx w M => ?_⟩
      obtain ⟨s2, nx, hw⟩ := made_same (fs' := [("place", w)]) na M
      cases hw with
      | cons hw _ => exact ⟨rfl, dx, _, M.ea, M.ed, nx, q2 e _ dx w (sm.trans s2) upd_same (dp_same (newp_less sm) _ _ hw)⟩
    refine ⟨_, rfl, u, .ty "tuple", .type (tyD pl), .type "tuple", _, rfl, .ty _, ty, kit1 pl K, _, rfl, ?_⟩
    by_cases e : (tyD pl == "tuple") = true
    · rw [e]
      refine iteF ?_
      cases hu with
      | @tup t us ks t1 t2 =>
        refine ⟨_, rfl, ?_⟩
        have tl := DpAll.length t2
        refine ⟨_, rfl, t, rfl, ⟨us, same_sqt sv t1⟩, for_it (walk_tup (K := K) (a := t) (xs := us)) (fun i σ H1 => ∃ (w : V) (e : PyData) (y3 y4 : Option V), σ = [some v, some (.ref t), some w, y3, y4] ∧ Same H H1 ∧ Dp K Hv w e ∧ sz e ≤ 10002 ∧ foundD d (.tuple ks) = atD e (ks.drop i)) ⟨v, d, none, none, rfl, Same.refl _, hd, by omega, rfl⟩ (fun i σ H1 hi ⟨_, _, _, _, _, sm, _⟩ => same_sqt (sv.trans sm) t1) ?_ ?_⟩
        · rintro i x σ H1 H1' hi ⟨w1, e1, y3, y4, rfl, sm, hw, hz1, hf⟩ ⟨e3, hx⟩
          obtain rfl : H1 = H1' := e3.symm
          obtain ⟨kd, hk, hkd⟩ := DpAll.get t2 hx
          rw [drop_at hk] at hf
          refine ⟨_, rfl, w1, e1, Hv, rfl, sv.trans sm, hw, by omega, fun H2 b xs s2 hb hin => ?_⟩
          have xl := DpAll.length hin
          have ixl := inner_sz e1
          have ixl2 := szAll_len (innerD e1)
          refine ⟨_, rfl, x, kd, Hv, rfl, (sv.trans sm).trans s2, hkd, _, rfl, ?_⟩
          have fail : atD e1 (kd :: ks.drop (i + 1)) = none → ∀ (G : Hp), Same H G → foundD d (.tuple ks) = none := fun z _ _ => hf.trans z
          by_cases hk1 : wholeB kd = true
          · rw [hk1]
            refine iteF ?_
            cases hkd with
            | int n =>
              by_cases h0 : 0 ≤ n
              · refine ⟨_, rfl, _, _, rfl, rfl, _, rfl, ?_⟩
                rw [decide_eq_true h0]
                refine iteT ⟨_, rfl, b, xs, rfl, .inl hb, _, _, rfl, rfl, _, rfl, ?_⟩
                by_cases h1 : n < ((xs.length : Nat) : Int)
                · rw [decide_eq_true h1]
                  refine iteF ?_
                  have hget : xs[n.toNat]? = some (xs[n.toNat]'(by omega)) := List.getElem?_eq_getElem (by omega)
                  obtain ⟨e2, he2, hd2⟩ := DpAll.get hin hget
                  have en : n = ((n.toNat : Nat) : Int) := by omega
                  refine ⟨_, rfl, _, rfl, b, xs, n, _, rfl, rfl, hb, by rw [en]; exact atI_nat hget, ?_⟩
                  refine ⟨_, e2, _, _, rfl, sm.trans s2, hd2, ?_, ?_⟩
                  · rcases inner_get he2 with z | z <;> omega
                  · rw [hf]
                    simp only [atD, if_pos h0, he2]
                · rw [decide_eq_false h1]
                  refine iteT ?_
                  have hn : foundD d (.tuple ks) = none := by
                    rw [hf]
                    have : (innerD e1)[n.toNat]? = none := List.getElem?_eq_none (by omega)
                    simp only [atD, if_pos h0, this]
                  exact ⟨_, rfl, (by show 1 ≤ 1000; decide), fun a na => bad hn _ (sm.trans s2) (z := rfl) a na⟩
              · refine ⟨_, rfl, _, _, rfl, rfl, _, rfl, ?_⟩
                rw [decide_eq_false h0]
                refine iteF ⟨_, rfl, iteT ?_⟩
                have hn : foundD d (.tuple ks) = none := by
                  rw [hf]
                  simp only [atD, if_neg h0]
                exact ⟨_, rfl, (by show 1 ≤ 1000; decide), fun a na => bad hn _ (sm.trans s2) (z := rfl) a na⟩
            | _ => simp [wholeB] at hk1
          · have hk2 : wholeB kd = false := by simpa using hk1
            rw [hk2]
            refine iteT ?_
            have hn : foundD d (.tuple ks) = none := by
              rw [hf]
              cases kd <;> first | rfl | simp [wholeB] at hk2
            exact ⟨_, rfl, (by show 1 ≤ 1000; decide), fun a na => bad hn _ (sm.trans s2) (z := rfl) a na⟩
        · rintro σ H1 ⟨w1, e1, y3, y4, rfl, sm, hw, hz1, hf⟩
          rw [tl, List.drop_length] at hf
          exact ⟨_, rfl, q1 e1 hf H1 w1 sm hw⟩
      | _ => simp [tyD] at e
    · have e' : (tyD pl == "tuple") = false := by simpa using e
      rw [e']
      refine iteT ?_
      have hn : foundD d pl = none := by
        cases pl <;> first | rfl | simp [tyD] at e'
      exact ⟨_, rfl, (by show 1 ≤ 1000; decide), fun a na => bad hn _ (Same.refl _) (z := rfl) a na⟩
end
end TX
namespace TX
open PySem PySem.Spec PyProof.Rows L2
theorem at_plain : ∀ (ks : List PyData) (d e : PyData), atD d ks = some e → PyData.canLayAll0 ks = true ∧ PyData.depthAll ks = 0
  | [], _, _, _ => ⟨rfl, rfl⟩
  | k :: ks, d, e, h => by
    cases k with
    | int i =>
      simp only [atD] at h
      split at h
      · split at h
        · obtain ⟨h1, h2⟩ := at_plain ks _ e h
          simp only [PyData.canLayAll0, PyData.canLay0, h1, PyData.depthAll, PyData.depth, h2]
          exact ⟨rfl, rfl⟩
        · cases h
      · cases h
    | _ => simp [atD] at h
theorem at_shaped {ks : List PyData} {d e : PyData} (h : atD d ks = some e) : SeqAt.shaped (.tuple ks) = true := by
  obtain ⟨h1, h2⟩ := at_plain ks d e h
  unfold SeqAt.shaped
  rw [Bool.and_eq_true]
  refine ⟨by simp only [PyData.canLay0, h1], decide_eq_true ?_⟩
  simp only [PyData.depth, h2]
  omega
theorem at_init : ∀ (ks : List PyData) (d e : PyData), atD d ks = some e → ∃ e', atD d ks.dropLast = some e'
  | [], d, e, _ => ⟨d, rfl⟩
  | [k], d, e, _ => ⟨d, rfl⟩
  | k :: l :: ks, d, e, h => by
    cases k with
    | int i =>
      simp only [atD] at h
      split at h
      · rename_i h0
        split at h
        · rename_i e1 he1
          obtain ⟨e', h'⟩ := at_init (l :: ks) e1 e (by simpa only [atD] using h)
          refine ⟨e', ?_⟩
          rw [List.dropLast_cons_of_ne_nil (by simp)]
          simp only [atD, if_pos h0, he1]
          exact h'
        · cases h
      · cases h
    | _ => simp [atD] at h
def strB : PyData → Bool
  | .str _ => true
  | _ => false
/-- the part is a piece of a text -/
def tornD (d : PyData) (ks : List PyData) : Bool := match ks with
  | [] => false
  | _ => match atD d ks.dropLast with
    | some e => strB e
    | none => false
theorem DpAll.init {K : PySem.W.Frag} {H : Hp} : ∀ {xs : List V} {ds : List PyData}, DpAll K H xs ds → DpAll K H xs.dropLast ds.dropLast
  | _, _, .nil => .nil
  | _, _, .cons h .nil => .nil
  | _, _, .cons h (.cons g r) => .cons h (DpAll.init (.cons g r))
theorem nd_init : ∀ ks : List PyData, ndAll ks.dropLast ≤ ndAll ks
  | [] => Nat.le_refl _
  | [k] => by simp [ndAll]
  | k :: l :: ks => by
    have := nd_init (l :: ks)
    rw [List.dropLast_cons_of_ne_nil (by simp)]
    simp only [ndAll] at this ⊢
    omega
theorem cut_init (us : List V) : cutV us none (some (-1)) = us.dropLast := by
  have e : HT.sIx us.length us.length (some (-1)) = us.length - 1 := by
    show (if (-1 : Int) < 0 then ((-1 : Int) + ((us.length : Nat) : Int)).toNat else min (-1 : Int).toNat us.length) = us.length - 1
    rw [if_pos (by decide)]
    omega
  unfold cutV
  rw [e, HT.sIx_none, List.drop_zero, Nat.sub_zero, List.dropLast_eq_take]
def spTorn (K : PySem.W.Frag) (NP : Addr) : Sp := fun vs H Q E => ∃ (v u : V) (d pl : PyData) (Hv : Hp), vs = [v, u] ∧ Same Hv H ∧ Dp K Hv v d ∧ Dp K Hv u pl ∧ sz d ≤ 10000 ∧ nd pl ≤ 1000000 ∧
  (∀ ks e, pl = .tuple ks → atD d ks = some e → ∀ H', Same H H' → Q (.bl (tornD d ks)) H') ∧ (foundD d pl = none → ∀ (H3 : Hp) (dx : Addr) (w : V), Same H H3 → H3 dx = some (.xd [("place", w)]) → Dp K (newp H H3) w pl → E (.ref NP) (some dx) H3)
section
variable {P : Program} {w : World} {K : PySem.W.Frag} {mg : Str → Option Value} {base : Heap} {TE NP : Addr}
theorem scTorn : FnScope ["value", "place"] ["value", "place"] (defScope s_is_torn) := ⟨rfl, rfl, rfl, by decide +kernel, rfl, by decide +kernel, by decide +kernel⟩
theorem ok_torn {f fF : Addr} {fd dF : FuncData} (F : Fun K "is_torn" "is_torn" s_is_torn f fd) (T : Nm mg) (k : Nk mg) (GF : FnOk P w K mg base (L2.CX P w) 5 fF dF ["value", "place"] (spFound K NP)) (gF : mg "found_at" = some (.ref fF)) (kF : PySem.W.keepIn K (.ref fF) = true) (bF : Binds K dF ["value", "place"] []) :
    FnOk P w K mg base (L2.CX P w) 6 f fd ["value", "place"] (spTorn K NP) := by
  refine F.okX scTorn (fun vs H Q E h => ?_) (fun cdv A outer s H vs Q E hr h => ?_)
  · obtain ⟨v, u, d, pl, Hv, rfl, _⟩ := h
    rfl
  · obtain ⟨v, u, d, pl, Hv, rfl, sv, hd, hu, hz, hnd, q1, q2⟩ := h
    refine ⟨_, pss_cons (ps_expr (pe_call (E := E) GF hr (by rfl) gF kF bF .nil (passes_call (takes_of rfl rfl rfl rfl) fun _ _ _ _ z => z) (pa_cons (pv 0) (pa_cons (pv 1) pa_nil)))) <|
      pss_one (ps_ret (pe_and (pe_cmpR (op_neD hr.units) (pv 1) (pe_tup pa_nil) (nomark _)) (pe_one (pe_callB call_isi (by rfl) T.isi (by decide +kernel)
        (pa_cons (pe_call (E := E) GF hr (by rfl) gF kF bF .nil (passes_call (takes_of rfl rfl rfl rfl) fun _ _ _ _ z => z) (pa_cons (pv 0) (pa_cons (pe_slice sl_tup (pv 1) po_none (po_some (pe_un un_neg pe_int))) pa_nil)))
          (pa_cons (pe_bltn (v := .ty "str") (by rfl) k.str (by decide +kernel) rfl) pa_nil)))))), ?_⟩
    refine ⟨_, rfl, _, rfl, v, u, d, pl, Hv, rfl, sv, hd, hu, hz, hnd, fun e he H1 w1 s1 hw1 => ?_, q2⟩
    cases hu with
    | @tup t us ks t1 t2 =>
      have he' : atD d ks = some e := he
      have hu := Dp.tup (H := Hv) t1 t2
      refine ⟨_, rfl, by decide, fun t0 n0 => ⟨.tuple ks, .tuple [], dp_same (sv.trans (s1.trans (same_upd n0))) _ _ hu, .tup (SqT.of upd_same) .nil, at_shaped he', by decide +kernel, _, rfl, ?_⟩⟩
      have s2 : Same H (upd H1 t0 (.tup [])) := s1.trans (same_upd n0)
      generalize upd H1 t0 (.tup []) = G at s2
      cases ks with
      | nil =>
        have e0 : PyData.eqv (.tuple []) (.tuple []) = true := by decide +kernel
        rw [e0]
        exact iteF (q1 [] e rfl he' G s2)
      | cons k0 ks =>
        have e0 : PyData.eqv (.tuple (k0 :: ks)) (.tuple []) = false := by simp [PyData.eqv, PyData.eqvAll]
        rw [e0]
        refine iteT ?_
        have ul := DpAll.length t2
        obtain ⟨e2, he2⟩ := at_init (k0 :: ks) d e he'
        refine ⟨_, rfl, _, rfl, _, rfl, -1, rfl, t, us, rfl, same_sqt (sv.trans s2) t1, ?_, fun t3 n3 => ?_⟩
        · rintro ⟨_, z⟩
          have : HT.sIx us.length us.length (some (-1)) = us.length - 1 := by
            show (if (-1 : Int) < 0 then ((-1 : Int) + ((us.length : Nat) : Int)).toNat else min (-1 : Int).toNat us.length) = us.length - 1
            rw [if_pos (by decide)]
            omega
          rw [this] at z
          simp only [List.length_cons] at ul
          omega
        · rw [cut_init]
          have s3 : Same H (upd G t3 (.tup us.dropLast)) := s2.trans (same_upd n3)
          have h3 : (upd G t3 (.tup us.dropLast)) t3 = some (.tup us.dropLast) := upd_same
          generalize upd G t3 (.tup us.dropLast) = G3 at s3 h3
          refine ⟨v, .ref t3, d, .tuple (k0 :: ks).dropLast, G3, rfl, Same.refl _, dp_same (sv.trans s3) _ _ hd, .tup (SqT.of h3) (DpAll.init (dpAll_same (sv.trans s3) _ _ t2)), hz, ?_, fun e4 he4 H5 w5 s5 hw5 => ?_, fun hn => ?_⟩
          · have := nd_init (k0 :: ks)
            simp only [nd] at hnd ⊢
            omega
          · refine ⟨w5, .ty "str", .type (tyD e4), .type "str", _, rfl, .ty _, dp_ty (dp_same s5 _ _ hw5), kitS e4 K, ?_⟩
            have h4 : atD d (k0 :: ks).dropLast = some e4 := he4
            have et : tornD d (k0 :: ks) = (tyD e4 == "str") := by
              unfold tornD
              rw [h4]
              cases e4 <;> simp [tyD, strB]
            rw [← et]
            exact q1 (k0 :: ks) e rfl he' H5 (s3.trans s5)
          · exact absurd (he2.symm.trans hn) (fun z => nomatch z)
    | _ => simp [foundD] at he
end
end TX
namespace TX
open PySem PySem.Spec PyProof.Rows L2
/-! ### what can be shown -/
mutual
def okD : PyData → Prop
  | .int i => i.natAbs.log2 < 1920
  | .str x => ∀ c ∈ x.cps.toList, c < 16 ^ 8
  | .list es => okAll es
  | .tuple es => okAll es
  | .dict _ => False
  | _ => True
def okAll : List PyData → Prop
  | [] => True
  | d :: ds => okD d ∧ okAll ds
end
theorem okAll_append : ∀ (a b : List PyData), okAll (a ++ b) ↔ okAll a ∧ okAll b
  | [], b => by simp [okAll]
  | d :: a, b => by
    have := okAll_append a b
    simp only [List.cons_append, okAll, this, and_assoc]
mutual
theorem okD_shown : ∀ d : PyData, okD d → d.showable = true ∧ d.hasDict = false ∧ d.leavesShort 1921 = true
  | .none, _ => ⟨rfl, rfl, rfl⟩
  | .bool _, _ => ⟨rfl, rfl, rfl⟩
  | .int i, h => by
    have l1 : i.natAbs.log2 < 1920 := h
    refine ⟨by simp only [PyData.showable, decide_eq_true l1], rfl, ?_⟩
    simp only [PyData.leavesShort, decide_eq_true_eq]
    simp only [PyData.shown]
    exact int_text_len_1921 l1
  | .str x, h => by
    refine ⟨rfl, rfl, ?_⟩
    simp only [PyData.leavesShort, List.all_eq_true, decide_eq_true_eq]
    exact h
  | .list es, h => by
    obtain ⟨h1, h2, h3⟩ := okAll_shown es h
    exact ⟨by simpa [PyData.showable] using h1, by simpa [PyData.hasDict] using h2, by simpa [PyData.leavesShort] using h3⟩
  | .tuple es, h => by
    obtain ⟨h1, h2, h3⟩ := okAll_shown es h
    exact ⟨by simpa [PyData.showable] using h1, by simpa [PyData.hasDict] using h2, by simpa [PyData.leavesShort] using h3⟩
  | .dict _, h => h.elim
theorem okAll_shown : ∀ ds : List PyData, okAll ds → PyData.showableAll ds = true ∧ PyData.hasDictAll ds = false ∧ PyData.leavesShortAll 1921 ds = true
  | [], _ => ⟨rfl, rfl, rfl⟩
  | d :: ds, h => by
    obtain ⟨a1, a2, a3⟩ := okD_shown d h.1
    obtain ⟨b1, b2, b3⟩ := okAll_shown ds h.2
    exact ⟨by simp [PyData.showableAll, a1, b1], by simp [PyData.hasDictAll, a2, b2], by simp [PyData.leavesShortAll, a3, b3]⟩
end
mutual
theorem val_okD : ∀ d : PyData, valD d → okD d
  | .none, _ => trivial
  | .str x, h => fun c hc => Nat.lt_of_le_of_lt (h c hc).2 (by decide)
  | .list es, h => val_okAll es h
  | .bool _, h => h.elim
  | .int _, h => h.elim
  | .tuple _, h => h.elim
  | .dict _, h => h.elim
theorem val_okAll : ∀ ds : List PyData, valAll ds → okAll ds
  | [], _ => trivial
  | d :: ds, h => ⟨val_okD d h.1, val_okAll ds h.2⟩
end
mutual
theorem val_bulk : ∀ d : PyData, valD d → d.bulk + 1 ≤ sz d
  | .none, _ => by simp [PyData.bulk, sz]
  | .str x, h => by
    have e : x.length = x.cps.size := rfl
    simp only [PyData.bulk, sz]
    omega
  | .list es, h => by
    have := val_bulkAll es h
    simp only [PyData.bulk, sz]
    omega
  | .bool _, h => h.elim
  | .int _, h => h.elim
  | .tuple _, h => h.elim
  | .dict _, h => h.elim
theorem val_bulkAll : ∀ ds : List PyData, valAll ds → PyData.bulkAll ds ≤ szAll ds
  | [], _ => by simp [PyData.bulkAll]
  | d :: ds, h => by
    have a := val_bulk d h.1
    have b := val_bulkAll ds h.2
    simp only [PyData.bulkAll, szAll]
    omega
end
theorem ok_fit {d : PyData} (h : okD d) (hb : d.bulk ≤ 8000) : d.shown.length ≤ sizeLine := by
  obtain ⟨_, _, h3⟩ := okD_shown d h
  have e1 := PyData.shown_le_bulk 1921 (by decide) d h3
  have e2 : (1921 + 2) * d.bulk ≤ 1923 * 8000 := Nat.mul_le_mul_left _ hb
  exact Nat.le_trans e1 (Nat.le_trans (Nat.add_le_add_right e2 _) (by decide))
/-- what `repr` asks of data -/
structure Sh (d : PyData) : Prop where
  s : d.showable = true
  n : d.hasDict = false
  z : d.depth ≤ 60
  l : d.shown.length ≤ sizeLine
theorem sh_of {d : PyData} (h : okD d) (hb : d.bulk ≤ 8000) (hz : d.depth ≤ 60) : Sh d := ⟨(okD_shown d h).1, (okD_shown d h).2.1, hz, ok_fit h hb⟩
theorem log_small {i : Int} (h : i.natAbs ≤ 1000000) : i.natAbs.log2 < 1920 := by
  by_cases z : i.natAbs = 0
  · rw [z]
    decide
  · exact Nat.lt_trans ((Nat.log2_lt z).mpr (Nat.lt_of_le_of_lt h (by decide : 1000000 < 2 ^ 20))) (by decide)
mutual
theorem nd_sz : ∀ d : PyData, valD d → nd d ≤ sz d
  | .none, _ => by simp [nd, sz]
  | .str x, _ => by simp [nd, sz]
  | .list es, h => by
    have := ndAll_sz es h
    simp only [nd, sz]
    omega
  | .bool _, h => h.elim
  | .int _, h => h.elim
  | .tuple _, h => h.elim
  | .dict _, h => h.elim
theorem ndAll_sz : ∀ ds : List PyData, valAll ds → ndAll ds ≤ szAll ds
  | [], _ => by simp [ndAll]
  | d :: ds, h => by
    have a := nd_sz d h.1
    have b := ndAll_sz ds h.2
    simp only [ndAll, szAll]
    omega
end
/-! ### what is told of a place -/
theorem nd_get' : ∀ {ds : List PyData} {i : Nat} {d : PyData}, ds[i]? = some d → nd d ≤ ndAll ds
  | [], i, d, e => by simp at e
  | x :: ds, 0, d, e => by
    simp at e
    subst e
    simp only [ndAll]
    omega
  | x :: ds, i + 1, d, e => by
    have := nd_get' (ds := ds) (i := i) (d := d) (by simpa using e)
    simp only [ndAll]
    omega
theorem signs_all : ∀ l : List Nat, (∀ c ∈ l, 97 ≤ c ∧ c ≤ 122) → valAll (l.map fun c => PyData.str ⟨#[c]⟩) ∧ szAll (l.map fun c => PyData.str ⟨#[c]⟩) = 2 * l.length ∧ PyData.depthAll (l.map fun c => PyData.str ⟨#[c]⟩) = 0
  | [], _ => ⟨trivial, rfl, rfl⟩
  | c :: l, h => by
    obtain ⟨i1, i2, i3⟩ := signs_all l fun x hx => h x (List.mem_cons_of_mem _ hx)
    refine ⟨⟨?_, i1⟩, ?_, ?_⟩
    · show Lt ⟨#[c]⟩
      intro x hx
      have e : x = c := by simpa using hx
      rw [e]
      exact h c List.mem_cons_self
    · rw [List.map_cons, szAll, i2, List.length_cons]
      have e : sz (PyData.str ⟨#[c]⟩) = 2 := rfl
      omega
    · rw [List.map_cons, PyData.depthAll, i3]
      simp [PyData.depth]
/-- what stood in Hv already, and what is new behind H -/
def mixp (Hv H H' : Hp) : Hp := fun b => match Hv b with
  | some o => some o
  | none => match H b with
    | some _ => none
    | none => H' b
theorem mix_old {Hv H H' : Hp} : Same Hv (mixp Hv H H') := fun b o e => by
  unfold mixp
  rw [e]
theorem mix_new {Hv H H' : Hp} {b : Addr} (h1 : Hv b = none) (h2 : H b = none) : mixp Hv H H' b = H' b := by
  unfold mixp
  rw [h1, h2]
theorem mix_in {Hv H H' : Hp} {b : Addr} {o : HO} (e : mixp Hv H H' b = some o) : Hv b = some o ∨ (Hv b = none ∧ H b = none ∧ H' b = some o) := by
  unfold mixp at e
  cases h : Hv b with
  | some x =>
    rw [h] at e
    exact .inl e
  | none =>
    rw [h] at e
    cases h2 : H b with
    | some y =>
      rw [h2] at e
      cases e
    | none =>
      rw [h2] at e
      exact .inr ⟨rfl, rfl, e⟩
theorem mix_all {Hv H H' : Hp} (s1 : Same Hv H) (s2 : Same H H') : Same (mixp Hv H H') H' := fun b o e => by
  rcases mix_in e with h | ⟨_, _, h⟩
  · exact s2 _ _ (s1 _ _ h)
  · exact h
/-- .. of a later step, a list under way at D apart -/
theorem mix_to {Hv H H4 H5 H6 : Hp} {D : Addr} (s1 : Same Hv H) (s2 : Same H H4) (nD : H D = none) (yD : H4 D ≠ none) (k : ∀ b o, b ≠ D → H5 b = some o → H6 b = some o) : Same (mixp Hv H4 H5) (del (mixp Hv H H6) D) := fun b o e => by
  rcases mix_in e with h | ⟨h1, h2, h3⟩
  · have bD : b ≠ D := fun z => by
      rw [z] at h
      rw [s1 _ _ h] at nD
      cases nD
    rw [del_ne bD]
    exact mix_old _ _ h
  · have bD : b ≠ D := fun z => yD (z ▸ h2)
    rw [del_ne bD, mix_new h1 (s2.free h2)]
    exact k _ _ bD h3
theorem mix_mono {Hv H H3 H6 : Hp} {D : Addr} (k : ∀ b o, b ≠ D → H3 b = some o → H6 b = some o) : Same (del (mixp Hv H H3) D) (del (mixp Hv H H6) D) := fun b o e => by
  by_cases bD : b = D
  · rw [bD, del_same] at e
    cases e
  · rw [del_ne bD] at e ⊢
    rcases mix_in e with h | ⟨h1, h2, h3⟩
    · exact mix_old _ _ h
    · rw [mix_new h1 h2]
      exact k _ _ bD h3
/-! ### what is told is spoiled -/
def spSpoil (N : Nat) : Sp := fun vs H Q _ => ∃ (v : V) (d : PyData) (S : List Addr), vs = [v] ∧ Tr H v d S ∧ d.depth ≤ N ∧ nd d ≤ 100000 ∧ ∀ H', (∀ b o, b ∉ S → H b = some o → H' b = some o) → Q .non H'
section
variable {P : Program} {w : World} {K : PySem.W.Frag} {mg : Str → Option Value} {base : Heap}
theorem scSpoil : FnScope ["_law_value_here", "_law_one"] ["_law_value_here"] (defScope sSpoil) := ⟨rfl, rfl, rfl, by decide +kernel, rfl, by decide +kernel, by decide +kernel⟩
theorem ok_spoil1 {f : Addr} {fd : FuncData} (F : Fun K "_law_spoil" "_law_spoil" sSpoil f fd) (T : Nm mg) (b : Binds K fd ["_law_value_here"] []) (g : mg "_law_spoil" = some (.ref f)) (N : Nat) (G : ∀ j : { M : Nat // M + 1 = N }, FnOk P w K mg base CX0 (j.1 + 1) f fd ["_law_value_here"] (spSpoil j.1)) :
    FnOk P w K mg base CX0 (N + 1) f fd ["_law_value_here"] (spSpoil N) := by
  refine F.ok scSpoil (fun vs H Q E h => ?_) (fun cdv A outer s H vs Q E hr h => ?_)
  · obtain ⟨v, d, S, rfl, _⟩ := h
    rfl
  · obtain ⟨v, d, S, rfl, tr, hz, hn, q⟩ := h
    have hrR : ∀ j : { M : Nat // M + 1 = N }, Room (j.1 + 1) _ := fun j => hr.mono (by have := j.2; omega)
    refine ⟨_, pss_one (ps_if (pt_val (pe_callB call_isi (by rfl) T.isi (by decide +kernel) (pa_cons (pv 0) (pa_cons (pe_bltn (v := .ty "list") (by rfl) T.lst (by decide +kernel) rfl) pa_nil))))
      (pss_cons (ps_for PassesOwn.never rfl (pi_list (pv 0)) (pg_name (i := 1) scSpoil.nd rfl (.inl rfl)) (pss_one (ps_expr (pe_ex fun j => pe_call (G j) (hrR j) (by rfl) g F.kp b .nil pass0 (pa_cons (pv 1) pa_nil)))))
      (pss_one (ps_expr (pe_bm PySem.F.plainAttrs_list PySem.F.slot_list_append PySem.F.type_list_append mt_append (pv 0) (pa_cons pe_str pa_nil))))) pss_nil), ?_⟩
    refine ⟨_, rfl, v, .ty "list", .type (tyD d), .type "list", _, rfl, .ty _, dp_ty (Tr.dp (K := K) tr), kitL d K, _, rfl, ?_⟩
    by_cases e : (tyD d == "list") = true
    · rw [e]
      refine iteT ?_
      cases tr with
      | @lst a xs es S' h1 h2 h3 =>
        have hz2 : PyData.depthAll es + 1 ≤ N := by
          simp only [PyData.depth] at hz
          omega
        have hn2 : ndAll es + 1 ≤ 100000 := by simpa only [nd] using hn
        have hl := TrAll.length h2
        have el := ndAll_len es
        refine ⟨_, rfl, a, rfl, ⟨_, SqL.of h1⟩, for_list (K := K) (a := a) (xs := xs) (fun i σ H2 => ∃ y1, σ = [some (.ref a), y1] ∧ (∀ b o, b ∉ S' → H b = some o → H2 b = some o) ∧ ∃ S2, TrAll H2 (xs.drop i) (es.drop i) S2 ∧ ∀ b ∈ S2, b ∈ S') ?_ ?_ ?_ ?_⟩
        · exact ⟨none, rfl, fun _ _ _ e => e, S', h2, fun _ hb => hb⟩
        · rintro i σ H2 hi ⟨y1, rfl, k1, _⟩
          exact SqL.of (k1 _ _ h3 h1)
        · rintro i x σ H2 hx ⟨y1, rfl, k1, S2, k2, k3⟩
          obtain ⟨hj, ex⟩ := List.getElem?_eq_some_iff.mp hx
          have hje : i < es.length := by omega
          rw [List.drop_eq_getElem_cons hj, ex, List.drop_eq_getElem_cons hje] at k2
          cases k2 with
          | @cons _ _ A _ _ B t1 t2 dis =>
            have hei : es[i]? = some es[i] := List.getElem?_eq_getElem hje
            refine ⟨⟨N - 1, by omega⟩, _, rfl, x, es[i], A, rfl, t1, Nat.le_trans (depth_get hei) (by show _ ≤ N - 1; omega), Nat.le_trans (nd_get' hei) (by omega), fun H3 k4 => ?_⟩
            refine ⟨_, rfl, fun b o hb e => k4 b o (fun z => hb (k3 b (List.mem_append_left _ z))) (k1 b o hb e), B, TrAll.frame t2 fun b hb o e => k4 b o (fun z => dis b z hb) e, fun b hb => k3 b (List.mem_append_right _ hb)⟩
        · rintro σ H2 ⟨y1, rfl, k1, _⟩
          have ha := k1 _ _ h3 h1
          refine ⟨_, rfl, .inl ⟨rfl, _, SqL.of ha⟩, a, xs, _, rfl, rfl, ha, Nat.lt_of_le_of_lt (show xs.length ≤ 100000 by omega) (by decide), q _ fun b o hb e => ?_⟩
          have ba : b ≠ a := fun z => hb (by rw [z]; exact List.mem_cons_self)
          rw [upd_ne ba]
          exact k1 b o (fun z => hb (List.mem_cons_of_mem _ z)) e
      | _ => simp [tyD] at e
    · have e' : (tyD d == "list") = false := by simpa using e
      rw [e']
      exact iteF (q H fun _ _ _ e => e)
theorem ok_spoil {f : Addr} {fd : FuncData} (F : Fun K "_law_spoil" "_law_spoil" sSpoil f fd) (T : Nm mg) (b : Binds K fd ["_law_value_here"] []) (g : mg "_law_spoil" = some (.ref f)) : ∀ N : Nat, FnOk P w K mg base CX0 (N + 1) f fd ["_law_value_here"] (spSpoil N)
  | 0 => ok_spoil1 F T b g 0 fun j => absurd j.2 (by omega)
  | N + 1 => ok_spoil1 F T b g (N + 1) fun ⟨M, e⟩ => by
    have e2 : M = N := by omega
    subst e2
    exact ok_spoil F T b g M
end
end TX
namespace TX
open PySem PySem.Spec PyProof.Rows L2
/-! ### all places, with the part at each and whether it is torn -/
abbrev Pt := List Nat × PyData × Bool
def under (k : Nat) (t : Pt) : Pt := (k :: t.1, t.2)
def plS (k : Nat) : List Nat → List Pt
  | [] => []
  | c :: cs => ([k], .str ⟨#[c]⟩, true) :: plS (k + 1) cs
mutual
def plT : PyData → List Pt
  | .list es => ([], .list es, false) :: plL 0 es
  | .str x => ([], .str x, false) :: if 1 < x.length then plS 0 x.cps.toList else []
  | d => [([], d, false)]
def plL (k : Nat) : List PyData → List Pt
  | [] => []
  | e :: es => (plT e).map (under k) ++ plL (k + 1) es
end
/-- what stands below, with its index -/
def belowS (k : Nat) : List Nat → List (Nat × PyData)
  | [] => []
  | c :: cs => (k, .str ⟨#[c]⟩) :: belowS (k + 1) cs
theorem plT_head (d : PyData) : ∃ r, plT d = ([], d, false) :: r := by
  cases d <;> simp only [plT] <;> exact ⟨_, rfl⟩
theorem plS_len : ∀ (cs : List Nat) (k : Nat), (plS k cs).length = cs.length
  | [], _ => rfl
  | c :: cs, k => by simp only [plS, List.length_cons, plS_len cs]
mutual
theorem plT_len : ∀ d : PyData, valD d → (plT d).length ≤ sz d
  | .none, _ => by simp [plT, sz]
  | .str x, _ => by
    have e : x.cps.toList.length = x.length := by simp [Str.length]
    simp only [plT, sz, List.length_cons]
    split
    · rw [plS_len, e]
      omega
    · simp
  | .list es, h => by
    have := plL_len es 0 h
    simp only [plT, sz, List.length_cons]
    omega
  | .bool _, h => h.elim
  | .int _, h => h.elim
  | .tuple _, h => h.elim
  | .dict _, h => h.elim
theorem plL_len : ∀ (ds : List PyData) (k : Nat), valAll ds → (plL k ds).length ≤ szAll ds
  | [], _, _ => by simp [plL]
  | d :: ds, k, h => by
    have a := plT_len d h.1
    have b := plL_len ds (k + 1) h.2
    simp only [plL, szAll, List.length_append, List.length_map]
    omega
end
mutual
theorem plT_short : ∀ (d : PyData), ∀ t ∈ plT d, t.1.length ≤ d.depth + 1
  | .list es, t, h => by
    simp only [plT, List.mem_cons] at h
    rcases h with rfl | h
    · simp
    · have := plL_short 0 es t h
      simp only [PyData.depth]
      omega
  | .str x, t, h => by
    simp only [plT, List.mem_cons] at h
    rcases h with rfl | h
    · simp
    · split at h
      · have := plS_short 0 x.cps.toList t h
        simp only [PyData.depth]
        omega
      · cases h
  | .none, t, h => by
    simp only [plT, List.mem_singleton] at h
    rw [h]
    simp
  | .bool b, t, h => by
    simp only [plT, List.mem_singleton] at h
    rw [h]
    simp
  | .int i, t, h => by
    simp only [plT, List.mem_singleton] at h
    rw [h]
    simp
  | .tuple es, t, h => by
    simp only [plT, List.mem_singleton] at h
    rw [h]
    simp
  | .dict es, t, h => by
    simp only [plT, List.mem_singleton] at h
    rw [h]
    simp
theorem plL_short : ∀ (k : Nat) (ds : List PyData), ∀ t ∈ plL k ds, t.1.length ≤ PyData.depthAll ds + 2
  | _, [], t, h => by simp [plL] at h
  | k, d :: ds, t, h => by
    simp only [plL, List.mem_append, List.mem_map] at h
    simp only [PyData.depthAll]
    rcases h with ⟨u, hu, rfl⟩ | h
    · have := plT_short d u hu
      simp only [under, List.length_cons]
      omega
    · have := plL_short (k + 1) ds t h
      omega
theorem plS_short : ∀ (k : Nat) (cs : List Nat), ∀ t ∈ plS k cs, t.1.length ≤ 1
  | _, [], t, h => by simp [plS] at h
  | k, c :: cs, t, h => by
    simp only [plS, List.mem_cons] at h
    rcases h with rfl | h
    · simp
    · exact plS_short (k + 1) cs t h
end
mutual
theorem dep_sz : ∀ d : PyData, valD d → d.depth ≤ sz d
  | .none, _ => by simp [PyData.depth]
  | .str x, _ => by simp [PyData.depth]
  | .list es, h => by
    have := depAll_sz es h
    simp only [PyData.depth, sz]
    omega
  | .bool _, h => h.elim
  | .int _, h => h.elim
  | .tuple _, h => h.elim
  | .dict _, h => h.elim
theorem depAll_sz : ∀ ds : List PyData, valAll ds → PyData.depthAll ds ≤ szAll ds
  | [], _ => by simp [PyData.depthAll]
  | d :: ds, h => by
    have a := dep_sz d h.1
    have b := depAll_sz ds h.2
    simp only [PyData.depthAll, szAll]
    omega
end
/-! ### what waits -/
abbrev Wt := List Nat × PyData
def outW : List Wt → List (List Nat)
  | [] => []
  | (p, d) :: ws => (plT d).map (fun t => p ++ t.1) ++ outW ws
def kidW (p : List Nat) (k : Nat) : List PyData → List Wt
  | [] => []
  | e :: es => (p ++ [k], e) :: kidW p (k + 1) es
theorem outW_append : ∀ a b : List Wt, outW (a ++ b) = outW a ++ outW b
  | [], b => rfl
  | (p, d) :: a, b => by simp only [List.cons_append, outW, outW_append a b, List.append_assoc]
theorem outW_kids (p : List Nat) : ∀ (es : List PyData) (k : Nat), outW (kidW p k es) = (plL k es).map fun t => p ++ t.1
  | [], _ => rfl
  | e :: es, k => by
    simp only [kidW, outW, plL, outW_kids p es (k + 1), List.map_append, List.map_map]
    congr 1
    apply List.map_congr_left
    intro t _
    simp [under]
theorem plL_signs : ∀ (cs : List Nat) (k : Nat), (plL k (cs.map fun c => PyData.str ⟨#[c]⟩)).map (·.1) = (plS k cs).map (·.1)
  | [], _ => rfl
  | c :: cs, k => by
    have e : plT (PyData.str ⟨#[c]⟩) = [([], .str ⟨#[c]⟩, false)] := by
      simp only [plT]
      rw [if_neg (show ¬ 1 < (⟨#[c]⟩ : Str).length from (by decide : ¬ 1 < 1))]
    simp only [List.map_cons, plL, plS, e, List.map_append, plL_signs cs (k + 1)]
    rfl
theorem plT_inner (d : PyData) : (plT d).map (·.1) = [] :: (plL 0 (innerD d)).map (·.1) := by
  cases d with
  | list es => simp only [plT, innerD, List.map_cons]
  | str x =>
    simp only [plT, innerD, List.map_cons]
    by_cases h : 1 < x.length
    · rw [if_pos h, if_pos h]
      unfold signD
      rw [plL_signs]
    · rw [if_neg h, if_neg h]
      rfl
  | _ => simp only [plT, innerD, List.map_cons, List.map_nil, plL]
theorem outW_step (p : List Nat) (d : PyData) (ws : List Wt) : outW ((p, d) :: ws) = p :: outW (kidW p 0 (innerD d) ++ ws) := by
  rw [outW_append, outW_kids]
  simp only [outW]
  have e : (plT d).map (fun t => p ++ t.1) = ((plT d).map (·.1)).map (fun q => p ++ q) := by rw [List.map_map]; rfl
  have e2 : (plL 0 (innerD d)).map (fun t => p ++ t.1) = ((plL 0 (innerD d)).map (·.1)).map (fun q => p ++ q) := by rw [List.map_map]; rfl
  rw [e, e2, plT_inner]
  simp
theorem outW_len : ∀ ws : List Wt, ws.length ≤ (outW ws).length
  | [] => Nat.le_refl _
  | (p, d) :: ws => by
    obtain ⟨r, e⟩ := plT_head d
    have := outW_len ws
    simp only [outW, e, List.map_cons, List.cons_append, List.length_cons, List.length_append]
    omega
theorem kid_drop (p : List Nat) : ∀ (j k : Nat) (es : List PyData) (e : PyData), es[j]? = some e → kidW p (k + j) (es.drop j) = (p ++ [k + j], e) :: kidW p (k + j + 1) (es.drop (j + 1))
  | 0, k, x :: es, e, h => by
    simp only [List.getElem?_cons_zero, Option.some.injEq] at h
    subst h
    simp [kidW]
  | j + 1, k, x :: es, e, h => by
    simp only [List.getElem?_cons_succ] at h
    have := kid_drop p j (k + 1) es e h
    simp only [List.drop_succ_cons]
    rw [show k + (j + 1) = k + 1 + j by omega]
    exact this
  | j, k, [], e, h => by simp at h
theorem kid_mem {p : List Nat} : ∀ {es : List PyData} {k : Nat} {x : Wt}, x ∈ kidW p k es → x.2 ∈ es
  | e :: es, k, x, h => by
    rcases List.mem_cons.mp h with h | h
    · rw [h]
      exact List.mem_cons_self
    · exact List.mem_cons_of_mem _ (kid_mem h)
theorem natV_snoc (p : List Nat) (j : Nat) : natV p ++ [V.int ((j : Nat) : Int)] = natV (p ++ [j]) := by simp [natV]
inductive Pls (H : Hp) : List V → List (List Nat) → Prop
  | nil : Pls H [] []
  | cons {t : Addr} {p : List Nat} {ws : List V} {ps : List (List Nat)} : H t = some (.tup (natV p)) → Pls H ws ps → Pls H (.ref t :: ws) (p :: ps)
theorem Pls.keep {H H' : Hp} (s : ∀ t o, H t = some (.tup o) → H' t = some (.tup o)) : ∀ {ws : List V} {ps : List (List Nat)}, Pls H ws ps → Pls H' ws ps
  | _, _, .nil => .nil
  | _, _, .cons h r => .cons (s _ _ h) (r.keep s)
theorem Pls.same {H H' : Hp} (s : Same H H') {ws : List V} {ps : List (List Nat)} (h : Pls H ws ps) : Pls H' ws ps := h.keep fun t o e => s _ _ e
theorem Pls.append {H : Hp} : ∀ {ws us : List V} {ps qs : List (List Nat)}, Pls H ws ps → Pls H us qs → Pls H (ws ++ us) (ps ++ qs)
  | _, _, _, _, .nil, g => g
  | _, _, _, _, .cons h r, g => .cons h (r.append g)
theorem Pls.len {H : Hp} : ∀ {ws : List V} {ps : List (List Nat)}, Pls H ws ps → ws.length = ps.length
  | _, _, .nil => rfl
  | _, _, .cons _ r => congrArg (· + 1) r.len
theorem Pls.get {H : Hp} : ∀ {ws : List V} {ps : List (List Nat)} {i : Nat} {x : V}, Pls H ws ps → ws[i]? = some x → ∃ t p, x = .ref t ∧ H t = some (.tup (natV p)) ∧ ps[i]? = some p
  | _, _, _, _, .nil, h => by simp at h
  | _, _, 0, _, .cons h r, e => by
    simp only [List.getElem?_cons_zero, Option.some.injEq] at e
    exact ⟨_, _, e.symm, h, rfl⟩
  | _, _, i + 1, _, .cons h r, e => by
    simp only [List.getElem?_cons_succ] at e
    exact r.get e
inductive PeOk (K : PySem.W.Frag) (Hv H : Hp) : List V → List Wt → Prop
  | nil : PeOk K Hv H [] []
  | cons {t q : Addr} {v : V} {p : List Nat} {d : PyData} {xs : List V} {ws : List Wt} : H t = some (.tup [.ref q, v]) → H q = some (.tup (natV p)) → Dp K Hv v d → PeOk K Hv H xs ws → PeOk K Hv H (.ref t :: xs) ((p, d) :: ws)
theorem PeOk.keep {K : PySem.W.Frag} {Hv H H' : Hp} (s : ∀ t o, H t = some (.tup o) → H' t = some (.tup o)) : ∀ {xs : List V} {ws : List Wt}, PeOk K Hv H xs ws → PeOk K Hv H' xs ws
  | _, _, .nil => .nil
  | _, _, .cons h1 h2 h3 r => .cons (s _ _ h1) (s _ _ h2) h3 (r.keep s)
theorem PeOk.append {K : PySem.W.Frag} {Hv H : Hp} : ∀ {xs ys : List V} {ws us : List Wt}, PeOk K Hv H xs ws → PeOk K Hv H ys us → PeOk K Hv H (xs ++ ys) (ws ++ us)
  | _, _, _, _, .nil, g => g
  | _, _, _, _, .cons h1 h2 h3 r, g => .cons h1 h2 h3 (r.append g)
theorem PeOk.len {K : PySem.W.Frag} {Hv H : Hp} : ∀ {xs : List V} {ws : List Wt}, PeOk K Hv H xs ws → xs.length = ws.length
  | _, _, .nil => rfl
  | _, _, .cons _ _ _ r => congrArg (· + 1) r.len
def spPlacesOf (K : PySem.W.Frag) : Sp := fun vs H Q _ => ∃ (v : V) (d : PyData) (Hv : Hp), vs = [v] ∧ Same Hv H ∧ Dp K Hv v d ∧ valD d ∧ sz d ≤ 5000 ∧ ∀ (H' : Hp) (l : Addr) (ys : List V), Same H H' → H l = none → H' l = some (.lst ys) → Pls H' ys ((plT d).map (·.1)) → Q (.ref l) H'
section
variable {P : Program} {w : World} {K : PySem.W.Frag} {mg : Str → Option Value} {base : Heap}
theorem scPlacesOf : FnScope ["value", "waiting", "places", "place", "part", "inner", "at"] ["value"] (defScope s_places_of) := ⟨rfl, rfl, rfl, by decide +kernel, rfl, by decide +kernel, by decide +kernel⟩
theorem ok_placesOf {f fN : Addr} {fd dN : FuncData} (F : Fun K "places_of" "places_of" s_places_of f fd) (T : Nm mg) (B : Nb mg) (Y : Nv mg) (GN : FnOk P w K mg base CX0 1 fN dN ["part"] (spInner K)) (gN : mg "inner_of" = some (.ref fN)) (kN : PySem.W.keepIn K (.ref fN) = true) (bN : Binds K dN ["part"] []) :
    FnOk P w K mg base CX0 2 f fd ["value"] (spPlacesOf K) := by
  refine F.ok scPlacesOf (fun vs H Q E h => ?_) (fun cdv A outer s H vs Q E hr h => ?_)
  · obtain ⟨v, d, Hv, rfl, _⟩ := h
    rfl
  · obtain ⟨v, d, Hv, rfl, sv, hd, vd, hz, q⟩ := h
    refine ⟨_, pss_cons (ps_set (i := 1) scPlacesOf.nd rfl (.inl rfl) (pe_lst (pa_cons (pe_tup (pa_cons (pe_tup pa_nil) (pa_cons (pv 0) pa_nil))) pa_nil))) <|
      pss_cons (ps_set (i := 2) scPlacesOf.nd rfl (.inl rfl) (pe_lst pa_nil)) <|
      pss_cons (ps_while PassesOwn.never (pt_truth (pv 1) (by intro _; rfl)) (
        pss_cons (ps_asg (pe_bm0 PySem.F.plainAttrs_list PySem.F.slot_list_pop PySem.F.type_list_pop mt_pop (pv 1)) (pg_tup rfl (pgs_cons (pg_name (i := 3) scPlacesOf.nd rfl (.inr rfl)) (pgs_cons (pg_name (i := 4) scPlacesOf.nd rfl (.inl rfl)) pgs_nil)))) <|
        pss_cons (ps_expr (pe_bm PySem.F.plainAttrs_list PySem.F.slot_list_append PySem.F.type_list_append mt_append (pv 2) (pa_cons (pv 3) pa_nil))) <|
        pss_cons (ps_set (i := 5) scPlacesOf.nd rfl (.inr rfl) (pe_call GN hr (by rfl) gN kN bN .nil pass0 (pa_cons (pv 4) pa_nil))) <|
        pss_one (ps_expr (pe_bm PySem.F.plainAttrs_list PySem.F.slot_list_extend PySem.F.type_list_extend mt_extend (pv 1) (pa_cons (pe_lc (own := [("at", 6)]) (g := gName 6) (tt := tYes)
            (te := tTup (tCons (tTup (StX.tStar K (tVar 3) (tCons (tVar 6) tNil))) (tCons (tOp (rIxL K) (tVar 5) (tVar 6)) tNil))) rfl scPlacesOf.nd
            (pi_range3 (by rfl) Y.range (pa_cons (pe_op op_sub (pe_callB call_len_seq (by rfl) B.len PySem.boot_len (pa_cons (pv 5) pa_nil)) pe_int) (pa_cons (pe_un un_neg pe_int) (pa_cons (pe_un un_neg pe_int) pa_nil))))
            (blkOk_by (own := [("at", 6)]) (N := ["value", "waiting", "places", "place", "part", "inner", "at"]) (sc := defScope s_places_of) (by decide +kernel)) (fun _ _ _ _ _ => pg_name (i := 6) scPlacesOf.nd rfl (Or.inl rfl)) (fun _ _ _ _ _ => pts_nil)
            (fun _ _ _ _ _ => pe_tup (pa_cons (pe_tup (StX.pa_star (pv 3) (pa_cons (pv 6) pa_nil))) (pa_cons (pe_ix ix_list (pv 5) (pv 6) (fun _ _ => rfl)) pa_nil)))) pa_nil))))) <|
      pss_one (ps_ret (pv 2)), ?_⟩
    have fit : ∀ {n : Nat}, n ≤ 100000 → n ≤ sizeLine := fun h => Nat.le_trans h (by decide)
    have ltz : ∀ {n : Nat}, n ≤ 100000 → n < sizeLine := fun h => Nat.lt_of_le_of_lt h (by decide)
    have pl0 := plT_len d vd
    refine ⟨by decide, fun q0 nq0 => ⟨_, rfl, (by show 2 ≤ sizeLine; decide), fun t0 nt0 => ⟨(by show 1 ≤ sizeLine; decide), fun wa nwa => ⟨by decide, fun sa nsa => ?_⟩⟩⟩⟩
    have k1 := same_upd (o := .tup []) nq0
    have k2 := same_upd (o := .tup [.ref q0, v]) nt0
    have k3 := same_upd (o := .lst [.ref t0]) nwa
    have k4 := same_upd (o := .lst []) nsa
    have sm0 := (k1.trans k2).trans (k3.trans k4)
    have nwaH : H wa = none := (k1.trans k2).free nwa
    have nsaH : H sa = none := ((k1.trans k2).trans k3).free nsa
    have sw : sa ≠ wa := fun e => by
      rw [e, upd_same] at nsa
      cases nsa
    have e1 := (k2.trans (k3.trans k4)) _ _ (upd_same (H := H) (a := q0) (o := .tup []))
    have e2 := (k3.trans k4) _ _ (upd_same (H := upd H q0 (.tup [])) (a := t0) (o := .tup [.ref q0, v]))
    have e3 := k4 _ _ (upd_same (H := upd (upd H q0 (.tup [])) t0 (.tup [.ref q0, v])) (a := wa) (o := .lst [.ref t0]))
    have e4 := upd_same (H := upd (upd (upd H q0 (.tup [])) t0 (.tup [.ref q0, v])) wa (.lst [.ref t0])) (a := sa) (o := .lst [])
    generalize upd (upd (upd (upd H q0 (.tup [])) t0 (.tup [.ref q0, v])) wa (.lst [.ref t0])) sa (.lst []) = G0 at sm0 e1 e2 e3 e4
    refine ⟨fun m σ H1 => ∃ (xs : List V) (ws : List Wt) (ys : List V) (qs : List (List Nat)) (z3 z4 z5 : Option V), σ = [some v, some (.ref wa), some (.ref sa), z3, z4, z5, none] ∧ Same H H1 ∧ H1 wa = some (.lst xs.reverse) ∧ H1 sa = some (.lst ys) ∧
      PeOk K Hv H1 xs ws ∧ Pls H1 ys qs ∧ qs ++ outW ws = (plT d).map (·.1) ∧ (∀ x ∈ ws, sz x.2 ≤ sz d + 2) ∧ m = (outW ws).length,
      ⟨_, [.ref t0], [([], d)], [], [], none, none, none, rfl, sm0, e3, e4, .cons (p := []) e2 e1 hd .nil, .nil, by simp [outW], fun x hx => by rw [List.mem_singleton.mp hx]; exact Nat.le_add_right _ _, rfl⟩, ?_⟩
    rintro m σ H1 ⟨xs, ws, ys, qs, z3, z4, z5, rfl, sm, hw, hs, hP, hS, ho, hb, rfl⟩
    refine ⟨_, rfl, _, .inl ⟨_, SqL.of hw, rfl⟩, ?_⟩
    have lo := congrArg List.length ho
    rw [List.length_append, List.length_map] at lo
    have lys := hS.len
    cases hP with
    | nil =>
      refine iteF ⟨_, rfl, q H1 sa ys sm nsaH hs ?_⟩
      rw [← ho]
      simpa [outW] using hS
    | @cons t qa v1 p1 d1 xs' ws' ht hq hd1 hP' =>
      have hne : (!((V.ref t :: xs').reverse).isEmpty) = true := by simp
      rw [hne]
      refine iteT ?_
      rw [List.reverse_cons] at hw
      have lx := hP'.len
      have lw := outW_len ((p1, d1) :: ws')
      rw [List.length_cons] at lw
      have bd1 := hb (p1, d1) List.mem_cons_self
      have st := outW_step p1 d1 ws'
      refine ⟨fun σ' H2 => ∃ (xs2 : List V) (ws2 : List Wt) (ys2 : List V) (qs2 : List (List Nat)) (z3 z4 z5 : Option V), σ' = [some v, some (.ref wa), some (.ref sa), z3, z4, z5, none] ∧ Same H H2 ∧ H2 wa = some (.lst xs2.reverse) ∧ H2 sa = some (.lst ys2) ∧
        PeOk K Hv H2 xs2 ws2 ∧ Pls H2 ys2 qs2 ∧ qs2 ++ outW ws2 = (plT d).map (·.1) ∧ (∀ x ∈ ws2, sz x.2 ≤ sz d + 2) ∧ (outW ws2).length < (outW ((p1, d1) :: ws')).length, ?_, ?_⟩
      · rintro σ' H2 ⟨xs2, ws2, ys2, qs2, y3, y4, y5, e, g1, g2, g3, g4, g5, g6, g7, g8⟩
        exact ⟨_, g8, xs2, ws2, ys2, qs2, y3, y4, y5, e, g1, g2, g3, g4, g5, g6, g7, rfl⟩
      have tw : t ≠ wa := fun e => by
        rw [e, hw] at ht
        cases ht
      refine ⟨_, rfl, .inl ⟨rfl, _, SqL.of hw⟩, wa, _, .ref t, rfl, rfl, hw, by simp, ?_⟩
      rw [List.dropLast_concat]
      refine ⟨t, _, rfl, SqT.of ((upd_ne tw).trans ht), rfl, _, _, rfl, _, _, rfl, rfl, ?_⟩
      have hs2 : (upd H1 wa (.lst xs'.reverse)) sa = some (.lst ys) := (upd_ne sw).trans hs
      refine ⟨_, rfl, .inl ⟨rfl, _, SqL.of hs2⟩, _, rfl, sa, _, _, rfl, rfl, hs2, ltz (by omega), ?_⟩
      have smG : Same H (upd (upd H1 wa (.lst xs'.reverse)) sa (.lst (ys ++ [.ref qa]))) := same_fresh nsaH (same_fresh nwaH sm)
      have hwG : (upd (upd H1 wa (.lst xs'.reverse)) sa (.lst (ys ++ [.ref qa]))) wa = some (.lst xs'.reverse) := by
        rw [upd_ne sw.symm, upd_same]
      have hsG : (upd (upd H1 wa (.lst xs'.reverse)) sa (.lst (ys ++ [.ref qa]))) sa = some (.lst (ys ++ [.ref qa])) := upd_same
      have keep : ∀ b o, H1 b = some (.tup o) → (upd (upd H1 wa (.lst xs'.reverse)) sa (.lst (ys ++ [.ref qa]))) b = some (.tup o) := by
        intro b o e
        have b1 : b ≠ wa := fun z => by rw [z, hw] at e; cases e
        have b2 : b ≠ sa := fun z => by rw [z, hs] at e; cases e
        rw [upd_ne b2, upd_ne b1]
        exact e
      generalize upd (upd H1 wa (.lst xs'.reverse)) sa (.lst (ys ++ [.ref qa])) = G at smG hwG hsG keep
      refine ⟨_, rfl, v1, d1, Hv, rfl, sv.trans smG, hd1, by dsimp only at bd1; omega, fun G1 b1 xs1 s1 hb1 hin => ?_⟩
      have lin := DpAll.length hin
      have li : (innerD d1).length ≤ 10010 := by
        have e1 := szAll_len (innerD d1)
        have e2 := inner_sz d1
        dsimp only at bd1
        omega
      have hqa := s1 _ _ (keep _ _ hq)
      refine ⟨_, rfl, .inl ⟨rfl, _, SqL.of (s1 _ _ hwG)⟩, _, rfl, b1, xs1, rfl, .inl hb1, _, _, rfl, rfl, _, rfl, _, rfl, _, _, _, xs1.length, rfl, ?_, fun D nD => lc_it walk_rangeC (fun k H' => ∃ us, H' D = some (.lst us) ∧ us.length = k ∧ Same G1 H' ∧ PeOk K Hv H' us.reverse (kidW p1 (xs1.length - k) ((innerD d1).drop (xs1.length - k)))) ?_ (fun _ _ _ _ => trivial) ?_ ?_⟩
      · have e : (((xs1.length : Nat) : Int) - 1 - -1).toNat = xs1.length := by omega
        have g := RgC.neg (i := ((xs1.length : Nat) : Int) - 1) (j := -1) (by omega) (by omega) (by decide) (by decide)
        rw [e] at g
        exact g
      · refine ⟨[], upd_same, rfl, same_upd nD, ?_⟩
        rw [Nat.sub_zero, lin, List.drop_length]
        exact .nil
      · rintro k x H2x H2 hk ⟨us, h1, h2, h3, h4⟩ ⟨e2x, hx⟩
        subst e2x
        have hx' : x = .int ((xs1.length - 1 - k : Nat) : Int) := by
          rw [hx]
          show V.int (((xs1.length : Nat) : Int) - 1 + ((k : Nat) : Int) * -1) = _
          have : ((xs1.length : Nat) : Int) - 1 + ((k : Nat) : Int) * -1 = ((xs1.length - 1 - k : Nat) : Int) := by omega
          rw [this]
        subst hx'
        obtain ⟨j, hj⟩ : ∃ j, j = xs1.length - 1 - k := ⟨_, rfl⟩
        rw [← hj]
        have hjx : xs1[j]? = some xs1[j] := List.getElem?_eq_getElem (by omega)
        obtain ⟨e, he, hde⟩ := DpAll.get hin hjx
        have lp : (natV p1 ++ [V.int ((j : Nat) : Int)]).length ≤ sizeLine := by
          have mem : p1 ∈ (plT d).map (·.1) := by
            rw [← ho, st]
            simp
          obtain ⟨t', ht', rfl⟩ := List.mem_map.mp mem
          have := plT_short d t' ht'
          have := dep_sz d vd
          refine fit ?_
          simp only [natV, List.length_append, List.length_map, List.length_singleton]
          omega
        refine ⟨rfl, _, rfl, qa, natV p1, rfl, .inl (SqT.of (h3 _ _ hqa)), _, rfl, lp, fun T1 n1 => ⟨_, rfl, _, rfl, b1, xs1, _, _, rfl, rfl, (h3.trans (same_upd n1)).seq hb1, atI_nat hjx, (by show 2 ≤ sizeLine; decide), fun T2 n2 => ?_⟩⟩
        have m1 := same_upd (o := .tup (natV p1 ++ [V.int ((j : Nat) : Int)])) n1
        have m2 := same_upd (o := .tup [.ref T1, xs1[j]]) n2
        have f1 := m2 _ _ (upd_same (H := H2) (a := T1) (o := .tup (natV p1 ++ [V.int ((j : Nat) : Int)])))
        have f2 := upd_same (H := upd H2 T1 (.tup (natV p1 ++ [V.int ((j : Nat) : Int)]))) (a := T2) (o := .tup [.ref T1, xs1[j]])
        have hD' := (m1.trans m2) _ _ h1
        have m3 := h3.trans (m1.trans m2)
        have h4' := h4.keep fun t o e => (m1.trans m2) _ _ e
        generalize upd (upd H2 T1 (.tup (natV p1 ++ [V.int ((j : Nat) : Int)]))) T2 (.tup [.ref T1, xs1[j]]) = G2 at f1 f2 hD' m3 h4'
        refine ⟨us, hD', ltz (by omega), us ++ [.ref T2], upd_same, by simp [h2], same_fresh nD m3, ?_⟩
        have ek : xs1.length - (k + 1) = j := by omega
        have ek2 : xs1.length - k = j + 1 := by omega
        rw [ek2] at h4'
        have kd := kid_drop p1 j 0 (innerD d1) e he
        rw [Nat.zero_add] at kd
        rw [ek, kd, List.reverse_append]
        have kp : ∀ t o, G2 t = some (.tup o) → (upd G2 D (.lst (us ++ [.ref T2]))) t = some (.tup o) := fun t o e => by
          have c1 : t ≠ D := fun z => by rw [z, hD'] at e; cases e
          rw [upd_ne c1]
          exact e
        exact .cons (kp _ _ f2) (kp _ _ (by rw [natV_snoc] at f1; exact f1)) hde (h4'.keep kp)
      · rintro H2 ⟨us, h1, h2, h3, h4⟩
        rw [Nat.sub_self] at h4
        refine ⟨wa, D, _, us, rfl, rfl, h3 _ _ (s1 _ _ hwG), h1, fit (by rw [List.length_reverse]; omega), ?_⟩
        have kp : ∀ c o, H2 c = some (.tup o) → (upd H2 wa (.lst (xs'.reverse ++ us))) c = some (.tup o) := fun c o ec => by
          have c1 : c ≠ wa := fun z => by rw [z, h3 _ _ (s1 _ _ hwG)] at ec; cases ec
          rw [upd_ne c1]
          exact ec
        have s12 := s1.trans h3
        refine ⟨us.reverse ++ xs', kidW p1 0 (innerD d1) ++ ws', ys ++ [.ref qa], qs ++ [p1], _, _, _, rfl, same_fresh nwaH (smG.trans s12), ?_, ?_, ?_, ?_, ?_, ?_, ?_⟩
        · rw [upd_same]
          simp
        · rw [upd_ne sw]
          exact s12 _ _ hsG
        · exact (PeOk.append h4 (hP'.keep fun t o e => s12 _ _ (keep _ _ e))).keep kp
        · exact Pls.append (hS.keep fun t o e => kp _ _ (s12 _ _ (keep _ _ e))) (.cons (kp _ _ (h3 _ _ hqa)) .nil)
        · rw [← ho, st]
          simp
        · intro x hx
          rcases List.mem_append.mp hx with hx | hx
          · obtain ⟨i, hi⟩ := List.getElem?_of_mem (kid_mem hx)
            have := inner_get hi
            dsimp only at bd1
            omega
          · exact hb x (List.mem_cons_of_mem _ hx)
        · rw [st, List.length_cons]
          exact Nat.lt_succ_self _
end
end TX
namespace TX
open PySem PySem.Spec PyProof.Rows L2
/-! ### a list under way in a comprehension, told as data -/
structure LcD (K : PySem.W.Frag) (H1 : Hp) (D : Addr) (F : List PyData) (H : Hp) : Prop where
  ex : ∃ us, H D = some (.lst us) ∧ DpAll K (del H D) us F
  sm : Same H1 H
theorem del_mono' {H H' : Hp} {p : Addr} (s : Same H H') : Same (del H p) (del H' p) := fun b o e => by
  by_cases z : b = p
  · rw [z, del_same] at e
    cases e
  · rw [del_ne z] at e ⊢
    exact s _ _ e
theorem del_out {H H' : Hp} {p : Addr} (h : H p = none) (s : Same H H') : Same H (del H' p) := fun b o e => by
  rw [del_ne (ne_of_none e h)]
  exact s _ _ e
theorem del_in {H : Hp} {p : Addr} : Same (del H p) H := fun b o e => by
  by_cases z : b = p
  · rw [z, del_same] at e
    cases e
  · rw [del_ne z] at e
    exact e
theorem newp_del {H H' : Hp} {p : Addr} (h : H p ≠ none) : Same (newp H H') (del H' p) := fun b o e => by
  cases q : H b with
  | some y =>
    rw [newp_old q] at e
    cases e
  | none =>
    rw [newp_at q] at e
    rw [del_ne (fun z => h (by rw [← z]; exact q))]
    exact e
theorem lcd_start {K : PySem.W.Frag} {H1 : Hp} {D : Addr} (nD : H1 D = none) : LcD K H1 D [] (upd H1 D (.lst [])) := ⟨⟨[], upd_same, .nil⟩, same_upd nD⟩
theorem LcD.on {K : PySem.W.Frag} {H1 H : Hp} {D : Addr} {F : List PyData} (L : LcD K H1 D F H) : H D ≠ none := by
  obtain ⟨us, e, _⟩ := L.ex
  rw [e]
  exact fun z => nomatch z
theorem lcd_push {K : PySem.W.Frag} {H1 H H4 : Hp} {D : Addr} {F : List PyData} {y : V} {d : PyData} (L : LcD K H1 D F H) (nD : H1 D = none) (s : Same H H4) (hy : Dp K (del H4 D) y d) (hl : F.length ≤ 100000) :
    ∃ acc, H4 D = some (.lst acc) ∧ acc.length < sizeLine ∧ LcD K H1 D (F ++ [d]) (upd H4 D (.lst (acc ++ [y]))) := by
  obtain ⟨us, e, h⟩ := L.ex
  have ul := DpAll.length h
  refine ⟨us, s _ _ e, Nat.lt_of_le_of_lt (show us.length ≤ 100000 by omega) (by decide), ⟨us ++ [y], upd_same, ?_⟩, same_fresh nD (L.sm.trans s)⟩
  have c : Same (del H4 D) (del (upd H4 D (.lst (us ++ [y]))) D) := fun b o q => by
    by_cases z : b = D
    · rw [z, del_same] at q
      cases q
    · rw [del_ne z] at q ⊢
      rw [upd_ne z]
      exact q
  exact dpAll_same c _ _ (DpAll.append (dpAll_same (del_mono' s) _ _ h) (.cons hy .nil))
theorem lcd_skip {K : PySem.W.Frag} {H1 H H3 : Hp} {D : Addr} {F : List PyData} (L : LcD K H1 D F H) (s : Same H H3) : LcD K H1 D F H3 := by
  obtain ⟨us, e, h⟩ := L.ex
  exact ⟨⟨us, s _ _ e, dpAll_same (del_mono' s) _ _ h⟩, L.sm.trans s⟩
theorem LcD.base {K : PySem.W.Frag} {H1 H : Hp} {D : Addr} {F : List PyData} (L : LcD K H1 D F H) (nD : H1 D = none) : Same H1 (del H D) := del_out nD L.sm
/-- the list, told -/
theorem LcD.dp {K : PySem.W.Frag} {H1 H : Hp} {D : Addr} {F : List PyData} (L : LcD K H1 D F H) : Dp K H (.ref D) (.list F) := by
  obtain ⟨us, e, h⟩ := L.ex
  exact .lst (SqL.of e) (dpAll_same del_in _ _ h)
/-! ### parts by their places -/
theorem natD_append (p q : List Nat) : natD (p ++ q) = natD p ++ natD q := List.map_append
theorem at_append : ∀ (ks ls : List PyData) (d e : PyData), atD d ks = some e → atD d (ks ++ ls) = atD e ls
  | [], ls, d, e, h => by
    cases h
    rfl
  | k :: ks, ls, d, e, h => by
    cases k with
    | int i =>
      rw [List.cons_append]
      simp only [atD] at h ⊢
      split at h
      · rename_i h0
        rw [if_pos h0]
        split at h
        · exact at_append ks ls _ e h
        · cases h
      · cases h
    | _ => simp [atD] at h
theorem inner_val {d : PyData} (hv : valD d) : valAll (innerD d) ∧ PyData.depthAll (innerD d) ≤ d.depth := by
  cases d with
  | str x =>
    obtain ⟨h1, h2, h3⟩ := signs_all x.cps.toList hv
    simp only [innerD]
    split
    · exact ⟨h1, by unfold signD; rw [h3]; exact Nat.zero_le _⟩
    · exact ⟨trivial, Nat.zero_le _⟩
  | list es => exact ⟨hv, by simp only [innerD, PyData.depth]; omega⟩
  | none => exact ⟨trivial, Nat.zero_le _⟩
  | bool _ => exact hv.elim
  | int _ => exact hv.elim
  | tuple _ => exact hv.elim
  | dict _ => exact hv.elim
theorem at_val : ∀ (ks : List PyData) (d e : PyData), atD d ks = some e → valD d → valD e ∧ sz e ≤ sz d + 1 ∧ e.depth ≤ d.depth
  | [], d, e, h, hv => by
    cases h
    exact ⟨hv, by omega, Nat.le_refl _⟩
  | k :: ks, d, e, h, hv => by
    cases k with
    | int i =>
      simp only [atD] at h
      split at h
      · split at h
        · rename_i x hx
          obtain ⟨v1, v2⟩ := inner_val hv
          obtain ⟨a, b, c⟩ := at_val ks x e h (val_get v1 hx)
          have dd := depth_get hx
          refine ⟨a, ?_, by omega⟩
          have p1 : 1 ≤ sz d := by cases d <;> simp [sz]
          rcases inner_get hx with z | z
          · omega
          · have x2 : sz e ≤ 2 := by
              cases ks with
              | nil =>
                cases h
                exact z
              | cons l ls => exact at_two (l :: ls) x e h z
            omega
        · cases h
      · cases h
    | _ => simp [atD] at h
where at_two : ∀ (ks : List PyData) (d e : PyData), atD d ks = some e → sz d ≤ 2 → sz e ≤ 2
  | [], d, e, h, hz => by
    cases h
    exact hz
  | k :: ks, d, e, h, hz => by
    cases k with
    | int i =>
      simp only [atD] at h
      split at h
      · split at h
        · rename_i x hx
          refine at_two ks x e h ?_
          rcases inner_get hx with z | z <;> omega
        · cases h
      · cases h
    | _ => simp [atD] at h
/-- what the rows of places say -/
def PtOk (d : PyData) (t : Pt) : Prop := atD d (natD t.1) = some t.2.1 ∧ tornD d (natD t.1) = t.2.2 ∧ (t.2.2 = true → ∃ c, t.2.1 = .str ⟨#[c]⟩) ∧ (t.2.2 = true → strB t.2.1 = true)
theorem atD_int {d : PyData} {j : Nat} {e : PyData} {ks : List PyData} (h : (innerD d)[j]? = some e) : atD d (.int ((j : Nat) : Int) :: ks) = atD e ks := by
  have e1 : (((j : Nat) : Int)).toNat = j := by omega
  have e2 : (0 : Int) ≤ ((j : Nat) : Int) := by omega
  simp only [atD, if_pos e2, e1, h]
theorem torn_list {es : List PyData} {j : Nat} {e : PyData} {ks : List PyData} (h : es[j]? = some e) : tornD (.list es) (.int ((j : Nat) : Int) :: ks) = tornD e ks := by
  cases ks with
  | nil => rfl
  | cons l ks =>
    have e1 : ((PyData.int ((j : Nat) : Int) :: l :: ks)).dropLast = .int ((j : Nat) : Int) :: (l :: ks).dropLast := List.dropLast_cons_of_ne_nil (by simp)
    have e2 : atD (.list es) (.int ((j : Nat) : Int) :: (l :: ks).dropLast) = atD e (l :: ks).dropLast := atD_int (d := .list es) h
    simp only [tornD, e1, e2]
theorem plS_mem : ∀ (cs : List Nat) (k : Nat) (t : Pt), t ∈ plS k cs → ∃ (j : Nat) (c : Nat), cs[j]? = some c ∧ t = ([k + j], .str ⟨#[c]⟩, true)
  | c :: cs, k, t, h => by
    simp only [plS, List.mem_cons] at h
    rcases h with rfl | h
    · exact ⟨0, c, rfl, rfl⟩
    · obtain ⟨j, c', hj, rfl⟩ := plS_mem cs (k + 1) t h
      exact ⟨j + 1, c', hj, by rw [show k + 1 + j = k + (j + 1) by omega]⟩
  | [], k, t, h => by simp [plS] at h
mutual
theorem plT_ok : ∀ (d : PyData), valD d → ∀ t ∈ plT d, PtOk d t
  | .none, _, t, h => by
    simp only [plT, List.mem_singleton] at h
    subst h
    exact ⟨rfl, rfl, (fun z => nomatch z), (fun z => nomatch z)⟩
  | .str x, hv, t, h => by
    simp only [plT, List.mem_cons] at h
    rcases h with rfl | h
    · exact ⟨rfl, rfl, (fun z => nomatch z), (fun z => nomatch z)⟩
    · split at h
      · rename_i h1
        obtain ⟨j, c, hj, rfl⟩ := plS_mem _ _ _ h
        have hi : (innerD (.str x))[j]? = some (.str ⟨#[c]⟩) := by
          simp only [innerD]
          rw [if_pos h1]
          unfold signD
          rw [List.getElem?_map, hj]
          rfl
        rw [Nat.zero_add]
        exact ⟨atD_int hi, rfl, fun _ => ⟨c, rfl⟩, fun _ => rfl⟩
      · cases h
  | .list es, hv, t, h => by
    simp only [plT, List.mem_cons] at h
    rcases h with rfl | h
    · exact ⟨rfl, rfl, (fun z => nomatch z), (fun z => nomatch z)⟩
    · obtain ⟨j, e, u, hj, hu, rfl, ok⟩ := plL_ok es hv 0 t h
      rw [Nat.zero_add]
      obtain ⟨a, b, c, c'⟩ := ok
      refine ⟨?_, ?_, c, c'⟩
      · exact (atD_int (d := .list es) (ks := natD u.1) hj).trans a
      · exact (torn_list (ks := natD u.1) hj).trans b
  | .bool _, hv, _, _ => hv.elim
  | .int _, hv, _, _ => hv.elim
  | .tuple _, hv, _, _ => hv.elim
  | .dict _, hv, _, _ => hv.elim
theorem plL_ok : ∀ (es : List PyData), valAll es → ∀ (k : Nat), ∀ t ∈ plL k es, ∃ (j : Nat) (e : PyData) (u : Pt), es[j]? = some e ∧ u ∈ plT e ∧ t = under (k + j) u ∧ PtOk e u
  | [], _, k, t, h => by simp [plL] at h
  | e :: es, hv, k, t, h => by
    simp only [plL, List.mem_append, List.mem_map] at h
    rcases h with ⟨u, hu, rfl⟩ | h
    · exact ⟨0, e, u, rfl, hu, rfl, plT_ok e hv.1 u hu⟩
    · obtain ⟨j, e', u, hj, hu, rfl, ok⟩ := plL_ok es hv.2 (k + 1) t h
      exact ⟨j + 1, e', u, hj, hu, by rw [show k + 1 + j = k + (j + 1) by omega], ok⟩
end
/-! ### part_of -/
def spPart (K : PySem.W.Frag) (NP : Addr) : Sp := fun vs H Q E => ∃ (v u : V) (d pl : PyData) (Hv : Hp), vs = [v, u] ∧ Same Hv H ∧ Dp K Hv v d ∧ Dp K Hv u pl ∧ valD d ∧ sz d ≤ 9000 ∧ nd pl ≤ 1000000 ∧
  (∀ e, foundD d pl = some e → ∀ H' w, Same H H' → Dp K (newp H H') w e → Q w H') ∧ (foundD d pl = none → ∀ (H3 : Hp) (dx : Addr) (w : V), Same H H3 → H3 dx = some (.xd [("place", w)]) → Dp K (newp H H3) w pl → E (.ref NP) (some dx) H3)
theorem found_at {d e : PyData} : ∀ {pl : PyData}, foundD d pl = some e → ∃ ks, pl = .tuple ks ∧ atD d ks = some e
  | .tuple ks, h => ⟨ks, rfl, h⟩
  | .none, h => nomatch h
  | .bool _, h => nomatch h
  | .int _, h => nomatch h
  | .str _, h => nomatch h
  | .list _, h => nomatch h
  | .dict _, h => nomatch h
section
variable {P : Program} {w : World} {K : PySem.W.Frag} {mg : Str → Option Value} {base : Heap} {TE NP : Addr}
theorem scPart : FnScope ["value", "place"] ["value", "place"] (defScope s_part_of) := ⟨rfl, rfl, rfl, by decide +kernel, rfl, by decide +kernel, by decide +kernel⟩
theorem ok_part {f fF fC : Addr} {fd dF dC : FuncData} (F : Fun K "part_of" "part_of" s_part_of f fd) (GC : FnOk P w K mg base CX0 2 fC dC ["thing"] (spCopy K)) (gC : mg "copy_of" = some (.ref fC)) (kC : PySem.W.keepIn K (.ref fC) = true) (bC : Binds K dC ["thing"] [])
    (GF : FnOk P w K mg base (L2.CX P w) 5 fF dF ["value", "place"] (spFound K NP)) (gF : mg "found_at" = some (.ref fF)) (kF : PySem.W.keepIn K (.ref fF) = true) (bF : Binds K dF ["value", "place"] []) :
    FnOk P w K mg base (L2.CX P w) 6 f fd ["value", "place"] (spPart K NP) := by
  refine F.okX scPart (fun vs H Q E h => ?_) (fun cdv A outer s H vs Q E hr h => ?_)
  · obtain ⟨v, u, d, pl, Hv, rfl, _⟩ := h
    rfl
  · obtain ⟨v, u, d, pl, Hv, rfl, sv, hd, hu, vd, hz, hnd, q1, q2⟩ := h
    have r2 : Room 2 _ := hr.mono (by decide)
    refine ⟨_, pss_one (ps_ret (pe_call GC r2 (by rfl) gC kC bC .nil pass0 (pa_cons (pe_call (E := E) GF hr (by rfl) gF kF bF .nil (passes_call (takes_of rfl rfl rfl rfl) fun _ _ _ _ z => z) (pa_cons (pv 0) (pa_cons (pv 1) pa_nil))) pa_nil))), ?_⟩
    refine ⟨_, rfl, _, rfl, v, u, d, pl, Hv, rfl, sv, hd, hu, by omega, hnd, fun e he H1 w1 s1 hw1 => ?_, q2⟩
    obtain ⟨ks, rfl, ha⟩ := found_at he
    obtain ⟨ve, ze, _⟩ := at_val ks d e ha vd
    have := nd_sz e ve
    exact ⟨w1, e, Hv, rfl, sv.trans s1, hw1, by omega, fun H2 v' s2 hv' => q1 e he H2 v' (s1.trans s2) (dp_same (newp_less s1) _ _ hv')⟩
end
end TX
namespace TX
open PySem PySem.Spec PyProof.Rows L2
/-! ### enumerate(text) -/
def Ites (z : Str) : It :=
  ⟨fun i _ => i < z.cps.size, fun i H v H' => ∃ T c, v = .ref T ∧ H T = none ∧ H' = upd H T (.tup [.int (i : Nat), .str ⟨#[c]⟩]) ∧ z.cps[i]? = some c, fun i _ => z.cps.size ≤ i⟩
theorem draws_str {prog : Program} {w : World} {A : Around} (hh : A.handled = none) (it : Addr) (x : Str) (t : Tok) : Draws prog w A it [it] x.cps.size (SignAt x) (fun i h => h.IsStrIter it (strIterType x) x t i) := by
  unfold strIterType
  split
  · exact Draws.strAscii hh it x t
  · exact Draws.strWide hh it x t
theorem turn_enumS {P : Program} {w : World} {K : PySem.W.Frag} {elts : List Expr} {kk : Nat} {tpos : Pos} (x : Str) (t : Tok) (e it : Addr) :
    Turn P w K (.Tuple elts kk tpos) (Ites x) [e, it] e (fun i h => (∃ old, IsEnum h e it ((i : Nat) : Int) old) ∧ h.IsStrIter it (strIterType x) x t i ∧ e ≠ it ∧ i ≤ x.cps.size) where
  mem := by simp
  obj := fun i h st b hb => by
    obtain ⟨⟨old, he⟩, ⟨o, ho, hc, hd⟩, _⟩ := st
    have e' : b = e ∨ b = it := by simpa using hb
    rcases e' with z | z
    · rw [z]; exact ⟨_, he, fun v q => nomatch q⟩
    · rw [z]; exact ⟨o, ho, fun v q => by rw [hd] at q; cases q⟩
  keep := fun i h h' st k => let ⟨⟨old, he⟩, ⟨o, ho, hc, hd⟩, hne, hle⟩ := st; ⟨⟨old, k e (by simp) _ he⟩, ⟨o, k it (by simp) _ ho, hc, hd⟩, hne, hle⟩
  item := by
    intro X hP hw hK hc i pins s σ H E I hf st hg
    subst hP hw hK
    obtain ⟨⟨old, he⟩, hit, hne, hle⟩ := st
    have hel : e < s.heap.objs.size := Heap.lt_size he
    have hil : it < s.heap.objs.size := by obtain ⟨_, q, _⟩ := hit; exact Heap.lt_size q
    refine wpAny_pyNext_enum_itemD (draws_str (A := X.A.in1) (show X.A.in1.handled = none from I.ok.hd hc) it x t) he hit hg hne (by simpa using hne) fun u h' tk hu ho hit' hT hsz hk => ?_
    obtain ⟨c, tu, hcx, rfl⟩ := hu
    refine ⟨_, rfl, wpAny_letOwnedTupleGo_enum (s := { s with heap := h', toks := tk + 1 }) ho fun h'' he' sb => ?_⟩
    have hT2 : h''.get? s.heap.objs.size = some { cls := .type "tuple", data := .seq #[.int i tk, .str ⟨#[c]⟩ tu] } := (sb.2 _ (Nat.ne_of_gt hel)).trans hT
    have new : ObjOk X.prog X.w (upd H s.heap.objs.size (.tup [.int (i : Nat), .str ⟨#[c]⟩])) h'' s.heap.objs.size (.tup [.int (i : Nat), .str ⟨#[c]⟩]) :=
      ⟨by show 2 ≤ sizeLine; decide, [.int i tk, .str ⟨#[c]⟩ tu], .cons ⟨_, rfl⟩ (.cons ⟨_, rfl⟩ .nil), ⟨_, hT2, rfl, _, rfl⟩⟩
    have I1 : Inv X pins σ (upd H s.heap.objs.size (.tup [.int (i : Nat), .str ⟨#[c]⟩])) { s with heap := h'', toks := tk + 1 } :=
      I.turnedNew (ch := [e, it]) (fun b ob hb q => (sb.2 b (fun z => hb (by simp [z]))).trans (hk b ob (fun z => hb (by simp [z])) (fun z => hb (by simp [z])) q)) hf (Nat.le_refl _) new
    refine ⟨.ref s.heap.objs.size, _, I1, rfl, ⟨_, c, rfl, I.hok.fresh (Nat.le_refl _), rfl, hcx⟩, ⟨⟨.str ⟨#[c]⟩ tu, ?_⟩, ?_, hne, hg⟩, fun b hb => ?_⟩
    · have e1 : ((i + 1 : Nat) : Int) = (i : Int) + 1 := by omega
      rw [e1]; exact he'
    · obtain ⟨o, q1, q2, q3⟩ := hit'
      exact ⟨o, (sb.2 it (Ne.symm hne)).trans q1, q2, q3⟩
    · have hb' : b < s.heap.objs.size := by
        have e' : b = e ∨ b = it := by simpa using hb
        rcases e' with z | z
        · rw [z]; exact hel
        · rw [z]; exact hil
      rw [upd_ne (Nat.ne_of_lt hb')]
      exact (hf b hb).1
  done := by
    intro X hP hw hK hc i pins s σ H E I hf st hg
    subst hP hw hK
    obtain ⟨⟨old, he⟩, hit, hne, hle⟩ := st
    obtain ⟨f0, f1, f2, f3, f4, f5⟩ := hf it (by simp)
    have ei : i = x.cps.size := Nat.le_antisymm hle hg
    subst ei
    exact wpAny_pyNext_enum_endD (draws_str (A := X.A.in1) (show X.A.in1.handled = none from I.ok.hd hc) it x t) he hit fun h' eb => ⟨rfl, I.turned (t' := s.toks) (fun b o hb q => eb b o hb q) f0 f1 f3 f4 f5⟩
  self := fun A i s Q E st h => let ⟨⟨_, he⟩, _⟩ := st; wpAny_pyIter_enum he h
def iEnumS (ta : TA) : TI := fun σ H R => ta σ H fun vs H1 => ∃ x : Str, vs = [.str x] ∧ R (Ites x) H1
theorem pi_enumS {X : Cx} {e : Expr} {ta : TA} {p pos tpos : Pos} {elts : List Expr} {kk : Nat} (hg : Gl X "enumerate") (hm : X.mg "enumerate" = none) (ha : PA X [e] ta) (hs : starEach [e] X.env = [(false, eval e X.env)] := by rfl) :
    PI X (.Tuple elts kk tpos) (.Call (.Name "enumerate" p) [e] [] pos) (iEnumS ta) := by
  refine ⟨fun pins s σ H R I h => ?_⟩
  refine Call_ (ld_blt I hg hm boot_enumerate (PyProof.Rows.callWith_type1 (thn (ha.run pos pins s σ H _ I h) fun us s1 ⟨vs, H1, I1, r1, q1⟩ => ?_) hs rfl))
  obtain ⟨x, ex, q⟩ := q1
  subst ex
  cases r1 with
  | cons r rr =>
    cases rr
    obtain ⟨t, rfl⟩ := r
    refine call_enumerate_str fun h' he hit hsz hk => wpAny_pyIter_enum he ?_
    have I2 : Inv X pins σ H1 { s1 with heap := h' } := I1.kept (t' := s1.toks) hk
    refine ⟨s1.heap.objs.size + 1, [s1.heap.objs.size + 1, s1.heap.objs.size], _, _, H1, rfl, I2, turn_enumS x t (s1.heap.objs.size + 1) s1.heap.objs.size, ⟨⟨.none, he⟩, hit, Nat.succ_ne_self _, Nat.zero_le _⟩, fun b hb => ?_, q⟩
    have e' : b = s1.heap.objs.size + 1 ∨ b = s1.heap.objs.size := by simpa using hb
    have hle : s1.heap.objs.size ≤ b := by
      rcases e' with z | z
      · rw [z]; exact Nat.le_add_right _ _
      · rw [z]; exact Nat.le_refl _
    exact I1.fpOk hle (I1.hok.fresh hle)
theorem walk_enumS {z : Str} : Walk (Ites z) z.cps.size (fun _ => True) (fun i H v H' => ∃ T c, v = .ref T ∧ H T = none ∧ H' = upd H T (.tup [.int (i : Nat), .str ⟨#[c]⟩]) ∧ z.cps[i]? = some c) :=
  ⟨fun _ _ hi _ => hi, fun _ _ => Nat.le_refl _, fun _ _ _ _ _ _ y => y⟩
end TX
namespace TX
open PySem PySem.Spec PyProof.Rows L2
/-! ### a list under way, its parts told over a part of the heap -/
def Blind (φ : Hp → Hp) (D : Addr) : Prop := ∀ A B, (∀ b o, b ≠ D → A b = some o → B b = some o) → Same (φ A) (φ B)
structure LcG (K : PySem.W.Frag) (φ : Hp → Hp) (H1 : Hp) (D : Addr) (F : List PyData) (H : Hp) : Prop where
  ex : ∃ us, H D = some (.lst us) ∧ DpAll K (φ H) us F
  sm : Same H1 H
theorem lcg_start {K : PySem.W.Frag} {φ : Hp → Hp} {H1 : Hp} {D : Addr} (nD : H1 D = none) : LcG K φ H1 D [] (upd H1 D (.lst [])) := ⟨⟨[], upd_same, .nil⟩, same_upd nD⟩
theorem LcG.on {K : PySem.W.Frag} {φ : Hp → Hp} {H1 H : Hp} {D : Addr} {F : List PyData} (L : LcG K φ H1 D F H) : H D ≠ none := by
  obtain ⟨us, e, _⟩ := L.ex
  rw [e]
  exact fun z => nomatch z
theorem Blind.same {φ : Hp → Hp} {D : Addr} (hφ : Blind φ D) {A B : Hp} (s : Same A B) : Same (φ A) (φ B) := hφ A B fun b o _ e => s b o e
theorem lcg_push {K : PySem.W.Frag} {φ : Hp → Hp} {H1 H H4 : Hp} {D : Addr} {F F' : List PyData} {y : V} {d : PyData} (hφ : Blind φ D) (L : LcG K φ H1 D F H) (nD : H1 D = none) (s : Same H H4) (hy : Dp K (φ H4) y d) (hF : F' = F ++ [d]) (hl : F.length ≤ 100000) :
    ∃ acc, H4 D = some (.lst acc) ∧ acc.length < sizeLine ∧ LcG K φ H1 D F' (upd H4 D (.lst (acc ++ [y]))) := by
  obtain ⟨us, e, h⟩ := L.ex
  have ul := DpAll.length h
  subst hF
  refine ⟨us, s _ _ e, Nat.lt_of_le_of_lt (show us.length ≤ 100000 by omega) (by decide), ⟨us ++ [y], upd_same, ?_⟩, same_fresh nD (L.sm.trans s)⟩
  have c : Same (φ H4) (φ (upd H4 D (.lst (us ++ [y])))) := hφ _ _ fun b o hb q => by
    rw [upd_ne hb]
    exact q
  exact dpAll_same c _ _ (DpAll.append (dpAll_same (hφ.same s) _ _ h) (.cons hy .nil))
theorem lcg_skip {K : PySem.W.Frag} {φ : Hp → Hp} {H1 H H3 : Hp} {D : Addr} {F F' : List PyData} (hφ : Blind φ D) (L : LcG K φ H1 D F H) (s : Same H H3) (hF : F' = F) : LcG K φ H1 D F' H3 := by
  obtain ⟨us, e, h⟩ := L.ex
  subst hF
  exact ⟨⟨us, s _ _ e, dpAll_same (hφ.same s) _ _ h⟩, L.sm.trans s⟩
theorem blind_del {D : Addr} : Blind (fun G => del G D) D := fun A B k b o e => by
  show del B D b = some o
  change del A D b = some o at e
  by_cases z : b = D
  · rw [z, del_same] at e
    cases e
  · rw [del_ne z] at e ⊢
    exact k b o z e
theorem blind_mix {Hv H : Hp} {D : Addr} : Blind (fun G => del (mixp Hv H G) D) D := fun A B k => mix_mono k
theorem mix_grow {Hv H A B : Hp} (s : Same A B) : Same (mixp Hv H A) (mixp Hv H B) := fun b o e => by
  rcases mix_in e with h | ⟨h1, h2, h3⟩
  · exact mix_old _ _ h
  · rw [mix_new h1 h2]
    exact s _ _ h3
theorem mix_less {Hv H A B : Hp} (s : Same H A) : Same (mixp Hv A B) (mixp Hv H B) := fun b o e => by
  rcases mix_in e with h | ⟨h1, h2, h3⟩
  · exact mix_old _ _ h
  · rw [mix_new h1 (s.free h2)]
    exact h3
theorem mix_fresh {Hv H A : Hp} {D : Addr} (nD : A D = none) (s : Same Hv A) : Same (mixp Hv H A) (del (mixp Hv H A) D) := fun b o e => by
  have : b ≠ D := fun z => by
    rw [z] at e
    rcases mix_in e with h | ⟨h1, h2, h3⟩
    · rw [s _ _ h] at nD
      cases nD
    · rw [h3] at nD
      cases nD
  rw [del_ne this]
  exact e
theorem get_map {α β : Type} {g : α → β} {l : List α} {i : Nat} {y : β} (h : (l.map g)[i]? = some y) : ∃ t, l[i]? = some t ∧ y = g t := by
  rw [List.getElem?_map] at h
  cases e : l[i]? with
  | none =>
    rw [e] at h
    cases h
  | some t =>
    rw [e] at h
    exact ⟨t, rfl, (Option.some.inj h).symm⟩
theorem take_map1 {α β : Type} {g : α → β} {l : List α} {i : Nat} {t : α} (h : l[i]? = some t) : (l.take (i + 1)).map g = (l.take i).map g ++ [g t] := by
  rw [List.take_add_one, h, List.map_append]
  rfl
theorem dp_tup {K : PySem.W.Frag} {H : Hp} {x : V} {F : List PyData} (h : Dp K H x (.tuple F)) : ∃ a xs, x = .ref a ∧ SqT K H a xs ∧ DpAll K H xs F := by
  cases h with
  | @tup a xs _ h1 h2 => exact ⟨a, xs, rfl, h1, h2⟩
theorem dp_items {K : PySem.W.Frag} {H : Hp} {x : V} {F : List PyData} (h : Dp K H x (.list F)) : ∃ a xs, x = .ref a ∧ SqL K H a xs ∧ DpAll K H xs F := by
  cases h with
  | @lst a xs _ h1 h2 => exact ⟨a, xs, rfl, h1, h2⟩
theorem tyes_in {σ : L2.St} {H : Hp} {Q : Bool → Hp → Prop} (h : Q true H) : tYes σ H Q := h
theorem iteT' {c : Bool} {A B : Prop} (h : c = true) (a : A) : if c = true then A else B := by
  rw [h]
  exact a
theorem iteF' {c : Bool} {A B : Prop} (h : c = false) (b : B) : if c = true then A else B := by
  rw [h]
  exact b
/-! ### _law_rows -/
def plD (t : Pt) : PyData := .tuple (natD t.1)
def rowD (t : Pt) : PyData := .tuple [plD t, t.2.1, .bool t.2.2]
def spRows (K : PySem.W.Frag) (N : Nat) : Sp := fun vs H Q _ => ∃ (v : V) (d : PyData) (Hv : Hp), vs = [v] ∧ Same Hv H ∧ Dp K Hv v d ∧ valD d ∧ d.depth ≤ N ∧ sz d ≤ 5000 ∧
  ∀ (H' : Hp) (l : Addr) (ws : List V), Same H H' → H l = none → H' l = some (.lst ws) → DpAll K (mixp Hv H H') ws ((plT d).map rowD) → Q (.ref l) H'
def tUp (K : PySem.W.Frag) : TE := tTup (tCons (tOp (rCatT K) (tTup (tCons (tVar 2) tNil)) (tVar 4)) (tCons (tVar 5) (tCons (tVar 6) tNil)))
def gRow (K : PySem.W.Frag) : TG := gTup K 3 (gCons (gName 4) (gCons (gName 5) (gCons (gName 6) gNil)))
theorem nat_dp {K : PySem.W.Frag} {H : Hp} : ∀ {p : List Nat} {us : List V}, DpAll K H us (natD p) → us = natV p
  | [], _, h => by
    cases h
    rfl
  | c :: l, _, h => by
    cases h with
    | cons h1 h2 =>
      cases h1
      rw [nat_dp (p := l) h2]
      rfl
theorem sees_mix {Hv H0 H G : Hp} {D p : Addr} (s1 : Same Hv H) (s2 : Same H0 H) (hD : H D ≠ none) (hp : H p = none) : (del (mixp Hv H0 G) D) p = G p := by
  have h1 : p ≠ D := fun z => hD (z ▸ hp)
  rw [del_ne h1, mix_new (s1.free hp) (s2.free hp)]
theorem up_read {K : PySem.W.Frag} {σ : L2.St} {H : Hp} {φ : Hp → Hp} {Q : VK} {n : Nat} {x1 x2 : V} {t : Pt} (h2 : σ[2]? = some (some (.int ((n : Nat) : Int)))) (h4 : σ[4]? = some (some x1)) (h5 : σ[5]? = some (some x2)) (h6 : σ[6]? = some (some (.bl t.2.2)))
    (hx1 : Dp K H x1 (plD t)) (hx2 : Dp K (φ H) x2 t.2.1) (hs : ∀ G p, H p = none → (φ G) p = G p) (hm : ∀ A B, Same A B → Same (φ A) (φ B)) (hl : t.1.length ≤ 50000)
    (q : ∀ (H4 : Hp) (y : V), Same H H4 → Dp K (φ H4) y (rowD (under n t)) → Q y H4) : tUp K σ H Q := by
  obtain ⟨qa, qs, rfl, hq, hqa⟩ := dp_tup hx1
  have ql := DpAll.length hqa
  have nl : (natD t.1).length = t.1.length := List.length_map ..
  have fin : ∀ (G : Hp) (T : Addr) (us : List V), Same H G → G T = some (.tup us) → H T = none → DpAll K G us (natD (n :: t.1)) → (tTup (tCons (fun _ H1 Q => Q (.ref T) H1) (tCons (tVar 5) (tCons (tVar 6) tNil)))) σ G Q := by
    intro G T us sG hT nT hus
    refine ⟨_, h5, _, h6, (by show 3 ≤ sizeLine; decide), fun t3 n3 => q _ _ (sG.trans (same_upd n3)) ?_⟩
    have n3H : H t3 = none := sG.free n3
    refine .tup (SqT.of (xs := [.ref T, x2, .bl t.2.2]) (by rw [hs _ _ n3H, upd_same])) (.cons (.tup (a := T) (SqT.of (xs := us) ?_) ?_) (.cons (dp_same (hm _ _ (sG.trans (same_upd n3))) _ _ hx2) (.cons (.bl _) .nil)))
    · rw [hs _ _ nT]
      exact same_upd n3 _ _ hT
    · have : us = natV (n :: t.1) := nat_dp hus
      rw [this]
      exact dp_nats _
  refine ⟨_, h2, (by show 1 ≤ sizeLine; decide), fun t1 n1 => ⟨_, h4, t1, qa, [.int ((n : Nat) : Int)], qs, rfl, rfl, SqT.of upd_same, same_sqt (same_upd n1) hq, by simp, ?_, fun e => ?_, fun e t2 n2 => ?_⟩⟩
  · exact Nat.le_trans (show 1 + qs.length ≤ 50001 by omega) (by decide)
  · have e1 : t.1 = [] := by
      have : t.1.length = 0 := by rw [← nl, ← ql, e]; rfl
      exact List.length_eq_zero_iff.mp this
    refine fin _ t1 _ (same_upd n1) upd_same n1 ?_
    rw [e1]
    exact .cons (.int _) .nil
  · refine fin _ t2 _ ((same_upd n1).trans (same_upd n2)) upd_same ((same_upd n1).free n2) ?_
    exact .cons (.int _) (dpAll_same ((same_upd n1).trans (same_upd n2)) _ _ hqa)
end TX
namespace TX
open PySem PySem.Spec PyProof.Rows L2
theorem plL_append : ∀ (a b : List PyData) (k : Nat), plL k (a ++ b) = plL k a ++ plL (k + a.length) b
  | [], b, k => by simp [plL]
  | d :: a, b, k => by
    simp only [List.cons_append, plL, plL_append a b (k + 1), List.length_cons, List.append_assoc]
    rw [show k + 1 + a.length = k + (a.length + 1) by omega]
theorem plL_snoc {es : List PyData} {n : Nat} {e : PyData} (h : es[n]? = some e) : plL 0 (es.take (n + 1)) = plL 0 (es.take n) ++ (plT e).map (under n) := by
  have hn := (List.getElem?_eq_some_iff.mp h).1
  rw [List.take_add_one, h]
  show plL 0 (es.take n ++ [e]) = _
  rw [plL_append, List.length_take, Nat.min_eq_left (by omega), Nat.zero_add]
  simp [plL]
theorem plS_get : ∀ (cs : List Nat) (k j : Nat), (plS k cs)[j]? = cs[j]?.map fun c => ([k + j], PyData.str ⟨#[c]⟩, true)
  | [], k, j => by simp [plS]
  | c :: cs, k, 0 => by simp [plS]
  | c :: cs, k, j + 1 => by
    simp only [plS, List.getElem?_cons_succ, plS_get cs (k + 1) j]
    cases cs[j]? with
    | none => rfl
    | some c => simp only [Option.map_some]; rw [show k + 1 + j = k + (j + 1) by omega]
section
variable {P : Program} {w : World} {K : PySem.W.Frag} {mg : Str → Option Value} {base : Heap}
theorem scRows : FnScope ["_law_value_here", "_law_rows_here", "_law_at", "_law_one", "_law_place", "_law_inner", "_law_is_piece", "_law_sign"] ["_law_value_here"] (defScope s__law_rows) := ⟨rfl, rfl, rfl, by decide +kernel, rfl, by decide +kernel, by decide +kernel⟩
theorem ok_rows1 {f : Addr} {fd : FuncData} (F : Fun K "_law_rows" "_law_rows" s__law_rows f fd) (T : Nm mg) (k : Nk mg) (B : Nb mg) (b : Binds K fd ["_law_value_here"] []) (g : mg "_law_rows" = some (.ref f)) (N : Nat) (G : ∀ j : { M : Nat // M + 1 = N }, FnOk P w K mg base CX0 (j.1 + 1) f fd ["_law_value_here"] (spRows K j.1)) :
    FnOk P w K mg base CX0 (N + 1) f fd ["_law_value_here"] (spRows K N) := by
  refine F.ok scRows (fun vs H Q E h => ?_) (fun cdv A outer s H vs Q E hr h => ?_)
  · obtain ⟨v, d, Hv, rfl, _⟩ := h
    rfl
  · obtain ⟨v, d, Hv, rfl, sv, hd, hv, hN, hz, q⟩ := h
    have hrR : ∀ j : { M : Nat // M + 1 = N }, Room (j.1 + 1) _ := fun j => hr.mono (by have := j.2; omega)
    refine ⟨_, pss_cons (ps_set (i := 1) scRows.nd rfl (.inl rfl) (pe_lst (pa_cons (pe_tup (pa_cons (pe_tup pa_nil) (pa_cons (pv 0) (pa_cons pe_bl pa_nil)))) pa_nil))) <|
      pss_cons (ps_if (pt_val (pe_callB call_isi (by rfl) T.isi (by decide +kernel) (pa_cons (pv 0) (pa_cons (pe_bltn (v := .ty "list") (by rfl) T.lst (by decide +kernel) rfl) pa_nil))))
        (pss_one (ps_for PassesOwn.never rfl (pi_enum (by rfl) B.enum (pa_cons (pv 0) pa_nil)) (pg_tup rfl (pgs_cons (pg_name (i := 2) scRows.nd rfl (.inr rfl)) (pgs_cons (pg_name (i := 3) scRows.nd rfl (.inl rfl)) pgs_nil))) (
          pss_one (ps_set (i := 1) scRows.nd rfl (.inl rfl) (pe_op op_cat (pv 1) (pe_lc (own := [("_law_place", 4), ("_law_inner", 5), ("_law_is_piece", 6)]) (g := gRow K) (tt := tYes) (te := tUp K) rfl scRows.nd (pi_list (pe_ex fun j => pe_call (G j) (hrR j) (by rfl) g F.kp b .nil pass0 (pa_cons (pv 3) pa_nil)))
                (blkOk_by (own := [("_law_place", 4), ("_law_inner", 5), ("_law_is_piece", 6)]) (N := ["_law_value_here", "_law_rows_here", "_law_at", "_law_one", "_law_place", "_law_inner", "_law_is_piece", "_law_sign"]) (sc := defScope s__law_rows) (by decide +kernel))
                (fun _ _ _ _ _ => pg_tup rfl (pgs_cons (pg_name (i := 4) scRows.nd rfl (Or.inl rfl)) (pgs_cons (pg_name (i := 5) scRows.nd rfl (Or.inl rfl)) (pgs_cons (pg_name (i := 6) scRows.nd rfl (Or.inl rfl)) pgs_nil)))) (fun _ _ _ _ _ => pts_nil)
                (fun _ _ _ _ _ => pe_tup (pa_cons (pe_op op_catT (pe_tup (pa_cons (pv 2) pa_nil)) (pv 4)) (pa_cons (pv 5) (pa_cons (pv 6) pa_nil)))))))))) pss_nil) <|
      pss_cons (ps_if (PW.pt (pw_and (pt_val (pe_callB call_isi (by rfl) T.isi (by decide +kernel) (pa_cons (pv 0) (pa_cons (pe_bltn (v := .ty "str") (by rfl) k.str (by decide +kernel) rfl) pa_nil)))) (pw_and1 (pt_cmpR op_gt (pe_callB call_len_str (by rfl) B.len PySem.boot_len (pa_cons (pv 0) pa_nil)) pe_int (nomark _)))))
        (pss_one (ps_set (i := 1) scRows.nd rfl (.inl rfl) (pe_op op_cat (pv 1) (pe_lc (own := [("_law_at", 2), ("_law_sign", 7)]) (g := gTup K 2 (gCons (gName 2) (gCons (gName 7) gNil))) (tt := tYes) (te := tTup (tCons (tTup (tCons (tVar 2) tNil)) (tCons (tVar 7) (tCons (tC (.bl true)) tNil)))) rfl scRows.nd
            (pi_enumS (by rfl) B.enum (pa_cons (pv 0) pa_nil))
            (blkOk_by (own := [("_law_at", 2), ("_law_sign", 7)]) (N := ["_law_value_here", "_law_rows_here", "_law_at", "_law_one", "_law_place", "_law_inner", "_law_is_piece", "_law_sign"]) (sc := defScope s__law_rows) (by decide +kernel))
            (fun _ _ _ _ _ => pg_tup rfl (pgs_cons (pg_name (i := 2) scRows.nd rfl (Or.inl rfl)) (pgs_cons (pg_name (i := 7) scRows.nd rfl (Or.inl rfl)) pgs_nil))) (fun _ _ _ _ _ => pts_nil)
            (fun _ _ _ _ _ => pe_tup (pa_cons (pe_tup (pa_cons (pv 2) pa_nil)) (pa_cons (pv 7) (pa_cons pe_bl pa_nil)))))))) pss_nil) <|
      pss_one (ps_ret (pv 1)), ?_⟩
    refine ⟨by decide, fun t0 nt0 => ⟨_, rfl, (by show 3 ≤ sizeLine; decide), fun t1 nt1 => ⟨(by show 1 ≤ sizeLine; decide), fun l0 nl0 => ?_⟩⟩⟩
    have s1 : Same H (upd (upd (upd H t0 (.tup [])) t1 (.tup [.ref t0, v, .bl false])) l0 (.lst [.ref t1])) := ((same_upd nt0).trans (same_upd nt1)).trans (same_upd nl0)
    have nt1H : H t1 = none := (same_upd nt0).free nt1
    have nl0H : H l0 = none := ((same_upd nt0).trans (same_upd nt1)).free nl0
    have hl0 : (upd (upd (upd H t0 (.tup [])) t1 (.tup [.ref t0, v, .bl false])) l0 (.lst [.ref t1])) l0 = some (.lst [.ref t1]) := upd_same
    have ht1 : (upd (upd (upd H t0 (.tup [])) t1 (.tup [.ref t0, v, .bl false])) l0 (.lst [.ref t1])) t1 = some (.tup [.ref t0, v, .bl false]) := same_upd nl0 _ _ upd_same
    have ht0 : (upd (upd (upd H t0 (.tup [])) t1 (.tup [.ref t0, v, .bl false])) l0 (.lst [.ref t1])) t0 = some (.tup []) := same_upd nl0 _ _ (same_upd nt1 _ _ upd_same)
    generalize upd (upd (upd H t0 (.tup [])) t1 (.tup [.ref t0, v, .bl false])) l0 (.lst [.ref t1]) = G0 at s1 hl0 ht1 ht0
    have ty := dp_ty (dp_same (sv.trans s1) _ _ hd)
    have nv0 : Hv t0 = none := sv.free nt0
    have nv1 : Hv t1 = none := sv.free nt1H
    -- the first row
    have row0 : DpAll K (mixp Hv H G0) [.ref t1] [rowD ([], d, false)] := .cons (.tup (SqT.of (by rw [mix_new nv1 nt1H]; exact ht1)) (.cons (.tup (SqT.of (xs := []) (by rw [mix_new nv0 nt0]; exact ht0)) .nil) (.cons (dp_same mix_old _ _ hd) (.cons (.bl _) .nil)))) .nil
    have lT := plT_len d hv
    refine ⟨_, rfl, v, .ty "list", .type (tyD d), .type "list", _, rfl, .ty _, ty, kitL d K, _, rfl, ?_⟩
    by_cases el : (tyD d == "list") = true
    · rw [el]
      refine iteT ?_
      cases hd with
      | @lst b1 xs es h1 h2 =>
        have hl := DpAll.length h2
        have hN' : PyData.depthAll es + 1 ≤ N := by
          simp only [PyData.depth] at hN
          omega
        have hz' : szAll es + 1 ≤ 5000 := by simpa only [sz] using hz
        have esl := szAll_len es
        refine ⟨_, rfl, b1, xs, rfl, (sv.trans s1).seq h1, for_it (walk_enum (K := K) (a := b1) (xs := xs)) (fun n σ H2 => ∃ (a : Addr) (wa : List V) (y2 y3 : Option V), σ = [some (.ref b1), some (.ref a), y2, y3, none, none, none, none] ∧ Same H H2 ∧ H a = none ∧ H2 a = some (.lst wa) ∧
          DpAll K (mixp Hv H H2) wa (rowD ([], .list es, false) :: (plL 0 (es.take n)).map rowD)) ⟨l0, _, none, none, rfl, s1, nl0H, hl0, row0⟩ (fun n σ H2 hn ⟨_, _, _, _, _, sm, _⟩ => (sv.trans sm).seq h1) ?_ ?_⟩
        · rintro n x σ H2 H2' hn ⟨a, wa, y2, y3, rfl, sm, na, ha, pa⟩ ⟨T0, n0, c0, rfl, nT, rfl, en, ec⟩
          cases en
          obtain ⟨e1, he1, hde⟩ := DpAll.get h2 ec
          have sT : Same H2 (upd H2 T0 (.tup [.int ((n : Nat) : Int), c0])) := same_upd nT
          have hT : (upd H2 T0 (.tup [.int ((n : Nat) : Int), c0])) T0 = some (.tup [.int ((n : Nat) : Int), c0]) := upd_same
          generalize upd H2 T0 (.tup [.int ((n : Nat) : Int), c0]) = G1 at sT hT
          have ez := sz_get he1
          have ed := depth_get he1
          have ev := val_get (ds := es) hv he1
          have lE := plT_len e1 ev
          have sH1 : Same H G1 := sm.trans sT
          refine ⟨T0, _, rfl, SqT.of hT, rfl, _, _, rfl, _, _, rfl, rfl, ?_⟩
          refine ⟨_, rfl, ⟨N - 1, by omega⟩, _, rfl, c0, e1, Hv, rfl, sv.trans sH1, hde, ev, by show e1.depth ≤ N - 1; omega, by omega, fun H3 l3 ws3 s3 nl3 hl3 hw3 => ?_⟩
          have lw3 : ws3.length = (plT e1).length := (DpAll.length hw3).trans (List.length_map ..)
          have sH3 : Same H H3 := sH1.trans s3
          refine ⟨l3, rfl, ⟨_, SqL.of hl3⟩, fun D nD => lc_list (K := K) (a := l3) (xs := ws3) (fun j H' => LcG K (fun G => del (mixp Hv H G) D) H3 D (((plT e1).take j).map fun t => rowD (under n t)) H') (lcg_start nD) (fun j H' hj L => SqL.of (L.sm _ _ hl3)) ?_ ?_⟩
          · rintro j x H' hx L
            obtain ⟨dd, hdd, hxd⟩ := DpAll.get hw3 hx
            obtain ⟨t, ht, rfl⟩ := get_map hdd
            have nDH : H D = none := sH3.free nD
            have hxd' : Dp K (del (mixp Hv H H') D) x (rowD t) := dp_same ((mix_less sH1).trans ((mix_fresh nD (sv.trans sH3)).trans (blind_mix.same L.sm))) _ _ hxd
            obtain ⟨qx, qs, rfl, hq, hqs⟩ := dp_tup hxd'
            have hqH : SqT K H' qx qs := same_sqt (del_in.trans (mix_all sv (sH3.trans L.sm))) hq
            cases hqs with
            | @cons x1 _ _ _ g1 g2 =>
              cases g2 with
              | @cons x2 _ _ _ g2 g3 =>
                cases g3 with
                | @cons x3 _ _ _ g3 g4 =>
                  cases g4
                  cases g3
                  refine ⟨qx, _, rfl, hqH, rfl, _, _, rfl, _, _, rfl, _, _, rfl, rfl, ?_⟩
                  refine ⟨rfl, tyes_in (iteT ?_)⟩
                  have := plT_short e1 t (List.mem_of_getElem? ht)
                  have := dep_sz e1 ev
                  refine up_read (n := n) (φ := fun G => del (mixp Hv H G) D) (t := t) rfl rfl rfl rfl (dp_same (del_in.trans (mix_all sv (sH3.trans L.sm))) _ _ g1) g2 (fun G p hp => sees_mix (H := H') (sv.trans (sH3.trans L.sm)) (sH3.trans L.sm) L.on hp) (fun A B s => blind_mix.same s) (by omega) fun H4 y s4 hy => lcg_push blind_mix L nD s4 hy (take_map1 ht) ?_
                  rw [List.length_map, List.length_take]
                  omega
          · rintro H5 L
            rw [lw3, List.take_length] at L
            obtain ⟨us5, e5, hA5⟩ := L.ex
            have lu5 := DpAll.length hA5
            rw [List.length_map] at lu5
            have lwa := DpAll.length pa
            rw [List.length_cons, List.length_map] at lwa
            have lpl : (plL 0 (es.take n)).length ≤ 5000 := by
              have a1 := plL_len (es.take n) 0 (val_take n hv)
              have a2 : szAll (es.take n) ≤ szAll es := by
                have e := congrArg szAll (List.take_append_drop n es)
                rw [szAll_append] at e
                omega
              omega
            have s25 : Same H2 H5 := sT.trans (s3.trans L.sm)
            refine ⟨a, D, wa, us5, rfl, rfl, s25 _ _ ha, e5, Nat.le_trans (show wa.length + us5.length ≤ 20000 by omega) (by decide), fun p1 np1 => ?_⟩
            have s6 : Same H5 (upd H5 p1 (.lst (wa ++ us5))) := same_upd np1
            have sH6 : Same H (upd H5 p1 (.lst (wa ++ us5))) := sm.trans (s25.trans s6)
            refine ⟨p1, _, _, _, rfl, sH6, (sm.trans s25).free np1, upd_same, ?_⟩
            rw [plL_snoc he1, List.map_append, ← List.cons_append]
            refine DpAll.append (dpAll_same (mix_grow (s25.trans s6)) _ _ pa) ?_
            rw [List.map_map]
            exact dpAll_same (del_in.trans (mix_grow s6)) _ _ hA5
        · rintro σ H2 ⟨a, wa, y2, y3, rfl, sm, na, ha, pa⟩
          rw [hl, List.take_length] at pa
          refine ⟨_, rfl, .ref b1, .ty "str", .type "list", .type "str", _, rfl, .ty _, dp_ty (d := .list es) (.lst ((sv.trans sm).seq h1) (dpAll_same (sv.trans sm) _ _ h2)), kitS (.list es) K, _, rfl, iteF (iteF ⟨_, rfl, q H2 a wa sm na ha ?_⟩)⟩
          simpa only [plT, List.map_cons] using pa
      | _ => simp [tyD] at el
    · have el' : (tyD d == "list") = false := by simpa using el
      rw [el']
      refine iteF ⟨_, rfl, v, .ty "str", .type (tyD d), .type "str", _, rfl, .ty _, ty, kitS d K, _, rfl, ?_⟩
      cases d with
      | none =>
        refine iteF (iteF ⟨_, rfl, q G0 l0 _ s1 nl0H hl0 ?_⟩)
        simpa only [plT, List.map_cons, List.map_nil] using row0
      | str x =>
        cases hd
        have xl : x.length + 1 ≤ 5000 := by simpa only [sz] using hz
        have xs : x.length ≤ sizeLine := Nat.le_trans (show x.length ≤ 5000 by omega) (by decide)
        have e1 : x.cps.toList.length = x.length := by simp [Str.length]
        have e2 : x.cps.size = x.length := rfl
        refine iteT ⟨_, rfl, x, rfl, xs, _, _, rfl, rfl, _, rfl, ?_⟩
        by_cases hx1 : 1 < x.length
        · rw [decide_eq_true (show (1 : Int) < ((x.length : Nat) : Int) by omega)]
          refine iteT ⟨_, rfl, _, rfl, x, rfl, fun D nD => lc_it walk_enumS (fun i H' => LcG K (fun G => del (mixp Hv H G) D) G0 D (((plS 0 x.cps.toList).take i).map rowD) H') (lcg_start nD) (fun _ _ _ _ => trivial) ?_ ?_⟩
          · rintro i x1 H1 H2 hi L ⟨T1, c, rfl, n1, rfl, hc⟩
            have sT : Same H1 (upd H1 T1 (.tup [.int ((i : Nat) : Int), .str ⟨#[c]⟩])) := same_upd n1
            have hT : (upd H1 T1 (.tup [.int ((i : Nat) : Int), .str ⟨#[c]⟩])) T1 = some (.tup [.int ((i : Nat) : Int), .str ⟨#[c]⟩]) := upd_same
            generalize upd H1 T1 (.tup [.int ((i : Nat) : Int), .str ⟨#[c]⟩]) = G1 at sT hT
            have hci : x.cps.toList[i]? = some c := by rw [Array.getElem?_toList]; exact hc
            have ht : (plS 0 x.cps.toList)[i]? = some ([i], .str ⟨#[c]⟩, true) := by
              rw [plS_get, hci, Nat.zero_add]
              rfl
            refine ⟨T1, _, rfl, SqT.of hT, rfl, _, _, rfl, _, _, rfl, rfl, rfl, tyes_in (iteT ⟨_, rfl, (by show 1 ≤ sizeLine; decide), fun t2 n2 => ⟨_, rfl, (by show 3 ≤ sizeLine; decide), fun t3 n3 => lcg_push (d := rowD ([i], .str ⟨#[c]⟩, true)) blind_mix L nD ((sT.trans (same_upd n2)).trans (same_upd n3)) ?_ (take_map1 ht) ?_⟩⟩)⟩
            · have sHi : Same H H1 := s1.trans L.sm
              have n2i := sT.free n2
              have n3i := (sT.trans (same_upd n2)).free n3
              refine .tup (SqT.of (xs := [.ref t2, .str ⟨#[c]⟩, .bl true]) (by rw [sees_mix (sv.trans sHi) sHi L.on n3i, upd_same])) (.cons (.tup (a := t2) (SqT.of (xs := [.int ((i : Nat) : Int)]) ?_) (.cons (.int _) .nil)) (.cons (.str _) (.cons (.bl _) .nil)))
              rw [sees_mix (sv.trans sHi) sHi L.on n2i]
              exact same_upd n3 _ _ upd_same
            · rw [List.length_map, List.length_take, plS_len]
              omega
          · rintro H5 L
            rw [e2, ← e1, ← plS_len x.cps.toList 0, List.take_length] at L
            obtain ⟨us5, e5, hA5⟩ := L.ex
            have lu5 := DpAll.length hA5
            rw [List.length_map, plS_len] at lu5
            refine ⟨l0, D, _, us5, rfl, rfl, L.sm _ _ hl0, e5, Nat.le_trans (show 1 + us5.length ≤ 20000 by omega) (by decide), fun p1 np1 => ?_⟩
            have s6 : Same H5 (upd H5 p1 (.lst ([.ref t1] ++ us5))) := same_upd np1
            refine ⟨_, rfl, q _ p1 _ (s1.trans (L.sm.trans s6)) ((s1.trans L.sm).free np1) upd_same ?_⟩
            have ep : (plT (.str x)).map rowD = [rowD ([], .str x, false)] ++ (plS 0 x.cps.toList).map rowD := by
              simp only [plT]
              rw [if_pos hx1]
              rfl
            rw [ep]
            exact DpAll.append (dpAll_same (mix_grow (L.sm.trans s6)) _ _ row0) (dpAll_same (del_in.trans (mix_grow s6)) _ _ hA5)
        · rw [decide_eq_false (show ¬ (1 : Int) < ((x.length : Nat) : Int) by omega)]
          refine iteF ⟨_, rfl, q G0 l0 _ s1 nl0H hl0 ?_⟩
          have ep : (plT (.str x)).map rowD = [rowD ([], .str x, false)] := by
            simp only [plT]
            rw [if_neg hx1]
            rfl
          rw [ep]
          exact row0
      | list es => simp [tyD] at el
      | bool _ => exact hv.elim
      | int _ => exact hv.elim
      | tuple _ => exact hv.elim
      | dict _ => exact hv.elim
theorem ok_rows {f : Addr} {fd : FuncData} (F : Fun K "_law_rows" "_law_rows" s__law_rows f fd) (T : Nm mg) (k : Nk mg) (B : Nb mg) (b : Binds K fd ["_law_value_here"] []) (g : mg "_law_rows" = some (.ref f)) : ∀ N : Nat, FnOk P w K mg base CX0 (N + 1) f fd ["_law_value_here"] (spRows K N)
  | 0 => ok_rows1 F T k B b g 0 fun j => absurd j.2 (by omega)
  | N + 1 => ok_rows1 F T k B b g (N + 1) fun ⟨M, e⟩ => by
    have e2 : M = N := by omega
    subst e2
    exact ok_rows F T k B b g M
end
end TX
namespace TX
open PySem PySem.Spec PyProof.Rows L2
/-! ### what repr shows tells the data: for none, truth values, 0 and 1, texts of letters, lists and tuples -/
def cs (x : Str) : List Nat := x.cps.toList
theorem cs_app (a b : Str) : cs (a ++ b) = cs a ++ cs b := by
  show (a.cps ++ b.cps).toList = _
  simp [cs]
theorem cs_inj {a b : Str} (h : cs a = cs b) : a = b := by
  cases a
  cases b
  simp only [cs] at h
  have := Array.toList_inj.mp h
  rw [this]
def alC (c : Nat) : Bool := decide (97 ≤ c ∧ c ≤ 122) || (decide (65 ≤ c ∧ c ≤ 90) || decide (48 ≤ c ∧ c ≤ 57))
theorem al_lt {c : Nat} (h : alC c = true) : c < 123 ∧ c ≠ 39 ∧ c ≠ 34 := by
  simp only [alC, Bool.or_eq_true, decide_eq_true_eq] at h
  omega
theorem al_char {c : Nat} (h : alC c = true) : Builtin.Str.reprChar 39 c = [c] := by
  have k : ∀ c : Fin 123, alC c.1 = true → Builtin.Str.reprChar 39 c.1 = [c.1] := by decide +kernel
  exact k ⟨c, (al_lt h).1⟩ h
def alS (x : Str) : Prop := ∀ c ∈ cs x, alC c = true
theorem fold_al : ∀ (l : List Nat) (acc : Array Nat), (∀ c ∈ l, alC c = true) → l.foldl (fun out c => out ++ (Builtin.Str.reprChar 39 c).toArray) acc = acc ++ l.toArray
  | [], acc, _ => by simp
  | c :: l, acc, h => by
    rw [List.foldl_cons, al_char (h c List.mem_cons_self), fold_al l _ fun d hd => h d (List.mem_cons_of_mem _ hd)]
    simp
theorem quote_al {x : Str} (h : alS x) : reprQuote x = 39 := by
  unfold reprQuote
  have e : x.cps.contains 39 = false := by
    refine Bool.eq_false_iff.mpr fun z => ?_
    have z2 : 39 ∈ x.cps.toList := by simpa using z
    exact (al_lt (h 39 z2)).2.1 rfl
  rw [e]
  rfl
theorem cs_repr {x : Str} (h : alS x) : cs (reprText x) = 39 :: (cs x ++ [39]) := by
  unfold reprText cs
  rw [quote_al h, ← Array.foldl_toList, fold_al x.cps.toList _ h]
  simp
def tailC : List Str → List Nat
  | [] => []
  | t :: ts => 44 :: 32 :: (cs t ++ tailC ts)
def sepC : List Str → List Nat
  | [] => []
  | t :: ts => cs t ++ tailC ts
theorem cs_comma : cs (", " : Str) = [44, 32] := by decide +kernel
theorem text_tail : ∀ (ts : List Str) (k : Nat) (acc : Str), cs (textFrom (k + 1) acc ts) = cs acc ++ tailC ts
  | [], k, acc => by simp [textFrom, tailC]
  | t :: ts, k, acc => by
    show cs (textFrom (k + 1 + 1) (acc ++ (if k + 1 > 0 then ", " else "" : String) ++ t) ts) = _
    rw [text_tail ts (k + 1), cs_app, cs_app, if_pos (Nat.succ_pos k)]
    show cs acc ++ cs (", " : Str) ++ cs t ++ tailC ts = _
    rw [cs_comma]
    simp [tailC]
theorem text_sep (ts : List Str) (acc : Str) : cs (textFrom 0 acc ts) = cs acc ++ sepC ts := by
  cases ts with
  | nil => simp [textFrom, sepC]
  | cons t ts =>
    show cs (textFrom 1 (acc ++ (if 0 > 0 then ", " else "" : String) ++ t) ts) = _
    rw [text_tail ts 0, cs_app, cs_app, if_neg (by decide)]
    show cs acc ++ cs ("" : Str) ++ cs t ++ tailC ts = _
    rw [show cs ("" : Str) = [] by decide +kernel]
    simp [sepC]
theorem cs_list (ts : List Str) : cs (listText ts) = 91 :: (sepC ts ++ [93]) := by
  unfold listText
  rw [cs_app, text_sep]
  rw [show cs (("[" : String) : Str) = [91] by decide +kernel, show cs (("]" : String) : Str) = [93] by decide +kernel]
  simp
theorem join_sep : ∀ ts : List Str, cs (Str.join ", " ts) = sepC ts
  | [] => by
    show cs Str.empty = []
    decide +kernel
  | [t] => by
    show cs t = _
    simp [sepC, tailC]
  | t :: u :: ts => by
    show cs (t ++ ", " ++ Str.join ", " (u :: ts)) = _
    rw [cs_app, cs_app, join_sep (u :: ts), cs_comma]
    simp [sepC, tailC]
theorem cs_tuple (ts : List Str) : cs (tupleText ts) = 40 :: (sepC ts ++ (if ts.length = 1 then [44, 41] else [41])) := by
  unfold tupleText
  rw [cs_app, cs_app, join_sep, show cs ("(" : Str) = [40] by decide +kernel]
  by_cases h : ts.length = 1
  · have e : (ts.length == 1) = true := by simpa using h
    rw [if_pos h, e, if_pos rfl, show cs ((",)" : String) : Str) = [44, 41] by decide +kernel]
    simp
  · have e : (ts.length == 1) = false := by simpa using h
    rw [if_neg h, e, if_neg Bool.false_ne_true, show cs ((")" : String) : Str) = [41] by decide +kernel]
    simp
/-! what is shown of an int -/
def intC (i : Int) : List Nat := cs (toString i : String)
def numC (c : Nat) : Bool := decide (48 ≤ c ∧ c ≤ 57) || c == 45
theorem intC_nat (m : Nat) : intC ((m : Nat) : Int) = (Nat.toDigits 10 m).map Char.toNat := PySem.W.KIN.signs_num m
theorem intC_neg (m : Nat) : intC (Int.negSucc m) = 45 :: (Nat.toDigits 10 (m + 1)).map Char.toNat := by
  have e : (toString (Int.negSucc m) : String) = "-" ++ (Nat.repr (m + 1)) := rfl
  unfold intC cs
  rw [e, PyProof.Rows.signs_ofString, String.toList_append, List.map_append, Nat.toList_repr]
  rfl
theorem dig_num {m : Nat} : ∀ c ∈ (Nat.toDigits 10 m).map Char.toNat, 48 ≤ c ∧ c ≤ 57 := by
  intro c hc
  obtain ⟨ch, hch, e⟩ := List.mem_map.mp hc
  have r := PyProof.Rows.digit_range (Nat.isDigit_of_mem_toDigits (by decide) (by decide) hch)
  rw [← e]
  omega
theorem dig_ne (m : Nat) : (Nat.toDigits 10 m).map Char.toNat ≠ [] := by
  intro e
  have h := PySem.toDigits_len_ge 10 m
  rw [List.map_eq_nil_iff.mp e] at h
  exact absurd h (by decide)
theorem int_num (i : Int) : ∀ c ∈ intC i, numC c = true := by
  intro c hc
  cases i with
  | ofNat m =>
    rw [show Int.ofNat m = ((m : Nat) : Int) from rfl, intC_nat] at hc
    have := dig_num c hc
    simp only [numC, Bool.or_eq_true, decide_eq_true_eq]
    exact .inl this
  | negSucc m =>
    rw [intC_neg] at hc
    rcases List.mem_cons.mp hc with rfl | hc
    · rfl
    · have := dig_num c hc
      simp only [numC, Bool.or_eq_true, decide_eq_true_eq]
      exact .inl this
theorem int_ne (i : Int) : intC i ≠ [] := by
  cases i with
  | ofNat m =>
    rw [show Int.ofNat m = ((m : Nat) : Int) from rfl, intC_nat]
    exact dig_ne m
  | negSucc m =>
    rw [intC_neg]
    exact fun z => nomatch z
theorem dig_inj {m n : Nat} (h : (Nat.toDigits 10 m).map Char.toNat = (Nat.toDigits 10 n).map Char.toNat) : m = n := by
  have := congrArg PySem.NumText.digitsVal h
  rw [PySem.W.KIN.val_back, PySem.W.KIN.val_back] at this
  exact this
theorem int_inj {i j : Int} (h : intC i = intC j) : i = j := by
  have neg45 : ∀ {m n : Nat}, ¬ (Nat.toDigits 10 m).map Char.toNat = 45 :: (Nat.toDigits 10 n).map Char.toNat := by
    intro m n e
    have := dig_num (m := m) 45 (by rw [e]; exact List.mem_cons_self)
    omega
  cases i with
  | ofNat m =>
    cases j with
    | ofNat n =>
      rw [show Int.ofNat m = ((m : Nat) : Int) from rfl, show Int.ofNat n = ((n : Nat) : Int) from rfl, intC_nat, intC_nat] at h
      rw [dig_inj h]
    | negSucc n =>
      rw [show Int.ofNat m = ((m : Nat) : Int) from rfl, intC_nat, intC_neg] at h
      exact (neg45 h).elim
  | negSucc m =>
    cases j with
    | ofNat n =>
      rw [show Int.ofNat n = ((n : Nat) : Int) from rfl, intC_nat, intC_neg] at h
      exact (neg45 h.symm).elim
    | negSucc n =>
      rw [intC_neg, intC_neg] at h
      injection h with _ h
      have := dig_inj h
      rw [show m = n by omega]
mutual
def alD : PyData → Prop
  | .none => True
  | .bool _ => True
  | .int _ => True
  | .str x => alS x
  | .list es => alAll es
  | .tuple es => alAll es
  | .dict _ => False
def alAll : List PyData → Prop
  | [] => True
  | d :: ds => alD d ∧ alAll ds
end
/-- what may stand behind data in what is shown -/
def dl (r : List Nat) : Prop := r = [] ∨ ∃ c t, r = c :: t ∧ (c = 44 ∨ c = 93 ∨ c = 41)
/-- how a row of data ends -/
def cl (r : List Nat) : Prop := (∃ t, r = 93 :: t) ∨ (∃ t, r = 41 :: t) ∨ ∃ t, r = 44 :: 41 :: t
theorem dl_cl {r : List Nat} (h : cl r) : dl r := by
  rcases h with ⟨t, rfl⟩ | ⟨t, rfl⟩ | ⟨t, rfl⟩
  · exact .inr ⟨_, _, rfl, .inr (.inl rfl)⟩
  · exact .inr ⟨_, _, rfl, .inr (.inr rfl)⟩
  · exact .inr ⟨_, _, rfl, .inl rfl⟩
theorem dl_tail {ts : List Str} {r : List Nat} (h : cl r) : dl (tailC ts ++ r) := by
  cases ts with
  | nil => exact dl_cl h
  | cons t ts => exact .inr ⟨_, _, rfl, .inl rfl⟩
def tagD : PyData → Nat
  | .none => 78
  | .bool b => if b then 84 else 70
  | .int i => (intC i).headD 48
  | .str _ => 39
  | .list _ => 91
  | .tuple _ => 40
  | .dict _ => 123
theorem int_tag (i : Int) : numC (tagD (.int i)) = true := by
  simp only [tagD]
  cases e : intC i with
  | nil => exact (int_ne i e).elim
  | cons c t => exact int_num i c (by rw [e]; exact List.mem_cons_self)
theorem int_tag_no {i : Int} {c : Nat} (h : numC c = false) : ¬ tagD (.int i) = c := by
  intro e
  have := int_tag i
  rw [e, h] at this
  cases this
theorem shown_tag {d : PyData} (h : alD d) : ∃ t, cs d.shown = tagD d :: t := by
  cases d with
  | none => exact ⟨[111, 110, 101], by decide +kernel⟩
  | bool b =>
    cases b
    · exact ⟨[97, 108, 115, 101], by decide +kernel⟩
    · exact ⟨[114, 117, 101], by decide +kernel⟩
  | int i =>
    simp only [PyData.shown, tagD]
    show ∃ t, intC i = (intC i).headD 48 :: t
    cases e : intC i with
    | nil => exact (int_ne i e).elim
    | cons c t => exact ⟨t, rfl⟩
  | str x => exact ⟨_, by simp only [PyData.shown]; exact cs_repr h⟩
  | list es => exact ⟨_, by simp only [PyData.shown]; exact cs_list _⟩
  | tuple es => exact ⟨_, by simp only [PyData.shown]; exact cs_tuple _⟩
  | dict _ => exact h.elim
theorem tag_no (d : PyData) : tagD d ≠ 93 ∧ tagD d ≠ 41 ∧ tagD d ≠ 44 := by
  cases d with
  | bool b => cases b <;> decide
  | int i =>
    have h := int_tag i
    refine ⟨fun z => ?_, fun z => ?_, fun z => ?_⟩ <;> (rw [z] at h; exact absurd h (by decide))
  | _ => simp [tagD]
theorem span_uniq {p : Nat → Bool} : ∀ {xs ys r1 r2 : List Nat}, (∀ c ∈ xs, p c = true) → (∀ c ∈ ys, p c = true) → (∀ c t, r1 = c :: t → p c = false) → (∀ c t, r2 = c :: t → p c = false) → xs ++ r1 = ys ++ r2 → xs = ys ∧ r1 = r2
  | [], [], _, _, _, _, _, _, h => ⟨rfl, h⟩
  | [], y :: ys, r1, r2, _, hy, h1, _, h => by
    have h' : r1 = y :: (ys ++ r2) := h
    have a := h1 _ _ h'
    rw [hy y List.mem_cons_self] at a
    cases a
  | x :: xs, [], r1, r2, hx, _, _, h2, h => by
    have h' : r2 = x :: (xs ++ r1) := h.symm
    have a := h2 _ _ h'
    rw [hx x List.mem_cons_self] at a
    cases a
  | x :: xs, y :: ys, r1, r2, hx, hy, h1, h2, h => by
    injection h with e1 e2
    obtain ⟨e3, e4⟩ := span_uniq (fun c hc => hx c (List.mem_cons_of_mem _ hc)) (fun c hc => hy c (List.mem_cons_of_mem _ hc)) h1 h2 e2
    exact ⟨by rw [e1, e3], e4⟩
theorem tail_nil {t : Str} {ts : List Str} {r r2 : List Nat} (h : cl r) (e : r = tailC (t :: ts) ++ r2) : False := by
  have e2 : tailC (t :: ts) ++ r2 = 44 :: 32 :: (cs t ++ tailC ts ++ r2) := rfl
  rw [e2] at e
  rcases h with ⟨u, rfl⟩ | ⟨u, rfl⟩ | ⟨u, rfl⟩
  · cases e
  · cases e
  · cases e
theorem sep_nil {d : PyData} {ds : List PyData} {r r2 : List Nat} (hd : alD d) (h : cl r) (e : r = sepC (PyData.shownAll (d :: ds)) ++ r2) : False := by
  obtain ⟨t, et⟩ := shown_tag hd
  have n := tag_no d
  have e2 : sepC (PyData.shownAll (d :: ds)) ++ r2 = tagD d :: (t ++ tailC (PyData.shownAll ds) ++ r2) := by
    simp only [PyData.shownAll, sepC, et, List.cons_append]
  rw [e2] at e
  rcases h with ⟨u, rfl⟩ | ⟨u, rfl⟩ | ⟨u, rfl⟩
  · injection e with e3
    exact n.1 e3.symm
  · injection e with e3
    exact n.2.1 e3.symm
  · injection e with e3
    exact n.2.2 e3.symm
theorem len_all : ∀ ds : List PyData, (PyData.shownAll ds).length = ds.length
  | [] => rfl
  | d :: ds => by simp only [PyData.shownAll, List.length_cons, len_all ds]
mutual
theorem shown_pre : ∀ (a b : PyData) (r1 r2 : List Nat), alD a → alD b → dl r1 → dl r2 → cs a.shown ++ r1 = cs b.shown ++ r2 → a = b ∧ r1 = r2
  | a, b, r1, r2, ha, hb, h1, h2, h => by
    obtain ⟨ta, ea⟩ := shown_tag ha
    obtain ⟨tb, eb⟩ := shown_tag hb
    have et : tagD a = tagD b := by
      rw [ea, eb] at h
      injection h
    match a, b with
    | .none, .none => exact ⟨rfl, List.append_cancel_left h⟩
    | .bool x, .bool y =>
      have e : x = y := by
        cases x <;> cases y <;> first | rfl | exact absurd et (by simp [tagD])
      subst e
      exact ⟨rfl, List.append_cancel_left h⟩
    | .int x, .int y =>
      have h' : intC x ++ r1 = intC y ++ r2 := by simp only [PyData.shown] at h; exact h
      have nd : ∀ (r : List Nat), dl r → ∀ c t, r = c :: t → numC c = false := by
        intro r hr c t e
        rcases hr with z | ⟨c', t', e', hc⟩
        · rw [z] at e
          cases e
        · rw [e'] at e
          injection e with e1 _
          rw [← e1]
          rcases hc with rfl | rfl | rfl <;> decide
      obtain ⟨e1, e2⟩ := span_uniq (int_num x) (int_num y) (nd r1 h1) (nd r2 h2) h'
      exact ⟨by rw [int_inj e1], e2⟩
    | .str x, .str y =>
      simp only [PyData.shown] at h
      rw [cs_repr ha, cs_repr hb] at h
      injection h with _ h
      replace h : (cs x ++ [39]) ++ r1 = (cs y ++ [39]) ++ r2 := h
      rw [List.append_assoc, List.append_assoc] at h
      have n39 : alC 39 = false := by decide
      obtain ⟨e1, e2⟩ := span_uniq (p := alC) ha hb (fun c t e => by injection e with e _; rw [← e]; exact n39) (fun c t e => by injection e with e _; rw [← e]; exact n39) h
      injection e2 with _ e2
      exact ⟨by rw [cs_inj e1], e2⟩
    | .list xs, .list ys =>
      simp only [PyData.shown] at h
      rw [cs_list, cs_list] at h
      injection h with _ h
      replace h : (sepC (PyData.shownAll xs) ++ [93]) ++ r1 = (sepC (PyData.shownAll ys) ++ [93]) ++ r2 := h
      rw [List.append_assoc, List.append_assoc] at h
      obtain ⟨e1, e2⟩ := sep_pre xs ys ([93] ++ r1) ([93] ++ r2) ha hb (.inl ⟨_, rfl⟩) (.inl ⟨_, rfl⟩) h
      injection e2 with _ e2
      exact ⟨by rw [e1], e2⟩
    | .tuple xs, .tuple ys =>
      simp only [PyData.shown] at h
      rw [cs_tuple, cs_tuple] at h
      injection h with _ h
      replace h : (sepC (PyData.shownAll xs) ++ (if (PyData.shownAll xs).length = 1 then [44, 41] else [41])) ++ r1 = (sepC (PyData.shownAll ys) ++ (if (PyData.shownAll ys).length = 1 then [44, 41] else [41])) ++ r2 := h
      rw [List.append_assoc, List.append_assoc] at h
      have cc : ∀ (ts : List Str) (r : List Nat), cl ((if ts.length = 1 then [44, 41] else [41]) ++ r) := fun ts r => by
        by_cases hl : ts.length = 1
        · rw [if_pos hl]
          exact .inr (.inr ⟨_, rfl⟩)
        · rw [if_neg hl]
          exact .inr (.inl ⟨_, rfl⟩)
      obtain ⟨e1, e2⟩ := sep_pre xs ys _ _ ha hb (cc _ r1) (cc _ r2) h
      subst e1
      exact ⟨rfl, List.append_cancel_left e2⟩
    | .none, .bool y => cases y <;> exact absurd et (by simp [tagD])
    | .none, .int y => exact (int_tag_no (by decide : numC 78 = false) et.symm).elim
    | .none, .str _ => exact absurd et (by simp [tagD])
    | .none, .list _ => exact absurd et (by simp [tagD])
    | .none, .tuple _ => exact absurd et (by simp [tagD])
    | .bool x, .none => cases x <;> exact absurd et (by simp [tagD])
    | .bool x, .int y => cases x <;> exact (int_tag_no (by decide) et.symm).elim
    | .bool x, .str _ => cases x <;> exact absurd et (by simp [tagD])
    | .bool x, .list _ => cases x <;> exact absurd et (by simp [tagD])
    | .bool x, .tuple _ => cases x <;> exact absurd et (by simp [tagD])
    | .int x, .none => exact (int_tag_no (by decide : numC 78 = false) et).elim
    | .int x, .bool y => cases y <;> exact (int_tag_no (by decide) et).elim
    | .int x, .str _ => exact (int_tag_no (by decide : numC 39 = false) et).elim
    | .int x, .list _ => exact (int_tag_no (by decide : numC 91 = false) et).elim
    | .int x, .tuple _ => exact (int_tag_no (by decide : numC 40 = false) et).elim
    | .str _, .none => exact absurd et (by simp [tagD])
    | .str _, .bool y => cases y <;> exact absurd et (by simp [tagD])
    | .str _, .int y => exact (int_tag_no (by decide : numC 39 = false) et.symm).elim
    | .str _, .list _ => exact absurd et (by simp [tagD])
    | .str _, .tuple _ => exact absurd et (by simp [tagD])
    | .list _, .none => exact absurd et (by simp [tagD])
    | .list _, .bool y => cases y <;> exact absurd et (by simp [tagD])
    | .list _, .int y => exact (int_tag_no (by decide : numC 91 = false) et.symm).elim
    | .list _, .str _ => exact absurd et (by simp [tagD])
    | .list _, .tuple _ => exact absurd et (by simp [tagD])
    | .tuple _, .none => exact absurd et (by simp [tagD])
    | .tuple _, .bool y => cases y <;> exact absurd et (by simp [tagD])
    | .tuple _, .int y => exact (int_tag_no (by decide : numC 40 = false) et.symm).elim
    | .tuple _, .str _ => exact absurd et (by simp [tagD])
    | .tuple _, .list _ => exact absurd et (by simp [tagD])
    | .dict _, _ => exact ha.elim
    | _, .dict _ => exact hb.elim
theorem sep_pre : ∀ (as bs : List PyData) (r1 r2 : List Nat), alAll as → alAll bs → cl r1 → cl r2 → sepC (PyData.shownAll as) ++ r1 = sepC (PyData.shownAll bs) ++ r2 → as = bs ∧ r1 = r2
  | [], [], _, _, _, _, _, _, h => ⟨rfl, h⟩
  | [], b :: bs, r1, r2, _, hb, h1, _, h => (sep_nil hb.1 h1 h).elim
  | a :: as, [], r1, r2, ha, _, _, h2, h => (sep_nil ha.1 h2 h.symm).elim
  | a :: as, b :: bs, r1, r2, ha, hb, h1, h2, h => by
    simp only [PyData.shownAll, sepC] at h
    rw [List.append_assoc, List.append_assoc] at h
    obtain ⟨e1, e2⟩ := shown_pre a b _ _ ha.1 hb.1 (dl_tail h1) (dl_tail h2) h
    obtain ⟨e3, e4⟩ := tail_pre as bs r1 r2 ha.2 hb.2 h1 h2 e2
    exact ⟨by rw [e1, e3], e4⟩
theorem tail_pre : ∀ (as bs : List PyData) (r1 r2 : List Nat), alAll as → alAll bs → cl r1 → cl r2 → tailC (PyData.shownAll as) ++ r1 = tailC (PyData.shownAll bs) ++ r2 → as = bs ∧ r1 = r2
  | [], [], _, _, _, _, _, _, h => ⟨rfl, h⟩
  | [], b :: bs, r1, r2, _, hb, h1, _, h => (tail_nil h1 h).elim
  | a :: as, [], r1, r2, ha, _, _, h2, h => (tail_nil h2 h.symm).elim
  | a :: as, b :: bs, r1, r2, ha, hb, h1, h2, h => by
    simp only [PyData.shownAll, tailC] at h
    injection h with _ h
    injection h with _ h
    replace h : (cs a.shown ++ tailC (PyData.shownAll as)) ++ r1 = (cs b.shown ++ tailC (PyData.shownAll bs)) ++ r2 := h
    rw [List.append_assoc, List.append_assoc] at h
    obtain ⟨e1, e2⟩ := shown_pre a b _ _ ha.1 hb.1 (dl_tail h1) (dl_tail h2) h
    obtain ⟨e3, e4⟩ := tail_pre as bs r1 r2 ha.2 hb.2 h1 h2 e2
    exact ⟨by rw [e1, e3], e4⟩
end
theorem shown_inj {a b : PyData} (ha : alD a) (hb : alD b) (h : a.shown = b.shown) : a = b :=
  (shown_pre a b [] [] ha hb (.inl rfl) (.inl rfl) (by rw [h])).1
end TX
namespace TX
open PySem PySem.Spec PyProof.Rows L2
/-- v is a tuple of these numbers -/
def IsTi (h : Heap) (v : Value) (ns : List Int) : Prop :=
  ∃ (a : Addr) (dd : Option Addr) (items : Array Value) (n : Nat) (sl : Array (Option Value)), v = .ref a ∧ h.get? a = some { cls := .type "tuple", dict := dd, data := .seq items n, slots := sl } ∧ IntsAre items.toList ns
theorem IsTi.keeps {h h' : Heap} {v : Value} {ns : List Int} (x : IsTi h v ns) (k : ∀ b o, v = .ref b → h.get? b = some o → h'.get? b = some o) : IsTi h' v ns := by
  obtain ⟨a, dd, items, n, sl, e, g, i⟩ := x
  exact ⟨a, dd, items, n, sl, e, k _ _ e g, i⟩
theorem IsTi.type {M : Model} {h : Heap} {v : Value} {ns : List Int} (x : IsTi h v ns) : PySem.W.Looks M h (typeOf v) (.type "tuple") := by
  obtain ⟨a, dd, items, n, sl, rfl, g, i⟩ := x
  exact (PySem.W.Looks.ld g).andThen .now
theorem IsTi.inst {M : Model} {h : Heap} {v : Value} {ns : List Int} (x : IsTi h v ns) : PySem.W.Looks M h (isInstance v (.type "tuple")) true := by
  obtain ⟨a, dd, items, n, sl, rfl, g, i⟩ := x
  exact ((PySem.W.Looks.ld g).andThen .now).andThen (PySem.W.Looks.of_pure isSubtype_tuple_tuple)
section
variable {prog : Program} {w : World} {A : Around} {E : Value → Shared → Prop} {s : Shared}
theorem call_ltT {a b : Addr} {dd dd2 : Option Addr} {items items2 : Array Value} {n n2 : Nat} {sl sl2 : Array (Option Value)} {ns ms : List Int} {Q : Value → Shared → Prop} (ga : s.heap.get? a = some { cls := .type "tuple", dict := dd, data := .seq items n, slots := sl })
    (gb : s.heap.get? b = some { cls := .type "tuple", dict := dd2, data := .seq items2 n2, slots := sl2 }) (ia : IntsAre items.toList ns) (ib : IntsAre items2.toList ms)
    (iu : ∀ M : Model, PySem.W.Looks M s.heap (isInstance (.ref b) (.type "tuple")) true) (h : Q (.bool (HT.lexLt ns ms)) s) : wpAny (model prog w) A (call (.builtin "tuple.__lt__") [.ref a, .ref b]) Q E s := by
  refine wpAny_call (codeAny_call_builtin PySem.F.slot_tuple_lt.plain PySem.F.entry_tuple_lt (PySem.F.slot_tuple_lt.check _ _ _ _ _ _ _ _ ⟨_, ga, rfl⟩ (PySem.F.args_tuple_lt_2 _ _) ?_))
  refine wpAny_mono (NtL.nt_lt_ints a b (.type "tuple") (.type "tuple") items items2 n n2 dd dd2 sl sl2 ns ms ia ib prog w _ (wants Q E) s ⟨ga, gb, iu, h⟩) (fun fin s' q => ?_) fun _ _ z => z
  cases fin with
  | done f => exact q
  | again c => exact q
theorem lt_ti {v u : Value} {ns ms : List Int} {Q : Bool → Shared → Prop} (hu : A.units < cLine) (hv : IsTi s.heap v ns) (hw : IsTi s.heap u ms) (h : Q (HT.lexLt ns ms) s) : wpAny (model prog w) A (keyLt' oneType' v u) Q E s := by
  have iu : ∀ M : Model, PySem.W.Looks M s.heap (isInstance u (.type "tuple")) true := fun M => hw.inst
  obtain ⟨a, dd, items, n, sl, rfl, ga, ia⟩ := hv
  obtain ⟨b, dd2, items2, n2, sl2, rfl, gb, ib⟩ := hw
  have ta : s.TypeIs (.ref a) "tuple" := ⟨_, ga, rfl⟩
  rw [keyLt'_oneType, oneLt'_eq]
  simp only [if_true]
  refine wpAny_bind (wpAny_cRoomFor hu ?_)
  refine wpAny_bind (wpAny_callSpecialIfBound?_slot ta PySem.F.slot_tuple_lt (call_ltT ga gb ia ib iu ?_))
  exact wpAny_truthy_bool h
theorem ti_firsts : ∀ (vs : List Value) {Q : List (Option Value) → Shared → Prop} (fs : List (Option Value)), (fs.length = vs.length) → (∀ (i : Nat) v, vs[i]? = some v → ∃ a o xs n, v = .ref a ∧ s.heap.get? a = some o ∧ o.cls = .type "tuple" ∧ o.data = .seq xs n ∧ fs[i]? = some xs[0]?) → Q fs s → wpAny (model prog w) A (vs.mapM firstOfTuple') Q E s
  | [], Q, fs, hl, _, h => by
    rw [List.length_eq_zero_iff.mp hl] at h
    rw [List.mapM_nil]
    exact wpAny_pure h
  | v :: vs, Q, [], hl, _, _ => by simp at hl
  | v :: vs, Q, f :: fs, hl, hv, h => by
    obtain ⟨a, o, xs, n, rfl, ho, hc, hd, hf⟩ := hv 0 v rfl
    rw [List.getElem?_cons_zero] at hf
    obtain rfl := Option.some.inj hf
    rw [List.mapM_cons]
    refine wpAny_bind ?_
    rw [PySem.W.kas_first_eq]
    refine wpAny_bind (PySem.W.Looks.here (show PySem.W.Looks (model prog w) s.heap (typeOf (.ref a)) o.cls from (PySem.W.Looks.ld ho).andThen .now) ?_)
    rw [hc, if_neg (by first | decide | simp)]
    refine wpAny_bind (listItems_at ho hd (wpAny_pure ?_))
    exact wpAny_bind (ti_firsts vs (Q := fun bs s' => wpAny (model prog w) A (pure (xs[0]? :: bs)) Q E s') fs (by simpa using hl) (fun i v hi => hv (i + 1) v (by simpa using hi)) (wpAny_pure h))
/-- the kind of tuples whose first is empty -/
theorem ti_kind {vs : List Value} {v₁ : Value} {k : Value → List Int} {Q : SortKind → Shared → Prop} (h1 : vs[0]? = some v₁) (hk1 : k v₁ = []) (hv : ∀ v ∈ vs, IsTi s.heap v (k v)) (h : Q oneType' s) : wpAny (model prog w) A (keyKind' vs.toArray) Q E s := by
  obtain ⟨rest, rfl⟩ : ∃ rest, vs = v₁ :: rest := by
    cases vs with
    | nil => simp at h1
    | cons x xs =>
      rw [List.getElem?_cons_zero] at h1
      exact ⟨xs, by rw [Option.some.inj h1]⟩
  rw [PyProof.Rows.kat_kind_eq, List.mapM_toArray, map_eq_pure_bind]
  have pick : ∀ v ∈ (v₁ :: rest), ∃ f : Option Value, ∃ a o xs n, v = .ref a ∧ s.heap.get? a = some o ∧ o.cls = .type "tuple" ∧ o.data = .seq xs n ∧ f = xs[0]? := fun v hm => by
    obtain ⟨a, dd, items, n, sl, e, g, _⟩ := hv v hm
    exact ⟨_, a, _, items, n, e, g, rfl, rfl, rfl⟩
  obtain ⟨fs, hl, hf⟩ : ∃ fs : List (Option Value), fs.length = (v₁ :: rest).length ∧ ∀ (i : Nat) v, (v₁ :: rest)[i]? = some v → ∃ a o xs n, v = .ref a ∧ s.heap.get? a = some o ∧ o.cls = .type "tuple" ∧ o.data = .seq xs n ∧ fs[i]? = some xs[0]? := by
    generalize v₁ :: rest = l at pick
    clear h1 hk1 hv h
    induction l with
    | nil => exact ⟨[], rfl, fun i v z => by simp at z⟩
    | cons x xs ih =>
      obtain ⟨f, a, o, ys, n, e, ho, hc, hd, hf⟩ := pick x List.mem_cons_self
      obtain ⟨fs, hl, hh⟩ := ih fun v hm => pick v (List.mem_cons_of_mem _ hm)
      refine ⟨f :: fs, by simp [hl], fun i v z => ?_⟩
      cases i with
      | zero =>
        rw [List.getElem?_cons_zero] at z
        cases z
        exact ⟨a, o, ys, n, e, ho, hc, hd, by rw [List.getElem?_cons_zero, hf]⟩
      | succ i =>
        rw [List.getElem?_cons_succ] at z
        obtain ⟨a, o, ys, n, h⟩ := hh i v z
        exact ⟨a, o, ys, n, h.1, h.2.1, h.2.2.1, h.2.2.2.1, by rw [List.getElem?_cons_succ]; exact h.2.2.2.2⟩
  have f0 : fs[0]? = some none := by
    obtain ⟨a, o, xs, n, e, ho, hc, hd, hf0⟩ := hf 0 v₁ rfl
    obtain ⟨a', dd, items, n', sl, e', g, i⟩ := hv v₁ List.mem_cons_self
    rw [hk1] at i
    have : items.toList = [] := by
      cases q : items.toList with
      | nil => rfl
      | cons y ys => rw [q] at i; cases i
    rw [e] at e'
    cases e'
    rw [ho] at g
    cases g
    simp only [Data.seq.injEq] at hd
    obtain ⟨rfl, _⟩ := hd
    rw [hf0]
    have : items = #[] := by
      apply Array.toList_inj.mp
      rw [this]
    rw [this]
    rfl
  refine wpAny_bind (wpAny_bind (ti_firsts _ fs hl hf (wpAny_pure ?_)))
  obtain ⟨fr, rfl⟩ : ∃ fr, fs = none :: fr := by
    cases fs with
    | nil => simp at f0
    | cons x xs =>
      rw [List.getElem?_cons_zero] at f0
      exact ⟨xs, by rw [Option.some.inj f0]⟩
  rw [if_neg (by simp), if_neg (by simp)]
  rw [oneTypeOnly'_eq, List.mapM_toArray, map_eq_pure_bind]
  refine wpAny_bind (wpAny_bind (wpAny_bind (PySem.W.kas_mapM (r := Value.type "tuple") _ (fun v hm Q' hq => (hv v hm).type.here hq) (wpAny_pure ?_))))
  have hall : ((List.map (fun _ => Value.type "tuple") (v₁ :: rest)).toArray.all fun x => x == Value.type "tuple") = true := by
    simp only [List.all_toArray, List.all_map, List.all_eq_true]
    intro _ _
    rfl
  have h0 : (List.map (fun _ => Value.type "tuple") (v₁ :: rest)).toArray[0]? = some (Value.type "tuple") := by simp
  rw [h0]
  simp only [hall, if_true]
  exact wpAny_pure (wpAny_pure h)
theorem ti_sortable {a : Addr} {vs : List Value} {v₁ : Value} {k : Value → List Int} (h1 : vs[0]? = some v₁) (hk1 : k v₁ = []) (hu : A.units < cLine) (hv : ∀ v ∈ vs, IsTi s.heap v (k v)) (ha : ∀ v ∈ vs, v ≠ .ref a) :
    SrtO.SortableO prog w A s a vs fun v u => HT.lexLt (k v) (k u) := by
  intro h' keep
  have hv' : ∀ v ∈ vs, IsTi h' v (k v) := fun v hm => (hv v hm).keeps fun b o e g => keep b o (fun z => ha v hm (by rw [e, z])) g
  refine ⟨oneType', fun Q E hq => ti_kind (s := { s with heap := h' }) h1 hk1 hv' hq, ?_⟩
  intro p q hp hq
  exact lt_ti (s := { s with heap := h' }) (Q := fun r s' => s' = { s with heap := h' } ∧ r = HT.lexLt (k p.1) (k q.1)) (E := fun _ _ => False) hu (hv' p.1 hp) (hv' q.1 hq) ⟨rfl, rfl⟩
end
/-- sorted(xs), xs tuples of ints that ascend already, the first of them empty: a new list of the same -/
def rSortedTi (K : PySem.W.Frag) : List V → Hp → VK → Prop := fun vs H Q => ∃ (a : Addr) (xs : List V) (ps : List (List Int)), vs = [V.ref a] ∧ SqL K H a xs ∧ xs.length = ps.length ∧ (∀ (i : Nat) x, xs[i]? = some x → ∃ t p, ps[i]? = some p ∧ x = .ref t ∧ SqT K H t (p.map V.int)) ∧
  ps[0]? = some [] ∧ ps.Pairwise (fun p q => HT.lexLt q p = false) ∧ ∀ p, H p = none → Q (.ref p) (upd H p (.lst xs))
/-- the numbers of a tuple -/
def tiK (h : Heap) (v : Value) : List Int := match v with
  | .ref a => match h.get? a with
    | some o => match o.data with
      | .seq items _ => items.toList.map SrtO.iv
      | _ => []
    | none => []
  | _ => []
theorem tiK_is {h : Heap} {v : Value} {ns : List Int} (x : IsTi h v ns) : tiK h v = ns := by
  obtain ⟨a, dd, items, n, sl, rfl, g, i⟩ := x
  unfold tiK
  simp only [g]
  exact SrtO.iv_ints i
theorem cr_sortedTi {X : Cx} (hu : X.A.units + 64 < cLine) : CallR X (.builtin "sorted") (rSortedTi X.K) := by
  intro pins s σ H vs us Q I r h
  obtain ⟨a, xs, ps, rfl, hs, hl, hx, h0, hp, q⟩ := h
  obtain ⟨its, rv, hL, hz⟩ := I.list hs
  obtain ⟨u, rfl, ru⟩ := vals1 r
  obtain rfl : u = Value.ref a := ru
  have li := rv.length
  have hti : ∀ (i : Nat) v, its[i]? = some v → ∃ p, ps[i]? = some p ∧ IsTi s.heap v p := by
    intro i v hi
    have il : i < xs.length := by rw [li]; exact (List.getElem?_eq_some_iff.mp hi).1
    obtain ⟨t, p, e1, e2, e3⟩ := hx i _ (List.getElem?_eq_getElem il)
    obtain ⟨u, hu', ru⟩ := rv.get (List.getElem?_eq_getElem il)
    rw [hi] at hu'
    obtain rfl := Option.some.inj hu'
    rw [e2] at ru
    cases ru
    obtain ⟨its2, r2, ⟨⟨cls, dd, data, sl⟩, e4, hc, n2, hd⟩, hz2⟩ := I.tuple e3
    simp only at hc hd
    subst hc hd
    exact ⟨p, e1, t, dd, its2.toArray, n2, sl, rfl, e4, by simpa using r2.ints⟩
  have hmem : ∀ v ∈ its, IsTi s.heap v (tiK s.heap v) := by
    intro v hv
    obtain ⟨i, hi⟩ := List.getElem?_of_mem hv
    obtain ⟨p, _, h2⟩ := hti i v hi
    rw [tiK_is h2]
    exact h2
  have hmap : its.map (tiK s.heap) = ps := by
    apply List.ext_getElem?
    intro i
    rw [List.getElem?_map]
    by_cases hi : i < its.length
    · rw [List.getElem?_eq_getElem hi]
      obtain ⟨p, e1, h2⟩ := hti i _ (List.getElem?_eq_getElem hi)
      rw [e1, Option.map_some, tiK_is h2]
    · rw [List.getElem?_eq_none (by omega), List.getElem?_eq_none (by omega)]
      rfl
  obtain ⟨v₁, hv1⟩ : ∃ v₁, its[0]? = some v₁ := by
    have : 0 < its.length := by
      have := (List.getElem?_eq_some_iff.mp h0).1
      omega
    exact ⟨_, List.getElem?_eq_getElem this⟩
  have hk1 : tiK s.heap v₁ = [] := by
    obtain ⟨p, e1, h2⟩ := hti 0 v₁ hv1
    rw [h0] at e1
    rw [tiK_is h2, ← Option.some.inj e1]
  have O := NtL.swo_lexL (tiK s.heap)
  refine SrtO.sorted_ord O hL.isList (by rw [← li]; exact hz) (fun h2 h₁ a' ha' kk => ?_) fun out g1 g2 => ?_
  · refine ti_sortable (s := { s with heap := h₁ }) hv1 hk1 (by show X.A.in1.in1.units < cLine; show X.A.units + 1 + 1 < cLine; omega) (fun v hm => (hmem v hm).keeps fun b o e g => (kk b o g).2) fun v hm e => ?_
    obtain ⟨b, dd, items, n, sl, e', g, _⟩ := hmem v hm
    rw [e] at e'
    cases e'
    exact (kk _ _ g).1 rfl
  · have hs2 : SrtO.Srtd (fun v u => HT.lexLt (tiK s.heap v) (tiK s.heap u)) its := by
      rw [← hmap] at hp
      exact List.pairwise_map.mp hp
    have eo : out = its := SrtO.stb_uniq O g1 hs2 g2
    subst eo
    obtain ⟨ep, he'⟩ := PyProof.Rows.sortedAll_at s.heap out out.toArray
    exact ⟨.ref _, upd H (s.heap.objs.size + 1) (.lst xs), I.laid (t' := s.toks) (fun _ _ => PyProof.Rows.sortedAll_old) (Nat.le_succ _) ⟨hz, out, ep, rv, he'⟩, rfl, q _ (I.hok.fresh (Nat.le_succ _))⟩
end TX
namespace TX
open PySem PySem.Spec PyProof.Rows L2
/-! ### part_of, its parts at places of their own -/
def spPartT (K : PySem.W.Frag) (NP : Addr) : Sp := fun vs H Q E => ∃ (v u : V) (d pl : PyData) (Hv : Hp), vs = [v, u] ∧ Same Hv H ∧ Dp K Hv v d ∧ Dp K Hv u pl ∧ valD d ∧ sz d ≤ 9000 ∧ nd pl ≤ 1000000 ∧
  (∀ e, foundD d pl = some e → ∀ H' w S, Same H H' → Tr H' w e S → (∀ b ∈ S, H b = none) → Q w H') ∧ (foundD d pl = none → ∀ (H3 : Hp) (dx : Addr) (w : V), Same H H3 → H3 dx = some (.xd [("place", w)]) → Dp K (newp H H3) w pl → E (.ref NP) (some dx) H3)
section
variable {P : Program} {w : World} {K : PySem.W.Frag} {mg : Str → Option Value} {base : Heap} {TE NP BV : Addr}
theorem ok_partT {f fF fC : Addr} {fd dF dC : FuncData} (F : Fun K "part_of" "part_of" s_part_of f fd) (GC : FnOk P w K mg base CX0 2 fC dC ["thing"] (spCopyT K)) (gC : mg "copy_of" = some (.ref fC)) (kC : PySem.W.keepIn K (.ref fC) = true) (bC : Binds K dC ["thing"] [])
    (GF : FnOk P w K mg base (L2.CX P w) 5 fF dF ["value", "place"] (spFound K NP)) (gF : mg "found_at" = some (.ref fF)) (kF : PySem.W.keepIn K (.ref fF) = true) (bF : Binds K dF ["value", "place"] []) :
    FnOk P w K mg base (L2.CX P w) 6 f fd ["value", "place"] (spPartT K NP) := by
  refine F.okX scPart (fun vs H Q E h => ?_) (fun cdv A outer s H vs Q E hr h => ?_)
  · obtain ⟨v, u, d, pl, Hv, rfl, _⟩ := h
    rfl
  · obtain ⟨v, u, d, pl, Hv, rfl, sv, hd, hu, vd, hz, hnd, q1, q2⟩ := h
    have r2 : Room 2 _ := hr.mono (by decide)
    refine ⟨_, pss_one (ps_ret (pe_call GC r2 (by rfl) gC kC bC .nil pass0 (pa_cons (pe_call (E := E) GF hr (by rfl) gF kF bF .nil (passes_call (takes_of rfl rfl rfl rfl) fun _ _ _ _ z => z) (pa_cons (pv 0) (pa_cons (pv 1) pa_nil))) pa_nil))), ?_⟩
    refine ⟨_, rfl, _, rfl, v, u, d, pl, Hv, rfl, sv, hd, hu, by omega, hnd, fun e he H1 w1 s1 hw1 => ?_, q2⟩
    obtain ⟨ks, rfl, ha⟩ := found_at he
    obtain ⟨ve, ze, _⟩ := at_val ks d e ha vd
    have := nd_sz e ve
    exact ⟨w1, e, Hv, rfl, sv.trans s1, hw1, by omega, fun H2 v' S s2 tr nw => q1 e he H2 v' S (s1.trans s2) tr fun b hb => s1.free (nw b hb)⟩
theorem ne_in {l b : Addr} {S : List Addr} (h : l ∉ S) (hb : b ∈ S) : b ≠ l := fun z => h (by rw [← z]; exact hb)
/-! ### _law_asked -/
def noD (pl : PyData) : PyData := .list [.list [.str "no", pl, .bool true, .bool false], .list [.str "no", pl]]
def spAsked (K : PySem.W.Frag) : Sp := fun vs H Q _ => ∃ (v u : V) (d pl : PyData) (Hv : Hp), vs = [v, u] ∧ Same Hv H ∧ Dp K Hv v d ∧ Dp K Hv u pl ∧ valD d ∧ sz d ≤ 9000 ∧ nd pl ≤ 100000 ∧
  (∀ ks e, pl = .tuple ks → atD d ks = some e → ∀ (H' : Hp) (l : Addr) (x : V) (S : List Addr), Same H H' → H l = none → H' l = some (.lst [x, .bl (tornD d ks)]) → Tr H' x e S → (∀ b ∈ S, H b = none) → l ∉ S → Q (.ref l) H') ∧
  (foundD d pl = none → ∀ H' t, Same H H' → Dp K H' (.ref t) (noD pl) → Q (.ref t) H')
def tApp (K : PySem.W.Frag) (t : L2.TE) : TS := tDrop (tBM K "list" rAppend (tVar 2) (tCons t tNil))
def tIsA (K : PySem.W.Frag) (a : Addr) (cls : Value) (d : Option Addr) (C : Addr) : L2.TE := tCB (rIsE3 K a cls d) (tCons (tVar 3) (tCons (tC (.ref C)) tNil))
def tS1 (K : PySem.W.Frag) (TE BV : Addr) : Addr → Value → Option Addr → TS := fun a cls d => tApp K (tLst (tCons (tC (.str "no")) (tCons (tFe K a cls d "place" (tVar 3)) (tCons (tIsA K a cls d TE) (tCons (tIsA K a cls d BV) tNil)))))
def tS2 (K : PySem.W.Frag) : Addr → Value → Option Addr → TS := fun a cls d => tApp K (tLst (tCons (tC (.str "no")) (tCons (tFe K a cls d "place" (tVar 3)) tNil)))
theorem scAsked : FnScope ["_law_value_here", "_law_thing_here", "_law_told", "e"] ["_law_value_here", "_law_thing_here"] (defScope s__law_asked) := ⟨rfl, rfl, rfl, by decide +kernel, rfl, by decide +kernel, by decide +kernel⟩
theorem ok_asked {f fP fT : Addr} {fd dP dT : FuncData} (F : Fun K "_law_asked" "_law_asked" s__law_asked f fd) (T : Nm mg) (c : Cl K mg TE "NoPlace" NP) (c' : Cl K mg TE "BadValue" BV) (nP : PySem.W.findIn K (.ref NP) "place" = some none) (gTE : mg "TextorlistError" = some (.ref TE)) {cdT : ClassData} (hT : PySem.W.clsIn K TE = some cdT) (tT : PySem.W.typeIn K (.ref TE) = some (.type "type"))
    (n1 : NP ≠ TE) (n2 : NP ≠ BV) (n3 : BV ≠ TE) (GP : FnOk P w K mg base (L2.CX P w) 6 fP dP ["value", "place"] (spPartT K NP)) (gP : mg "part_of" = some (.ref fP)) (kP : PySem.W.keepIn K (.ref fP) = true) (bP : Binds K dP ["value", "place"] [])
    (GT : FnOk P w K mg base (L2.CX P w) 6 fT dT ["value", "place"] (spTorn K NP)) (gT : mg "is_torn" = some (.ref fT)) (kT : PySem.W.keepIn K (.ref fT) = true) (bT : Binds K dT ["value", "place"] []) :
    FnOk P w K mg base CX0 7 f fd ["_law_value_here", "_law_thing_here"] (spAsked K) := by
  refine F.ok scAsked (fun vs H Q E h => ?_) (fun cdv A outer s H vs Q E hr h => ?_)
  · obtain ⟨v, u, d, pl, Hv, rfl, _⟩ := h
    rfl
  · obtain ⟨v, u, d, pl, Hv, rfl, sv, hd, hu, vd, hz, hnp, q1, q2⟩ := h
    refine ⟨_, pss_cons (ps_set (i := 2) scAsked.nd rfl (.inl rfl) (pe_lst pa_nil)) <|
      pss_cons (ps_try_as (i := 3) (tb := fun W => tApp K (tCallS (spPartT K NP) (WE W) (tCons (tVar 0) (tCons (tVar 1) tNil)))) (ts := tS1 K TE BV) (Wout := fun _ _ _ _ => False) rfl rfl scAsked.nd rfl rfl ⟨rfl, by decide, Or.inl c.mgC⟩ take0
        (fun W pn xe tk _ => pss_one (ps_expr (pe_bm PySem.F.plainAttrs_list PySem.F.slot_list_append PySem.F.type_list_append mt_append (pv 2) (pa_cons (by exact (pe_callS GP hr rfl gP kP bP (fun σ => passAt tk σ) (by exact (pa_cons (pv 0) (pa_cons (pv 1) pa_nil))))) pa_nil))))
        (fun a oe cls d pn hz hf => pss_one (ps_expr (pe_bm PySem.F.plainAttrs_list PySem.F.slot_list_append PySem.F.type_list_append mt_append (pv 2) (pa_cons (pe_lst (pa_cons pe_str (pa_cons (pe_fe hz hf (pv 3)) (pa_cons (pe_callB (call_isE3 hz hf) (by rfl) T.isi (by decide +kernel) (pa_cons (pv 3) (pa_cons (pe_glob (v := .ref TE) (by rfl) gTE rfl) pa_nil)))
          (pa_cons (pe_callB (call_isE3 hz hf) (by rfl) T.isi (by decide +kernel) (pa_cons (pv 3) (pa_cons (pe_glob (v := .ref BV) (by rfl) c'.mgC rfl) pa_nil))) pa_nil))))) pa_nil))))) <|
      pss_cons (ps_try_as (i := 3) (tb := fun W => tApp K (tCallS (spTorn K NP) (WE W) (tCons (tVar 0) (tCons (tVar 1) tNil)))) (ts := tS2 K) (Wout := fun _ _ _ _ => False) rfl rfl scAsked.nd rfl rfl ⟨rfl, by decide, Or.inl c.mgC⟩ take0
        (fun W pn xe tk _ => pss_one (ps_expr (pe_bm PySem.F.plainAttrs_list PySem.F.slot_list_append PySem.F.type_list_append mt_append (pv 2) (pa_cons (by exact (pe_callS GT hr rfl gT kT bT (fun σ => passAt tk σ) (by exact (pa_cons (pv 0) (pa_cons (pv 1) pa_nil))))) pa_nil))))
        (fun a oe cls d pn hz hf => pss_one (ps_expr (pe_bm PySem.F.plainAttrs_list PySem.F.slot_list_append PySem.F.type_list_append mt_append (pv 2) (pa_cons (pe_lst (pa_cons pe_str (pa_cons (pe_fe hz hf (pv 3)) pa_nil))) pa_nil))))) <|
      pss_one (ps_ret (pv 2)), ?_⟩
    obtain ⟨cd', hc', hm'⟩ := c'.mro
    have self : PySem.W.exmOne K (.ref NP) (.ref NP) = some true := by
      refine PySem.W.exm_ref c.ec.hs c.ec.hd c.ty ?_
      obtain ⟨cd, hc, hm⟩ := c.mro
      show PySem.W.mroIn K NP (.ref NP) = _
      rw [mro_is hc hm rfl]
      have f1 : (Value.ref NP == Value.ref NP) = true := beq_self_eq_true _
      simp only [List.contains_cons, f1, Bool.true_or]
    have k1 : PySem.W.kitOne K (.ref NP) (.ref TE) = some true := (kit_cls c hT tT n1).trans (by rw [decide_eq_true rfl])
    have k2 : PySem.W.kitOne K (.ref NP) (.ref BV) = some false := (kit_cls c hc' c'.ty n2).trans (by rw [decide_eq_false n3])
    refine ⟨by decide, fun l nl => ?_⟩
    have s0 : Same H (upd H l (.lst [])) := same_upd nl
    have hl : (upd H l (.lst [])) l = some (.lst []) := upd_same
    generalize upd H l (.lst []) = G0 at s0 hl
    refine ⟨_, rfl, .inl ⟨rfl, _, SqL.of hl⟩, _, rfl, _, rfl, v, u, d, pl, Hv, rfl, sv.trans s0, hd, hu, vd, hz, by omega, fun e he G1 x S s1 tr nw => ?_, fun hb G1 dx w1 s1 hx hw1 => ?_⟩
    · obtain ⟨ks, rfl, ha⟩ := found_at he
      refine ⟨l, [], x, rfl, rfl, s1 _ _ hl, by decide, ?_⟩
      have lS : l ∉ S := fun z => by
        have := nw l z
        rw [hl] at this
        cases this
      have tr2 : Tr (upd G1 l (.lst ([] ++ [x]))) x e S := Tr.frame tr fun b hb o eb => by
        rw [upd_ne (ne_in lS hb)]
        exact eb
      have s2 : Same H (upd G1 l (.lst ([] ++ [x]))) := same_fresh nl (s0.trans s1)
      have hl2 : (upd G1 l (.lst ([] ++ [x]))) l = some (.lst [x]) := upd_same
      generalize upd G1 l (.lst ([] ++ [x])) = G2 at tr2 s2 hl2
      refine ⟨_, rfl, .inl ⟨rfl, _, SqL.of hl2⟩, _, rfl, _, rfl, v, u, d, .tuple ks, Hv, rfl, sv.trans s2, hd, hu, by omega, by omega, fun ks' e' hk he' G3 s3 => ?_, fun z => absurd ((show foundD d (.tuple ks) = atD d ks from rfl).symm.trans z) (by rw [ha]; exact fun z => nomatch z)⟩
      obtain rfl := PyData.tuple.inj hk
      refine ⟨l, [x], _, rfl, rfl, s3 _ _ hl2, (by show 1 < sizeLine; decide), ?_⟩
      refine ⟨_, rfl, q1 ks e rfl ha _ l x S (same_fresh nl (s2.trans s3)) nl upd_same (Tr.frame tr2 fun b hb o eb => by rw [upd_ne (ne_in lS hb)]; exact s3 _ _ eb) (fun b hb => s0.free (nw b hb)) lS⟩
    · refine ⟨true, self, fun _ a na => ?_, fun z => nomatch z⟩
      have xd : ∀ dd, some dx = some dd → ∃ fs, G1 dd = some (.xd fs) := fun dd z => ⟨_, Option.some.inj z ▸ hx⟩
      refine ⟨_, rfl, .inl ⟨rfl, _, SqL.of (s1 _ _ hl)⟩, NP, rfl, c.xf, nP, _, rfl, rfl, rfl, dx, _, w1, rfl, hx, rfl, ?_⟩
      refine ⟨_, rfl, NP, _, _, _, rfl, c.ec, rfl, .own _, k1, xd, _, rfl, NP, _, _, _, rfl, c.ec, rfl, .own _, k2, xd, (by show 4 ≤ sizeLine; decide), fun t nt => ⟨l, [], .ref t, rfl, rfl, same_upd nt _ _ (s1 _ _ hl), by decide, ?_⟩⟩
      have st : Same G1 (upd G1 t (.lst [.str "no", w1, .bl true, .bl false])) := same_upd nt
      have tl : t ≠ l := fun z => by
        rw [z, s1 _ _ hl] at nt
        cases nt
      have lG1 : Same (newp G0 G1) (del (upd G1 t (.lst [.str "no", w1, .bl true, .bl false])) l) := fun b o e => by
        cases q0 : G0 b with
        | some y =>
          rw [newp_old q0] at e
          cases e
        | none =>
          rw [newp_at q0] at e
          rw [del_ne (fun z => by rw [z, hl] at q0; cases q0)]
          exact st _ _ e
      have htw : Dp K (del (upd G1 t (.lst [.str "no", w1, .bl true, .bl false])) l) (.ref t) (.list [.str "no", pl, .bool true, .bool false]) :=
        .lst (SqL.of (by rw [del_ne tl, upd_same])) (.cons (.str _) (.cons (dp_same lG1 _ _ hw1) (.cons (.bl _) (.cons (.bl _) .nil))))
      have s2 : Same H (upd (upd G1 t (.lst [.str "no", w1, .bl true, .bl false])) l (.lst ([] ++ [.ref t]))) := same_fresh nl ((s0.trans s1).trans st)
      have hl2 : (upd (upd G1 t (.lst [.str "no", w1, .bl true, .bl false])) l (.lst ([] ++ [.ref t]))) l = some (.lst [.ref t]) := upd_same
      have htw2 : Dp K (del (upd (upd G1 t (.lst [.str "no", w1, .bl true, .bl false])) l (.lst ([] ++ [.ref t]))) l) (.ref t) (.list [.str "no", pl, .bool true, .bool false]) :=
        dp_same (fun b o e => by
          by_cases z : b = l
          · rw [z, del_same] at e
            cases e
          · rw [del_ne z] at e ⊢
            rw [upd_ne z]
            exact e) _ _ htw
      generalize upd (upd G1 t (.lst [.str "no", w1, .bl true, .bl false])) l (.lst ([] ++ [.ref t])) = G2 at s2 hl2 htw2
      clear htw lG1
      refine ⟨_, rfl, .inl ⟨rfl, _, SqL.of hl2⟩, _, rfl, _, rfl, v, u, d, pl, Hv, rfl, sv.trans s2, hd, hu, by omega, by omega, fun ks' e' hk he' => ?_, fun hb2 G3 dx2 w2 s3 hx2 hw2 => ?_⟩
      · exfalso
        rw [hk] at hb
        rw [(show foundD d (.tuple ks') = atD d ks' from rfl), he'] at hb
        cases hb
      · refine ⟨true, self, fun _ a na => ?_, fun z => nomatch z⟩
        refine ⟨_, rfl, .inl ⟨rfl, _, SqL.of (s3 _ _ hl2)⟩, NP, rfl, c.xf, nP, _, rfl, rfl, rfl, dx2, _, w2, rfl, hx2, rfl, (by show 2 ≤ sizeLine; decide), fun t2 nt2 => ⟨l, [.ref t], .ref t2, rfl, rfl, same_upd nt2 _ _ (s3 _ _ hl2), (by show 1 < sizeLine; decide), _, rfl, ?_⟩⟩
        have st2 : Same G3 (upd G3 t2 (.lst [.str "no", w2])) := same_upd nt2
        have t2l : t2 ≠ l := fun z => by
          rw [z, s3 _ _ hl2] at nt2
          cases nt2
        have sub : Same (del (upd G3 t2 (.lst [.str "no", w2])) l) (upd (upd G3 t2 (.lst [.str "no", w2])) l (.lst ([.ref t] ++ [.ref t2]))) := fun b o e => by
          by_cases z : b = l
          · rw [z, del_same] at e
            cases e
          · rw [del_ne z] at e
            rw [upd_ne z]
            exact e
        have lG3 : Same (newp G2 G3) (del (upd G3 t2 (.lst [.str "no", w2])) l) := fun b o e => by
          cases q0 : G2 b with
          | some y =>
            rw [newp_old q0] at e
            cases e
          | none =>
            rw [newp_at q0] at e
            rw [del_ne (fun z => by rw [z, hl2] at q0; cases q0)]
            exact st2 _ _ e
        refine q2 hb _ l (same_fresh nl ((s2.trans s3).trans st2)) (.lst (SqL.of upd_same) (.cons (dp_same ((blind_del.same (s3.trans st2)).trans sub) _ _ htw2) (.cons (.lst (SqL.of (xs := [.str "no", w2]) (sub _ _ (by rw [del_ne t2l, upd_same]))) (.cons (.str _) (.cons (dp_same (lG3.trans sub) _ _ hw2) .nil))) .nil)))
end
end TX
namespace TX
open PySem PySem.Spec PyProof.Rows L2
/-! ### things like places -/
structure Th (d : PyData) : Prop where
  al : alD d
  ok : okD d
  bk : d.bulk ≤ 2000
  dp : d.depth ≤ 5
  nd : nd d ≤ 2000
structure Thi (d : PyData) : Prop where
  al : alD d
  ok : okD d
  bk : d.bulk ≤ 100
  dp : d.depth ≤ 3
  nd : nd d ≤ 100
theorem log_big {i : Int} (h : i.natAbs ≤ 2 ^ 100) : i.natAbs.log2 < 1920 := by
  by_cases z : i.natAbs = 0
  · rw [z]
    decide
  · exact Nat.lt_trans ((Nat.log2_lt z).mpr (Nat.lt_of_le_of_lt h (by decide : 2 ^ 100 < 2 ^ 101))) (by decide)
theorem thi_int {i : Int} (h : i.natAbs ≤ 2 ^ 100) : Thi (.int i) := ⟨trivial, log_big h, by simp [PyData.bulk], by simp [PyData.depth], by simp [nd]⟩
theorem thi_bool (b : Bool) : Thi (.bool b) := ⟨trivial, trivial, by simp [PyData.bulk], by simp [PyData.depth], by simp [nd]⟩
theorem thi_none : Thi .none := ⟨trivial, trivial, by simp [PyData.bulk], by simp [PyData.depth], by simp [nd]⟩
/-- a row of things -/
def ThAll (ds : List PyData) : Prop := ∀ d ∈ ds, Thi d
theorem thall {ds : List PyData} (h : ThAll ds) : alAll ds ∧ okAll ds ∧ PyData.bulkAll ds ≤ 101 * ds.length ∧ PyData.depthAll ds ≤ 3 ∧ ndAll ds ≤ 100 * ds.length := by
  induction ds with
  | nil => exact ⟨trivial, trivial, Nat.le_refl _, Nat.zero_le _, Nat.le_refl _⟩
  | cons d ds ih =>
    obtain ⟨a, b, c, e, f⟩ := ih fun x hx => h x (List.mem_cons_of_mem _ hx)
    have t := h d List.mem_cons_self
    refine ⟨⟨t.al, a⟩, ⟨t.ok, b⟩, ?_, ?_, ?_⟩
    · have := t.bk
      simp only [PyData.bulkAll, List.length_cons]
      omega
    · have := t.dp
      simp only [PyData.depthAll]
      omega
    · have := t.nd
      simp only [ndAll, List.length_cons]
      omega
theorem th_tuple {ds : List PyData} (h : ThAll ds) (hl : ds.length ≤ 19) : Th (.tuple ds) := by
  obtain ⟨a, b, c, e, f⟩ := thall h
  refine ⟨a, b, ?_, ?_, ?_⟩
  · simp only [PyData.bulk]
    omega
  · simp only [PyData.depth]
    omega
  · simp only [nd]
    omega
theorem th_list {ds : List PyData} (h : ThAll ds) (hl : ds.length ≤ 19) : Th (.list ds) := by
  obtain ⟨a, b, c, e, f⟩ := thall h
  refine ⟨a, b, ?_, ?_, ?_⟩
  · simp only [PyData.bulk]
    omega
  · simp only [PyData.depth]
    omega
  · simp only [nd]
    omega
theorem th_one {d : PyData} (t : Thi d) : Th d := ⟨t.al, t.ok, Nat.le_trans t.bk (by decide), Nat.le_trans t.dp (by decide), Nat.le_trans t.nd (by decide)⟩
/-- a place, small -/
structure Sm (p : List Nat) : Prop where
  len : p.length ≤ 18
  bd : ∀ i ∈ p, i ≤ 10000
theorem nat_big {i : Nat} (h : i ≤ 10000) : (((i : Nat) : Int)).natAbs ≤ 2 ^ 100 := Nat.le_trans (show _ ≤ 10000 by omega) (by decide)
theorem sm_th {p : List Nat} (h : Sm p) : ThAll (natD p) := by
  intro d hd
  obtain ⟨i, hi, rfl⟩ := List.mem_map.mp hd
  exact thi_int (nat_big (h.bd i hi))
theorem thi_str {x : Str} (h : alS x) (hl : x.length ≤ 100) : Thi (.str x) := by
  refine ⟨h, fun c hc => ?_, by simp only [PyData.bulk]; exact hl, by simp [PyData.depth], by simp [nd]⟩
  have := (al_lt (h c hc)).1
  exact Nat.lt_trans this (by decide)
theorem al_empty : alS "" := fun c hc => by
  have e : cs ("" : Str) = [] := by decide +kernel
  rw [e] at hc
  cases hc
theorem thi_num {i : Nat} (h : i ≤ 10000) : Thi (.str (toString ((i : Nat) : Int) : String)) := by
  refine thi_str (fun c hc => ?_) (Nat.le_trans (PySem.W.KT.len_num (by omega) (by omega)) (by decide))
  have e : cs (toString ((i : Nat) : Int) : String) = (Nat.toDigits 10 i).map Char.toNat := intC_nat i
  rw [e] at hc
  have := dig_num c hc
  simp only [alC, Bool.or_eq_true, decide_eq_true_eq]
  omega
/-- the state under way: what stood stays, but the bag -/
structure Go (Hv H G : Hp) (p : Addr) : Prop where
  sv : Same Hv G
  kp : ∀ b o, b ≠ p → H b = some o → G b = some o
  bg : BagAt G p
  np : Hv p = none
theorem Go.new {Hv H G : Hp} {p q : Addr} {o : HO} (g : Go Hv H G p) (n : G q = none) : Go Hv H (upd G q o) p :=
  ⟨g.sv.trans (same_upd n), fun b x hb e => same_upd n _ _ (g.kp b x hb e), bag_same g.bg (same_upd n), g.np⟩
theorem Go.take {Hv H G : Hp} {p : Addr} {x y : Int} (g : Go Hv H G p) : Go Hv H (upd G p (.lst [.int x, .int y])) p :=
  ⟨fun b o e => by rw [upd_ne (fun z => by rw [z, g.np] at e; cases e)]; exact g.sv _ _ e, fun b o hb e => by rw [upd_ne hb]; exact g.kp b o hb e, ⟨_, _, upd_same⟩, g.np⟩
theorem Go.ne {Hv H G : Hp} {p q : Addr} (g : Go Hv H G p) (n : G q = none) : q ≠ p := fun z => bag_in g.bg (z ▸ n)
theorem Go.del {Hv H G : Hp} {p : Addr} (g : Go Hv H G p) : Same Hv (del G p) := fun b o e => by
  rw [del_ne (fun z => by rw [z, g.np] at e; cases e)]
  exact g.sv _ _ e
theorem Go.same {Hv H G G' : Hp} {p : Addr} (g : Go Hv H G p) (s : Same G G') : Go Hv H G' p := ⟨g.sv.trans s, fun b x hb e => s _ _ (g.kp b x hb e), bag_same g.bg s, g.np⟩
theorem del_new {G : Hp} {p q : Addr} {o : HO} (n : G q = none) : Same (del G p) (del (upd G q o) p) := blind_del.same (same_upd n)
theorem del_take {G : Hp} {p : Addr} {o : HO} : Same (del G p) (del (upd G p o) p) := fun b x e => by
  by_cases z : b = p
  · rw [z, del_same] at e
    cases e
  · rw [del_ne z] at e ⊢
    rw [upd_ne z]
    exact e
theorem cat_fin {K : PySem.W.Frag} {Hv H G : Hp} {p a T4 : Addr} {xs : List V} {ds : List PyData} {z : V} {dz : PyData} {Q : VK} (g : Go Hv H G p) (ha : SqT K (del G p) a xs) (hxs : DpAll K (del G p) xs ds) (h4 : (del G p) T4 = some (.tup [z])) (hz : Dp K (del G p) z dz) (hl : xs.length ≤ 10000)
    (fin : ∀ (G' : Hp) (y : V), Go Hv H G' p → Dp K (del G' p) y (.tuple (ds ++ [dz])) → Q y G') : rCatA K (.ref a) (.ref T4) G Q := by
  refine ⟨a, T4, xs, [z], rfl, rfl, same_sqt del_in ha, SqT.of (del_in _ _ h4), Nat.le_trans (show xs.length + 1 ≤ 10001 by omega) (by decide), fun e => ?_, fun _ e => ?_, fun _ _ q n => ?_⟩
  · subst e
    cases hxs
    exact fin G _ g (.tup (SqT.of h4) (.cons hz .nil))
  · cases e
  · refine fin _ _ (g.new n) (.tup (SqT.of (xs := xs ++ [z]) (by rw [del_ne (g.ne n), upd_same])) (DpAll.append (dpAll_same (del_new n) _ _ hxs) (.cons (dp_same (del_new n) _ _ hz) .nil)))
def spThing (K : PySem.W.Frag) : Sp := fun vs H Q _ => ∃ (p l : Addr) (ys : List V) (ps : List (List Nat)) (Hv : Hp), vs = [.ref p, .ref l] ∧ Go Hv H H p ∧ SqL K Hv l ys ∧ DpAll K Hv ys (ps.map fun q => .tuple (natD q)) ∧ ps ≠ [] ∧ ps.length ≤ 10000 ∧ (∀ q ∈ ps, Sm q) ∧
  ∀ (G : Hp) (y : V) (pl : PyData), Go Hv H G p → Dp K (del G p) y pl → Th pl → Q y G
theorem eqv_ne (p' : List Nat) (j : Nat) : (!PyData.eqv (.tuple (natD (p' ++ [j]))) (.tuple [])) = true := by
  rw [natD_append]
  cases natD p' with
  | nil => rfl
  | cons a l => simp [PyData.eqv, PyData.eqvAll]
theorem ix_last {xs : List V} {ds : List PyData} {K : PySem.W.Frag} {H : Hp} {p' : List Nat} {j : Nat} (h : DpAll K H xs (natD (p' ++ [j]))) : xs.dropLast = natV p' ∧ atI xs (-1) = some (.int ((j : Nat) : Int)) ∧ xs.length = p'.length + 1 := by
  have e := nat_dp h
  subst e
  refine ⟨by simp [natV], ?_, by simp [natV]⟩
  have e2 : ixN (natV (p' ++ [j])).length (-1) = some p'.length := by
    unfold ixN
    have e3 : (natV (p' ++ [j])).length = p'.length + 1 := by simp [natV]
    rw [e3, if_neg (by decide), if_pos (by omega)]
    congr 1
    omega
  unfold atI
  rw [e2]
  simp [natV]
def bitD (i : Nat) : PyData := if i < 2 then .bool (i == 1) else .int ((i : Nat) : Int)
theorem bit_dp {K : PySem.W.Frag} {H H' : Hp} : ∀ {l : List Nat} {us : List V}, DpAll K H us (l.map bitD) → DpAll K H' us (l.map bitD)
  | [], _, h => by
    cases h
    exact .nil
  | i :: l, _, h => by
    cases h with
    | cons h1 h2 =>
      refine .cons ?_ (bit_dp h2)
      unfold bitD at h1 ⊢
      split
      · rename_i c
        rw [if_pos c] at h1
        cases h1
        exact .bl _
      · rename_i c
        rw [if_neg c] at h1
        cases h1
        exact .int _
def tPick4 : L2.TE := tIf (tTest (tOp (rI0 fun i j => .bl (decide (i < j))) (tVar 4) (tC (.int 2)))) (tOp rEq (tVar 4) (tC (.int 1))) (tVar 4)
theorem lay_nats : ∀ p : List Nat, PyData.canLayAll0 (natD p) = true ∧ PyData.depthAll (natD p) = 0
  | [] => ⟨rfl, rfl⟩
  | i :: p => by
    have ih := lay_nats p
    simp only [natD, List.map_cons, PyData.canLayAll0, PyData.canLay0, PyData.depthAll, PyData.depth] at ih ⊢
    exact ⟨by rw [ih.1]; rfl, by rw [ih.2]; rfl⟩
theorem shaped_nats (p : List Nat) : SeqAt.shaped (.tuple (natD p)) = true := by
  obtain ⟨h1, h2⟩ := lay_nats p
  unfold SeqAt.shaped
  rw [Bool.and_eq_true]
  refine ⟨by simp only [PyData.canLay0, h1], decide_eq_true ?_⟩
  simp only [PyData.depth, h2]
  omega
section
variable {P : Program} {w : World} {K : PySem.W.Frag} {mg : Str → Option Value} {base : Heap}
theorem scThing : FnScope ["_law_bag_here", "_law_places", "_law_place", "_law_pick", "_law_one"] ["_law_bag_here", "_law_places"] (defScope s__law_thing) := ⟨rfl, rfl, rfl, by decide +kernel, rfl, by decide +kernel, by decide +kernel⟩
theorem ok_thing {f fT : Addr} {fd dT : FuncData} (F : Fun K "_law_thing" "_law_thing" s__law_thing f fd) (T : Nm mg) (k : Nk mg) (B : Nb mg) (GT : FnOk P w K mg base CX0 1 fT dT ["_law_bag_here", "_law_many"] spTake) (gT : mg "_law_take" = some (.ref fT)) (kT : PySem.W.keepIn K (.ref fT) = true) (bT : Binds K dT ["_law_bag_here", "_law_many"] []) :
    FnOk P w K mg base CX0 2 f fd ["_law_bag_here", "_law_places"] (spThing K) := by
  refine F.ok scThing (fun vs H Q E h => ?_) (fun cdv A outer s H vs Q E hr h => ?_)
  · obtain ⟨p, l, ys, ps, Hv, rfl, _⟩ := h
    rfl
  · obtain ⟨p, l, ys, ps, Hv, rfl, g0, hl, hA, hne, hlen, hsm, q⟩ := h
    have r1 : Room 1 _ := hr
    have hu := hr.units
    refine ⟨_, pss_cons (ps_set (i := 2) scThing.nd rfl (.inl rfl) (pe_ix ix_list (pv 1) (pe_call GT r1 (by rfl) gT kT bT .nil pass0 (pa_cons (pv 0) (pa_cons (pe_callB call_len_seq (by rfl) B.len PySem.boot_len (pa_cons (pv 1) pa_nil)) pa_nil))) (fun _ _ => rfl))) <|
      pss_cons (ps_set (i := 3) scThing.nd rfl (.inl rfl) (pe_call GT r1 (by rfl) gT kT bT .nil pass0 (pa_cons (pv 0) (pa_cons pe_int pa_nil)))) <|
      C8.pss_cut (ps_if (PW.pt (pw_and (pt_cmpR op_eq (pv 3) pe_int (nomark _)) (pw_and1 (pt_cmpR (op_neD hu) (pv 2) (pe_tup pa_nil) (nomark _)))))
        (pss_one (ps_ret (pe_op op_catA (pe_slice sl_tupA (pv 2) po_none (po_some (pe_un un_neg pe_int))) (pe_tup (pa_cons (pe_op op_sub (pe_ix ix_tup (pv 2) (pe_un un_neg pe_int) (fun _ _ => rfl)) (pe_ix ix_list (pe_lst (pa_cons pe_int (pa_cons pe_int (pa_cons pe_int (pa_cons (pe_op op_pow pe_int pe_int) pa_nil))))) (pe_call GT r1 (by rfl) gT kT bT .nil pass0 (pa_cons (pv 0) (pa_cons pe_int pa_nil))) (fun _ _ => rfl))) pa_nil))))) pss_nil) <|
      C8.pss_cut (ps_if (PW.pt (pw_and (pt_cmpR op_eq (pv 3) pe_int (nomark _)) (pw_and1 (pt_cmpR (op_neD hu) (pv 2) (pe_tup pa_nil) (nomark _)))))
        (pss_one (ps_ret (pe_op op_catA (pe_slice sl_tupA (pv 2) po_none (po_some (pe_un un_neg pe_int))) (pe_tup (pa_cons (pe_op op_add (pe_op op_add (pe_ix ix_tup (pv 2) (pe_un un_neg pe_int) (fun _ _ => rfl)) pe_int) (pe_call GT r1 (by rfl) gT kT bT .nil pass0 (pa_cons (pv 0) (pa_cons pe_int pa_nil)))) pa_nil))))) pss_nil) <|
      C8.pss_cut (ps_if (PW.pt (pw_and (pt_cmpR op_eq (pv 3) pe_int (nomark _)) (pw_and1 (pt_cmpR (op_neD hu) (pv 2) (pe_tup pa_nil) (nomark _)))))
        (pss_one (ps_ret (pe_callTy call_tuple_of (by rfl) T.tpl (by decide +kernel) (pa_cons (pe_lc (own := [("_law_one", 4)]) (g := gName 4) (tt := tYes) (te := tPick4) rfl scThing.nd (pi_tup (pv 2))
          (blkOk_by (own := [("_law_one", 4)]) (N := ["_law_bag_here", "_law_places", "_law_place", "_law_pick", "_law_one"]) (sc := defScope s__law_thing) (by decide +kernel)) (fun _ _ _ _ _ => pg_name (i := 4) scThing.nd rfl (Or.inl rfl)) (fun _ _ _ _ _ => pts_nil)
          (fun _ _ _ _ _ => pe_ifExp (pt_cmpR op_lt (pv 4) pe_int (nomark _)) (pe_cmpR op_eq (pv 4) pe_int (nomark _)) (pv 4))) pa_nil)))) pss_nil) <|
      C8.pss_cut (ps_if (PW.pt (pw_and (pt_cmpR op_eq (pv 3) pe_int (nomark _)) (pw_and1 (pt_cmpR (op_neD hu) (pv 2) (pe_tup pa_nil) (nomark _)))))
        (pss_one (ps_ret (pe_op op_catA (pe_slice sl_tupA (pv 2) po_none (po_some (pe_un un_neg pe_int))) (pe_tup (pa_cons (pe_ix ix_list (pe_lst (pa_cons (pe_callTy call_str_int (by rfl) k.str (by decide +kernel) (pa_cons (pe_ix ix_tup (pv 2) (pe_un un_neg pe_int) (fun _ _ => rfl)) pa_nil)) (pa_cons pe_non (pa_cons (pe_tup (pa_cons (pe_ix ix_tup (pv 2) (pe_un un_neg pe_int) (fun _ _ => rfl)) pa_nil)) (pa_cons pe_str pa_nil))))) (pe_call GT r1 (by rfl) gT kT bT .nil pass0 (pa_cons (pv 0) (pa_cons pe_int pa_nil))) (fun _ _ => rfl)) pa_nil))))) pss_nil) <|
      pss_cons (ps_if (pt_cmpR op_eq (pv 3) pe_int (nomark _)) (pss_one (ps_ret (pe_callTy call_list_of (by rfl) T.lst (by decide +kernel) (pa_cons (pv 2) pa_nil)))) pss_nil) <|
      pss_cons (ps_if (pt_cmpR op_eq (pv 3) pe_int (nomark _)) (pss_one (ps_ret (pe_ix ix_list (pe_lst (pa_cons pe_non (pa_cons pe_str (pa_cons pe_str (pa_cons pe_int (pa_cons pe_bl (pa_cons (pe_lst pa_nil) (pa_cons (pe_lst (pa_cons pe_str pa_nil)) pa_nil)))))))) (pe_call GT r1 (by rfl) gT kT bT .nil pass0 (pa_cons (pv 0) (pa_cons pe_int pa_nil))) (fun _ _ => rfl)))) pss_nil) <|
      pss_cons (ps_if (pt_cmpR op_lt (pv 3) pe_int (nomark _)) (pss_one (ps_ret (pe_op op_catA (pv 2) (pe_tup (pa_cons (pe_op op_sub (pe_call GT r1 (by rfl) gT kT bT .nil pass0 (pa_cons (pv 0) (pa_cons pe_int pa_nil))) pe_int) pa_nil))))) pss_nil) <|
      pss_one (ps_ret (pv 2)), ?_⟩
    have plen : 0 < ps.length := List.length_pos_iff.mpr hne
    have lys : ys.length = ps.length := (DpAll.length hA).trans (List.length_map ..)
    refine ⟨_, rfl, _, rfl, _, rfl, l, ys, rfl, .inl (g0.sv.seq hl), p, _, rfl, g0.bg, by omega, by omega, fun x1 y1 n hn0 hn1 => ?_⟩
    obtain ⟨n, rfl⟩ : ∃ m : Nat, n = m := ⟨n.toNat, by omega⟩
    have hn' : n < ys.length := by omega
    have hyn := List.getElem?_eq_getElem hn'
    obtain ⟨dd, hdd, hx⟩ := DpAll.get hA hyn
    obtain ⟨pq, hpq, rfl⟩ := get_map hdd
    have spq := hsm pq (List.mem_of_getElem? hpq)
    have g1 := g0.take (x := x1) (y := y1)
    generalize upd H p (.lst [.int x1, .int y1]) = G1 at g1
    refine ⟨l, ys, _, ys[n], rfl, rfl, g1.sv.seq hl, atI_nat hyn, ?_⟩
    generalize ys[n] = x at hyn hx
    refine ⟨_, rfl, p, 12, rfl, g1.bg, by decide, by decide, fun x2 y2 k hk0 hk1 => ?_⟩
    have g2 := g1.take (x := x2) (y := y2)
    generalize upd G1 p (.lst [.int x2, .int y2]) = G2 at g2
    obtain ⟨a0, xs, rfl, hsq, hxs⟩ := dp_tup hx
    refine ⟨fun σ' G' => σ' = [some (.ref p), some (.ref l), some (.ref a0), some (.int k), none] ∧ Go Hv H G' p, ?_, ?_⟩
    · refine ⟨_, rfl, rfl, _, rfl, ?_⟩
      by_cases c : k = 0
      · refine iteT' (decide_eq_true (congrArg V.int c)) ⟨_, rfl, by decide, fun t0 n0 => ⟨.tuple (natD pq), .tuple [], dp_same (g2.sv.trans (same_upd n0)) _ _ hx, .tup (SqT.of upd_same) .nil, shaped_nats pq, by decide +kernel, _, rfl, ?_⟩⟩
        have g3 := g2.new (o := .tup []) n0
        generalize upd G2 t0 (.tup []) = G3 at g3
        clear n0 g2 G2
        rcases List.eq_nil_or_concat pq with he | ⟨p', j, he⟩
        · exact iteF' (by rw [he]; decide +kernel) ⟨rfl, g3⟩
        · have he' : pq = p' ++ [j] := by rw [he]; simp
          have sj : j ≤ 10000 := spq.bd j (by rw [he']; simp)
          have sp' : Sm p' := ⟨by have := spq.len; rw [he'] at this; simp at this; omega, fun i hi => spq.bd i (by rw [he']; exact List.mem_append_left _ hi)⟩
          refine iteT' (by rw [he']; exact eqv_ne _ _) ?_
          have hxs' := hxs
          rw [he'] at hxs'
          obtain ⟨hd1, hd2, hd3⟩ := ix_last (ds := []) hxs'
          refine ⟨_, rfl, _, rfl, -1, rfl, a0, xs, rfl, same_sqt g3.sv hsq, fun hw => absurd hw ?_, fun _ t3 n3 => ?_⟩
          · rintro ⟨_, z⟩
            have : HT.sIx xs.length xs.length (some (-1)) = xs.length - 1 := by
              show (if (-1 : Int) < 0 then ((-1 : Int) + ((xs.length : Nat) : Int)).toNat else min (-1 : Int).toNat xs.length) = xs.length - 1
              rw [if_pos (by decide)]
              omega
            omega
          rw [cut_init, hd1]
          have g4 := g3.new (o := .tup (natV p')) n3
          have h3 : (del (upd G3 t3 (.tup (natV p'))) p) t3 = some (.tup (natV p')) := by rw [del_ne (g3.ne n3), upd_same]
          generalize upd G3 t3 (.tup (natV p')) = G4 at g4 h3
          clear n3 g3 G3
          refine ⟨_, rfl, 1, rfl, a0, xs, _, _, rfl, rfl, same_sqt g4.sv hsq, hd2, _, _, rfl, rfl, ⟨by decide, by decide, by decide⟩, (by show 4 ≤ sizeLine; decide), fun lq nlq => ?_⟩
          have g5 := g4.new (o := .lst [.int 1, .int 2, .int 400, .int (10 ^ (20 : Int).toNat)]) nlq
          refine ⟨_, rfl, p, 4, rfl, g5.bg, by decide, by decide, fun x3 y3 m hm0 hm1 => ?_⟩
          have g6 := g5.take (x := x3) (y := y3)
          have h6 := (del_take (o := .lst [.int x3, .int y3])) _ _ ((del_new (o := .lst [.int 1, .int 2, .int 400, .int (10 ^ (20 : Int).toNat)]) nlq) _ _ h3)
          obtain ⟨c9, hat, hc9⟩ : ∃ c9 : Int, atI [V.int 1, .int 2, .int 400, .int (10 ^ (20 : Int).toNat)] m = some (.int c9) ∧ c9.natAbs ≤ 10 ^ 20 := by
            have : m = ((0 : Nat) : Int) ∨ m = ((1 : Nat) : Int) ∨ m = ((2 : Nat) : Int) ∨ m = ((3 : Nat) : Int) := by omega
            rcases this with rfl | rfl | rfl | rfl
            · exact ⟨_, atI_nat (j := 0) rfl, by decide⟩
            · exact ⟨_, atI_nat (j := 1) rfl, by decide⟩
            · exact ⟨_, atI_nat (j := 2) rfl, by decide⟩
            · exact ⟨_, atI_nat (j := 3) rfl, by decide⟩
          have hlq : (upd (upd G4 lq (.lst [.int 1, .int 2, .int 400, .int (10 ^ (20 : Int).toNat)])) p (.lst [.int x3, .int y3])) lq = some (.lst [.int 1, .int 2, .int 400, .int (10 ^ (20 : Int).toNat)]) := by rw [upd_ne (g4.ne nlq), upd_same]
          generalize upd (upd G4 lq (.lst [.int 1, .int 2, .int 400, .int (10 ^ (20 : Int).toNat)])) p (.lst [.int x3, .int y3]) = G6 at g6 h6 hlq
          refine ⟨lq, _, m, _, rfl, rfl, SqL.of hlq, hat, _, _, rfl, rfl, ?_⟩
          refine ⟨(by show 1 ≤ sizeLine; decide), fun t5 n5 => ?_⟩
          refine cat_fin (g6.new n5) (SqT.of (del_new n5 _ _ h6)) (dp_nats p') (by rw [del_ne (g6.ne n5), upd_same]) (.int _) (by have := sp'.len; simp [natV]; omega) fun G' y g' hy => q G' y _ g' hy (th_tuple ?_ ?_)
          · intro d hd
            rcases List.mem_append.mp hd with z | z
            · exact sm_th sp' d z
            · rw [List.mem_singleton.mp z]
              exact thi_int (Nat.le_trans (show _ ≤ 10 ^ 20 + 10000 by omega) (by decide))
          · have := sp'.len
            simp [natD]
            omega
      · exact iteF' (decide_eq_false fun z => c (V.int.inj z)) (iteF ⟨rfl, g2⟩)
    rintro σ' G2 ⟨rfl, g2⟩
    refine ⟨fun σ' G' => σ' = [some (.ref p), some (.ref l), some (.ref a0), some (.int k), none] ∧ Go Hv H G' p, ?_, ?_⟩
    · refine ⟨_, rfl, rfl, _, rfl, ?_⟩
      by_cases c : k = 1
      · refine iteT' (decide_eq_true (congrArg V.int c)) ⟨_, rfl, by decide, fun t0 n0 => ⟨.tuple (natD pq), .tuple [], dp_same (g2.sv.trans (same_upd n0)) _ _ hx, .tup (SqT.of upd_same) .nil, shaped_nats pq, by decide +kernel, _, rfl, ?_⟩⟩
        have g3 := g2.new (o := .tup []) n0
        generalize upd G2 t0 (.tup []) = G3 at g3
        clear n0 g2 G2
        rcases List.eq_nil_or_concat pq with he | ⟨p', j, he⟩
        · exact iteF' (by rw [he]; decide +kernel) ⟨rfl, g3⟩
        · have he' : pq = p' ++ [j] := by rw [he]; simp
          have sj : j ≤ 10000 := spq.bd j (by rw [he']; simp)
          have sp' : Sm p' := ⟨by have := spq.len; rw [he'] at this; simp at this; omega, fun i hi => spq.bd i (by rw [he']; exact List.mem_append_left _ hi)⟩
          refine iteT' (by rw [he']; exact eqv_ne _ _) ?_
          have hxs' := hxs
          rw [he'] at hxs'
          obtain ⟨hd1, hd2, hd3⟩ := ix_last (ds := []) hxs'
          refine ⟨_, rfl, _, rfl, -1, rfl, a0, xs, rfl, same_sqt g3.sv hsq, fun hw => absurd hw ?_, fun _ t3 n3 => ?_⟩
          · rintro ⟨_, z⟩
            have : HT.sIx xs.length xs.length (some (-1)) = xs.length - 1 := by
              show (if (-1 : Int) < 0 then ((-1 : Int) + ((xs.length : Nat) : Int)).toNat else min (-1 : Int).toNat xs.length) = xs.length - 1
              rw [if_pos (by decide)]
              omega
            omega
          rw [cut_init, hd1]
          have g4 := g3.new (o := .tup (natV p')) n3
          have h3 : (del (upd G3 t3 (.tup (natV p'))) p) t3 = some (.tup (natV p')) := by rw [del_ne (g3.ne n3), upd_same]
          generalize upd G3 t3 (.tup (natV p')) = G4 at g4 h3
          clear n3 g3 G3
          refine ⟨_, rfl, 1, rfl, a0, xs, _, _, rfl, rfl, same_sqt g4.sv hsq, hd2, _, _, rfl, rfl, _, rfl, p, 3, rfl, g4.bg, by decide, by decide, fun x3 y3 m hm0 hm1 => ?_⟩
          have g6 := g4.take (x := x3) (y := y3)
          have h6 := (del_take (o := .lst [.int x3, .int y3])) _ _ h3
          generalize upd G4 p (.lst [.int x3, .int y3]) = G6 at g6 h6
          refine ⟨_, _, rfl, rfl, ?_⟩
          refine ⟨(by show 1 ≤ sizeLine; decide), fun t5 n5 => ?_⟩
          refine cat_fin (g6.new n5) (SqT.of (del_new n5 _ _ h6)) (dp_nats p') (by rw [del_ne (g6.ne n5), upd_same]) (.int _) (by have := sp'.len; simp [natV]; omega) fun G' y g' hy => q G' y _ g' hy (th_tuple ?_ ?_)
          · intro d hd
            rcases List.mem_append.mp hd with z | z
            · exact sm_th sp' d z
            · rw [List.mem_singleton.mp z]
              exact thi_int (Nat.le_trans (show _ ≤ 20000 by omega) (by decide))
          · have := sp'.len
            simp [natD]
            omega
      · exact iteF' (decide_eq_false fun z => c (V.int.inj z)) (iteF ⟨rfl, g2⟩)
    rintro σ' G2 ⟨rfl, g2⟩
    refine ⟨fun σ' G' => σ' = [some (.ref p), some (.ref l), some (.ref a0), some (.int k), none] ∧ Go Hv H G' p, ?_, ?_⟩
    · refine ⟨_, rfl, rfl, _, rfl, ?_⟩
      by_cases c : k = 2
      · refine iteT' (decide_eq_true (congrArg V.int c)) ⟨_, rfl, by decide, fun t0 n0 => ⟨.tuple (natD pq), .tuple [], dp_same (g2.sv.trans (same_upd n0)) _ _ hx, .tup (SqT.of upd_same) .nil, shaped_nats pq, by decide +kernel, _, rfl, ?_⟩⟩
        have g3 := g2.new (o := .tup []) n0
        generalize upd G2 t0 (.tup []) = G3 at g3
        clear n0 g2 G2
        rcases List.eq_nil_or_concat pq with he | ⟨p', j, he⟩
        · exact iteF' (by rw [he]; decide +kernel) ⟨rfl, g3⟩
        · have he' : pq = p' ++ [j] := by rw [he]; simp
          have sj : j ≤ 10000 := spq.bd j (by rw [he']; simp)
          have sp' : Sm p' := ⟨by have := spq.len; rw [he'] at this; simp at this; omega, fun i hi => spq.bd i (by rw [he']; exact List.mem_append_left _ hi)⟩
          refine iteT' (by rw [he']; exact eqv_ne _ _) ?_
          have hxs' := hxs
          rw [he'] at hxs'
          obtain ⟨hd1, hd2, hd3⟩ := ix_last (ds := []) hxs'
          have exs : xs = natV pq := nat_dp hxs
          have lxs : xs.length = pq.length := by rw [exs]; simp [natV]
          refine ⟨_, rfl, a0, rfl, ⟨xs, same_sqt g3.sv hsq⟩, fun D nD => lc_it (walk_tup (K := K) (a := a0) (xs := xs)) (fun i H' => LcG K (fun G => del G D) G3 D ((pq.take i).map bitD) H') (lcg_start nD) (fun i H' hi L => same_sqt (g3.sv.trans L.sm) hsq) ?_ ?_⟩
          · rintro i x1 H1 H2 hi L ⟨rfl, hx1⟩
            rw [exs] at hx1
            obtain ⟨u, hu1, rfl⟩ := get_map (g := fun i : Nat => V.int ((i : Nat) : Int)) hx1
            refine ⟨rfl, tyes_in (iteT ⟨_, rfl, _, _, rfl, rfl, _, rfl, ?_⟩)⟩
            have ll : ((pq.take i).map bitD).length ≤ 100000 := by
              have := spq.len
              rw [List.length_map, List.length_take]
              omega
            by_cases c2 : u < 2
            · refine iteT' (decide_eq_true (show ((u : Nat) : Int) < 2 by omega)) ⟨_, rfl, rfl, lcg_push (d := .bool (u == 1)) blind_del L nD (Same.refl _) ?_ ?_ ll⟩
              · have e1 : decide (V.int ((u : Nat) : Int) = V.int 1) = (u == 1) := by
                  by_cases z : u = 1
                  · rw [z]
                    rfl
                  · rw [beq_false_of_ne z]
                    exact decide_eq_false fun y => z (by have := V.int.inj y; omega)
                rw [e1]
                exact .bl _
              · rw [take_map1 hu1]
                unfold bitD
                rw [if_pos c2]
            · refine iteF' (decide_eq_false (show ¬ ((u : Nat) : Int) < 2 by omega)) ⟨_, rfl, lcg_push (d := .int ((u : Nat) : Int)) blind_del L nD (Same.refl _) (.int _) ?_ ll⟩
              rw [take_map1 hu1]
              unfold bitD
              rw [if_neg c2]
          · rintro H5 L
            rw [lxs, List.take_length] at L
            obtain ⟨us5, e5, hA5⟩ := L.ex
            have g5 := g3.same L.sm
            refine ⟨D, us5, rfl, .inl ⟨SqL.of e5, fun t9 n9 => q _ _ (.tuple (pq.map bitD)) (g5.new n9) ?_ (th_tuple ?_ ?_)⟩⟩
            · refine .tup (SqT.of (xs := us5) (by rw [del_ne (g5.ne n9), upd_same])) (bit_dp hA5)
            · intro d hd
              obtain ⟨u, hu1, rfl⟩ := List.mem_map.mp hd
              unfold bitD
              split
              · exact thi_bool _
              · exact thi_int (nat_big (spq.bd u hu1))
            · have := spq.len
              simp
              omega
      · exact iteF' (decide_eq_false fun z => c (V.int.inj z)) (iteF ⟨rfl, g2⟩)
    rintro σ' G2 ⟨rfl, g2⟩
    refine ⟨fun σ' G' => σ' = [some (.ref p), some (.ref l), some (.ref a0), some (.int k), none] ∧ Go Hv H G' p, ?_, ?_⟩
    · refine ⟨_, rfl, rfl, _, rfl, ?_⟩
      by_cases c : k = 3
      · refine iteT' (decide_eq_true (congrArg V.int c)) ⟨_, rfl, by decide, fun t0 n0 => ⟨.tuple (natD pq), .tuple [], dp_same (g2.sv.trans (same_upd n0)) _ _ hx, .tup (SqT.of upd_same) .nil, shaped_nats pq, by decide +kernel, _, rfl, ?_⟩⟩
        have g3 := g2.new (o := .tup []) n0
        generalize upd G2 t0 (.tup []) = G3 at g3
        clear n0 g2 G2
        rcases List.eq_nil_or_concat pq with he | ⟨p', j, he⟩
        · exact iteF' (by rw [he]; decide +kernel) ⟨rfl, g3⟩
        · have he' : pq = p' ++ [j] := by rw [he]; simp
          have sj : j ≤ 10000 := spq.bd j (by rw [he']; simp)
          have sp' : Sm p' := ⟨by have := spq.len; rw [he'] at this; simp at this; omega, fun i hi => spq.bd i (by rw [he']; exact List.mem_append_left _ hi)⟩
          refine iteT' (by rw [he']; exact eqv_ne _ _) ?_
          have hxs' := hxs
          rw [he'] at hxs'
          obtain ⟨hd1, hd2, hd3⟩ := ix_last (ds := []) hxs'
          refine ⟨_, rfl, _, rfl, -1, rfl, a0, xs, rfl, same_sqt g3.sv hsq, fun hw => absurd hw ?_, fun _ t3 n3 => ?_⟩
          · rintro ⟨_, z⟩
            have : HT.sIx xs.length xs.length (some (-1)) = xs.length - 1 := by
              show (if (-1 : Int) < 0 then ((-1 : Int) + ((xs.length : Nat) : Int)).toNat else min (-1 : Int).toNat xs.length) = xs.length - 1
              rw [if_pos (by decide)]
              omega
            omega
          rw [cut_init, hd1]
          have g4 := g3.new (o := .tup (natV p')) n3
          have h3 : (del (upd G3 t3 (.tup (natV p'))) p) t3 = some (.tup (natV p')) := by rw [del_ne (g3.ne n3), upd_same]
          generalize upd G3 t3 (.tup (natV p')) = G4 at g4 h3
          clear n3 g3 G3
          have lg : ((((j : Nat) : Int)).natAbs).log2 < 1920 := log_big (nat_big sj)
          refine ⟨_, rfl, 1, rfl, a0, xs, _, _, rfl, rfl, same_sqt g4.sv hsq, hd2, _, rfl, lg, _, rfl, 1, rfl, a0, xs, _, _, rfl, rfl, same_sqt g4.sv hsq, hd2, (by show 1 ≤ sizeLine; decide), fun t6 n6 => ⟨(by show 4 ≤ sizeLine; decide), fun lq nlq => ?_⟩⟩
          have g5 := g4.new (o := .tup [.int ((j : Nat) : Int)]) n6
          have h5 := (del_new (o := .tup [.int ((j : Nat) : Int)]) n6) _ _ h3
          have h65 : (del (upd G4 t6 (.tup [.int ((j : Nat) : Int)])) p) t6 = some (.tup [.int ((j : Nat) : Int)]) := by rw [del_ne (g4.ne n6), upd_same]
          generalize upd G4 t6 (.tup [.int ((j : Nat) : Int)]) = G5 at g5 h5 h65 nlq
          have g7 := g5.new (o := .lst [.str (toString ((j : Nat) : Int) : String), .non, .ref t6, .str ""]) nlq
          refine ⟨_, rfl, p, 4, rfl, g7.bg, by decide, by decide, fun x3 y3 m hm0 hm1 => ?_⟩
          have g6 := g7.take (x := x3) (y := y3)
          have s56 := (del_new (p := p) (o := .lst [.str (toString ((j : Nat) : Int) : String), .non, .ref t6, .str ""]) nlq).trans (del_take (p := p) (o := .lst [.int x3, .int y3]))
          have h6 := s56 _ _ h5
          have h66 := s56 _ _ h65
          have hlq : (upd (upd G5 lq (.lst [.str (toString ((j : Nat) : Int) : String), .non, .ref t6, .str ""])) p (.lst [.int x3, .int y3])) lq = some (.lst [.str (toString ((j : Nat) : Int) : String), .non, .ref t6, .str ""]) := by rw [upd_ne (g5.ne nlq), upd_same]
          clear s56 g7
          generalize upd (upd G5 lq (.lst [.str (toString ((j : Nat) : Int) : String), .non, .ref t6, .str ""])) p (.lst [.int x3, .int y3]) = G6 at g6 h6 h66 hlq
          obtain ⟨z, dz, hat, hz, tz⟩ : ∃ (z : V) (dz : PyData), atI [V.str (toString ((j : Nat) : Int) : String), .non, .ref t6, .str ""] m = some z ∧ Dp K (del G6 p) z dz ∧ Thi dz := by
            have : m = ((0 : Nat) : Int) ∨ m = ((1 : Nat) : Int) ∨ m = ((2 : Nat) : Int) ∨ m = ((3 : Nat) : Int) := by omega
            rcases this with rfl | rfl | rfl | rfl
            · exact ⟨_, _, atI_nat (j := 0) rfl, .str _, thi_num sj⟩
            · exact ⟨_, _, atI_nat (j := 1) rfl, .non, thi_none⟩
            · refine ⟨_, _, atI_nat (j := 2) rfl, .tup (SqT.of h66) (.cons (.int _) .nil), ⟨⟨trivial, trivial⟩, ⟨lg, trivial⟩, by simp [PyData.bulk, PyData.bulkAll], by simp [PyData.depth, PyData.depthAll], by simp [nd, ndAll]⟩⟩
            · exact ⟨_, _, atI_nat (j := 3) rfl, .str _, thi_str al_empty (by decide +kernel)⟩
          refine ⟨lq, _, m, _, rfl, rfl, SqL.of hlq, hat, ?_⟩
          refine ⟨(by show 1 ≤ sizeLine; decide), fun t5 n5 => ?_⟩
          refine cat_fin (g6.new n5) (SqT.of (del_new n5 _ _ h6)) (dp_nats p') (by rw [del_ne (g6.ne n5), upd_same]) (dp_same (del_new n5) _ _ hz) (by have := sp'.len; simp [natV]; omega) fun G' y g' hy => q G' y _ g' hy (th_tuple ?_ ?_)
          · intro d hd
            rcases List.mem_append.mp hd with z | z
            · exact sm_th sp' d z
            · rw [List.mem_singleton.mp z]
              exact tz
          · have := sp'.len
            simp [natD]
            omega
      · exact iteF' (decide_eq_false fun z => c (V.int.inj z)) (iteF ⟨rfl, g2⟩)
    rintro σ' G2 ⟨rfl, g2⟩
    have thp : Th (.tuple (natD pq)) := th_tuple (sm_th spq) (by have := spq.len; simp [natD]; omega)
    refine ⟨_, rfl, rfl, _, rfl, ?_⟩
    by_cases c4 : k = 4
    · refine iteT' (decide_eq_true (congrArg V.int c4)) ⟨_, rfl, a0, xs, rfl, .inr (same_sqt g2.sv hsq), fun l5 n5 => q _ _ (.list (natD pq)) (g2.new n5) (.lst (SqL.of (xs := xs) (by rw [del_ne (g2.ne n5), upd_same])) (dpAll_same (g2.del.trans (del_new n5)) _ _ hxs)) (th_list (sm_th spq) (by have := spq.len; simp [natD]; omega))⟩
    refine iteF' (decide_eq_false fun z => c4 (V.int.inj z)) ⟨_, rfl, rfl, _, rfl, ?_⟩
    by_cases c5 : k = 5
    · refine iteT' (decide_eq_true (congrArg V.int c5)) ⟨by decide, fun l1 n1 => ⟨(by show 1 ≤ sizeLine; decide), fun l2 n2 => ⟨(by show 7 ≤ sizeLine; decide), fun lq nlq => ?_⟩⟩⟩
      have g3 := g2.new (o := .lst []) n1
      have h1 : (del (upd G2 l1 (.lst [])) p) l1 = some (.lst []) := by rw [del_ne (g2.ne n1), upd_same]
      generalize upd G2 l1 (.lst []) = G3 at g3 h1 n2 nlq
      have g4 := g3.new (o := .lst [.str "a"]) n2
      have h14 := (del_new (o := .lst [.str "a"]) n2) _ _ h1
      have h2 : (del (upd G3 l2 (.lst [.str "a"])) p) l2 = some (.lst [.str "a"]) := by rw [del_ne (g3.ne n2), upd_same]
      generalize upd G3 l2 (.lst [.str "a"]) = G4 at g4 h14 h2 nlq
      have g7 := g4.new (o := .lst [.non, .str "", .str "a", .int 0, .bl true, .ref l1, .ref l2]) nlq
      refine ⟨_, rfl, p, 7, rfl, g7.bg, by decide, by decide, fun x3 y3 m hm0 hm1 => ?_⟩
      have g6 := g7.take (x := x3) (y := y3)
      have s46 := (del_new (p := p) (o := .lst [.non, .str "", .str "a", .int 0, .bl true, .ref l1, .ref l2]) nlq).trans (del_take (p := p) (o := .lst [.int x3, .int y3]))
      have h16 := s46 _ _ h14
      have h26 := s46 _ _ h2
      have hlq : (upd (upd G4 lq (.lst [.non, .str "", .str "a", .int 0, .bl true, .ref l1, .ref l2])) p (.lst [.int x3, .int y3])) lq = some (.lst [.non, .str "", .str "a", .int 0, .bl true, .ref l1, .ref l2]) := by rw [upd_ne (g4.ne nlq), upd_same]
      clear s46 g7
      generalize upd (upd G4 lq (.lst [.non, .str "", .str "a", .int 0, .bl true, .ref l1, .ref l2])) p (.lst [.int x3, .int y3]) = G6 at g6 h16 h26 hlq
      have ta : Thi (.str "a") := thi_str (fun c hc => by
        have e : cs ("a" : Str) = [97] := by decide +kernel
        rw [e] at hc
        rw [List.mem_singleton.mp hc]
        decide) (by decide +kernel)
      obtain ⟨z, dz, hat, hz, tz⟩ : ∃ (z : V) (dz : PyData), atI [V.non, .str "", .str "a", .int 0, .bl true, .ref l1, .ref l2] m = some z ∧ Dp K (del G6 p) z dz ∧ Th dz := by
        have : m = ((0 : Nat) : Int) ∨ m = ((1 : Nat) : Int) ∨ m = ((2 : Nat) : Int) ∨ m = ((3 : Nat) : Int) ∨ m = ((4 : Nat) : Int) ∨ m = ((5 : Nat) : Int) ∨ m = ((6 : Nat) : Int) := by omega
        rcases this with rfl | rfl | rfl | rfl | rfl | rfl | rfl
        · exact ⟨_, _, atI_nat (j := 0) rfl, .non, th_one thi_none⟩
        · exact ⟨_, _, atI_nat (j := 1) rfl, .str _, th_one (thi_str al_empty (by decide +kernel))⟩
        · exact ⟨_, _, atI_nat (j := 2) rfl, .str _, th_one ta⟩
        · exact ⟨_, _, atI_nat (j := 3) rfl, .int _, th_one (thi_int (by decide))⟩
        · exact ⟨_, _, atI_nat (j := 4) rfl, .bl _, th_one (thi_bool _)⟩
        · exact ⟨_, _, atI_nat (j := 5) rfl, .lst (SqL.of h16) .nil, th_list (fun _ h => nomatch h) (by decide)⟩
        · refine ⟨_, _, atI_nat (j := 6) rfl, .lst (SqL.of h26) (.cons (.str _) .nil), th_list (fun d hd => ?_) (by decide)⟩
          rw [List.mem_singleton.mp hd]
          exact ta
      exact ⟨lq, _, m, _, rfl, rfl, SqL.of hlq, hat, q _ _ _ g6 hz tz⟩
    refine iteF' (decide_eq_false fun z => c5 (V.int.inj z)) ⟨_, rfl, _, _, rfl, rfl, _, rfl, ?_⟩
    by_cases c9 : k < 9
    · refine iteT' (decide_eq_true c9) ⟨_, rfl, _, rfl, p, 3, rfl, g2.bg, by decide, by decide, fun x3 y3 m hm0 hm1 => ⟨_, _, rfl, rfl, (by show 1 ≤ sizeLine; decide), fun t5 n5 => ?_⟩⟩
      have g6 := g2.take (x := x3) (y := y3)
      have s26 := del_take (G := G2) (p := p) (o := .lst [.int x3, .int y3])
      generalize upd G2 p (.lst [.int x3, .int y3]) = G6 at g6 s26 n5
      have s := g2.del.trans (s26.trans (del_new (p := p) (o := .tup [.int (m - 1)]) n5))
      refine cat_fin (g6.new n5) (same_sqt s hsq) (dpAll_same s _ _ hxs) (by rw [del_ne (g6.ne n5), upd_same]) (.int _) (by have := spq.len; have := DpAll.length hxs; simp [natD] at this; omega) fun G' y g' hy => q G' y _ g' hy (th_tuple ?_ ?_)
      · intro d hd
        rcases List.mem_append.mp hd with z | z
        · exact sm_th spq d z
        · rw [List.mem_singleton.mp z]
          exact thi_int (Nat.le_trans (show _ ≤ 10 by omega) (by decide))
      · have := spq.len
        simp [natD]
        omega
    exact iteF' (decide_eq_false c9) ⟨_, rfl, q G2 _ _ g2 (dp_same g2.del _ _ hx) thp⟩
end
end TX
namespace TX
open PySem PySem.Spec PyProof.Rows L2
/-! ### places: small, ascending, and all there are -/
mutual
theorem plT_small : ∀ d : PyData, valD d → ∀ t ∈ plT d, ∀ i ∈ t.1, i ≤ sz d
  | .none, _, t, h, i, hi => by
    simp only [plT, List.mem_singleton] at h
    subst h
    cases hi
  | .str x, _, t, h, i, hi => by
    simp only [plT, List.mem_cons] at h
    rcases h with rfl | h
    · cases hi
    · split at h
      · obtain ⟨j, c, hj, rfl⟩ := plS_mem _ _ _ h
        have := (List.getElem?_eq_some_iff.mp hj).1
        have e : x.cps.toList.length = x.length := by simp [Str.length]
        rw [List.mem_singleton.mp hi]
        simp only [sz]
        omega
      · cases h
  | .list es, hv, t, h, i, hi => by
    simp only [plT, List.mem_cons] at h
    rcases h with rfl | h
    · cases hi
    · have := plL_small es hv 0 t h i hi
      simp only [sz]
      omega
  | .bool _, h, _, _, _, _ => h.elim
  | .int _, h, _, _, _, _ => h.elim
  | .tuple _, h, _, _, _, _ => h.elim
  | .dict _, h, _, _, _, _ => h.elim
theorem plL_small : ∀ ds : List PyData, valAll ds → ∀ k, ∀ t ∈ plL k ds, ∀ i ∈ t.1, i ≤ k + szAll ds
  | [], _, k, t, h, _, _ => by simp [plL] at h
  | d :: ds, hv, k, t, h, i, hi => by
    have p1 : 1 ≤ sz d := by cases d <;> simp [sz]
    simp only [plL, List.mem_append, List.mem_map] at h
    simp only [szAll]
    rcases h with ⟨u, hu, rfl⟩ | h
    · rcases List.mem_cons.mp hi with z | z
      · omega
      · have := plT_small d hv.1 u hu i z
        omega
    · have := plL_small ds hv.2 (k + 1) t h i hi
      omega
end
def ofN (p : List Nat) : List Int := p.map fun i => ((i : Nat) : Int)
abbrev Asc (ts : List Pt) : Prop := ts.Pairwise fun t u => HT.lexLt (ofN u.1) (ofN t.1) = false
theorem lex_under {k : Nat} {t u : Pt} (h : HT.lexLt (ofN u.1) (ofN t.1) = false) : HT.lexLt (ofN (under k u).1) (ofN (under k t).1) = false := by
  show HT.lexLt (((k : Nat) : Int) :: ofN u.1) (((k : Nat) : Int) :: ofN t.1) = false
  rw [HT.lexLt_cons, if_pos rfl]
  exact h
theorem plL_first : ∀ (ds : List PyData) (k : Nat), ∀ t ∈ plL k ds, ∃ j q, k ≤ j ∧ t.1 = j :: q
  | [], k, t, h => by simp [plL] at h
  | d :: ds, k, t, h => by
    simp only [plL, List.mem_append, List.mem_map] at h
    rcases h with ⟨u, hu, rfl⟩ | h
    · exact ⟨k, u.1, Nat.le_refl _, rfl⟩
    · obtain ⟨j, q, h1, h2⟩ := plL_first ds (k + 1) t h
      exact ⟨j, q, by omega, h2⟩
theorem lex_far {j k : Nat} {p q : List Nat} (h : k < j) : HT.lexLt (ofN (j :: q)) (ofN (k :: p)) = false := by
  show HT.lexLt (((j : Nat) : Int) :: ofN q) (((k : Nat) : Int) :: ofN p) = false
  rw [HT.lexLt_cons, if_neg (by omega)]
  exact decide_eq_false (by omega)
theorem lex_nil (q : List Int) : HT.lexLt q [] = false := by cases q <;> rfl
theorem plS_asc : ∀ (cs : List Nat) (k : Nat), Asc (plS k cs)
  | [], _ => List.Pairwise.nil
  | c :: cs, k => by
    refine List.Pairwise.cons (fun u hu => ?_) (plS_asc cs (k + 1))
    obtain ⟨j, c', _, rfl⟩ := plS_mem cs (k + 1) u hu
    exact lex_far (by omega)
mutual
theorem plT_asc : ∀ d : PyData, Asc (plT d)
  | .none => List.pairwise_singleton _ _
  | .bool _ => List.pairwise_singleton _ _
  | .int _ => List.pairwise_singleton _ _
  | .tuple _ => List.pairwise_singleton _ _
  | .dict _ => List.pairwise_singleton _ _
  | .str x => by
    simp only [plT]
    refine List.Pairwise.cons (fun u _ => lex_nil _) ?_
    split
    · exact plS_asc _ _
    · exact List.Pairwise.nil
  | .list es => by
    simp only [plT]
    exact List.Pairwise.cons (fun u _ => lex_nil _) (plL_asc es 0)
theorem plL_asc : ∀ (ds : List PyData) (k : Nat), Asc (plL k ds)
  | [], _ => List.Pairwise.nil
  | d :: ds, k => by
    simp only [plL]
    refine List.pairwise_append.mpr ⟨List.pairwise_map.mpr ((plT_asc d).imp fun h => lex_under h), plL_asc ds (k + 1), fun t ht u hu => ?_⟩
    obtain ⟨t', _, rfl⟩ := List.mem_map.mp ht
    obtain ⟨j, q, h1, h2⟩ := plL_first ds (k + 1) u hu
    rw [h2]
    exact lex_far (by omega)
end
theorem plL_mem : ∀ (es : List PyData) (k j : Nat) (x : PyData) (t : Pt), es[j]? = some x → t ∈ plT x → under (k + j) t ∈ plL k es
  | e :: es, k, 0, x, t, h, ht => by
    rw [List.getElem?_cons_zero] at h
    cases h
    simp only [plL, List.mem_append, List.mem_map]
    exact .inl ⟨t, ht, rfl⟩
  | e :: es, k, j + 1, x, t, h, ht => by
    rw [List.getElem?_cons_succ] at h
    have := plL_mem es (k + 1) j x t h ht
    simp only [plL, List.mem_append]
    rw [show k + (j + 1) = k + 1 + j by omega]
    exact .inr this
  | [], _, _, _, _, h, _ => by simp at h
/-- whatever is found stands at one of the places -/
theorem at_mem : ∀ (ks : List PyData) (d e : PyData), atD d ks = some e → ∃ t ∈ plT d, natD t.1 = ks
  | [], d, e, _ => by
    obtain ⟨r, h⟩ := plT_head d
    exact ⟨([], d, false), by rw [h]; exact List.mem_cons_self, rfl⟩
  | k :: ks, d, e, h => by
    cases k with
    | int i =>
      simp only [atD] at h
      split at h
      · rename_i h0
        split at h
        · rename_i x hx
          obtain ⟨t, ht, hk⟩ := at_mem ks x e h
          have ei : (((i.toNat : Nat)) : Int) = i := by omega
          cases d with
          | list es =>
            have := plL_mem es 0 i.toNat x t hx ht
            rw [Nat.zero_add] at this
            refine ⟨under i.toNat t, by simp only [plT, List.mem_cons]; exact .inr this, ?_⟩
            show PyData.int (((i.toNat : Nat)) : Int) :: natD t.1 = _
            rw [ei, hk]
          | str z =>
            simp only [innerD] at hx
            split at hx
            · rename_i hz
              unfold signD at hx
              rw [List.getElem?_map] at hx
              cases hc : z.cps.toList[i.toNat]? with
              | none =>
                rw [hc] at hx
                cases hx
              | some c =>
                rw [hc] at hx
                cases hx
                have ht1 : t.1 = [] := by
                  simp only [plT] at ht
                  rw [if_neg (show ¬ 1 < (⟨#[c]⟩ : Str).length from (by decide : ¬ 1 < 1)), List.mem_singleton] at ht
                  rw [ht]
                refine ⟨([i.toNat], .str ⟨#[c]⟩, true), ?_, ?_⟩
                · simp only [plT, List.mem_cons]
                  rw [if_pos hz]
                  refine .inr (List.mem_of_getElem? (i := i.toNat) ?_)
                  rw [plS_get, hc, Nat.zero_add]
                  rfl
                · show [PyData.int (((i.toNat : Nat)) : Int)] = _
                  rw [ei, ← hk, ht1]
                  rfl
            · simp at hx
          | _ => simp [innerD] at hx
        · cases h
      · cases h
    | _ => simp [atD] at h
/-! ### what is shown of them -/
theorem pl_sm {d : PyData} (vd : valD d) (hz : sz d ≤ 501) (hd : d.depth ≤ 13) {t : Pt} (ht : t ∈ plT d) : Sm t.1 := by
  have a := plT_short d t ht
  exact ⟨by omega, fun i hi => by have := plT_small d vd t ht i hi; omega⟩
theorem pl_al (t : Pt) : alD (plD t) := by
  have : ∀ p : List Nat, alAll (natD p) := by
    intro p
    induction p with
    | nil => trivial
    | cons i p ih => exact ⟨trivial, ih⟩
  exact this t.1
theorem pls_show : ∀ ts : List Pt, (∀ t ∈ ts, Sm t.1 ∧ t.1.length ≤ 14) → okAll (ts.map plD) ∧ PyData.bulkAll (ts.map plD) ≤ 15 * ts.length ∧ PyData.depthAll (ts.map plD) ≤ 1
  | [], _ => ⟨trivial, Nat.le_refl _, Nat.zero_le _⟩
  | t :: ts, h => by
    obtain ⟨a, b, c⟩ := pls_show ts fun u hu => h u (List.mem_cons_of_mem _ hu)
    obtain ⟨s1, s2⟩ := h t List.mem_cons_self
    have bb : ∀ p : List Nat, PyData.bulkAll (natD p) = p.length := by
      intro p
      induction p with
      | nil => rfl
      | cons i p ih =>
        simp only [natD, List.map_cons, PyData.bulkAll, PyData.bulk, List.length_cons] at ih ⊢
        omega
    refine ⟨⟨(thall (sm_th s1)).2.1, a⟩, ?_, ?_⟩
    · simp only [List.map_cons, PyData.bulkAll, plD, PyData.bulk, bb, List.length_cons]
      omega
    · simp only [List.map_cons, PyData.depthAll, plD, PyData.depth, (lay_nats t.1).2]
      omega
theorem pls_sh {d : PyData} (vd : valD d) (hz : sz d ≤ 500) (hd : d.depth ≤ 13) : Sh (.list ((plT d).map plD)) := by
  have lT := plT_len d vd
  obtain ⟨a, b, c⟩ := pls_show (plT d) fun t ht => ⟨pl_sm vd (by omega) hd ht, by have := plT_short d t ht; omega⟩
  refine sh_of a ?_ ?_
  · simp only [PyData.bulk]
    omega
  · simp only [PyData.depth]
    omega
theorem told_sh {e : PyData} (ve : valD e) (hz : sz e ≤ 501) (hd : e.depth ≤ 13) (b : Bool) : Sh (.list [e, .bool b]) := by
  have := val_bulk e ve
  refine sh_of ⟨val_okD e ve, trivial, trivial⟩ ?_ ?_
  · simp only [PyData.bulk, PyData.bulkAll]
    omega
  · simp only [PyData.depth, PyData.depthAll]
    omega
theorem th_sh {d : PyData} (t : Th d) : Sh d := sh_of t.ok (Nat.le_trans t.bk (by decide)) (Nat.le_trans t.dp (by decide))
theorem no_sh {d : PyData} (t : Th d) : Sh (noD d) := by
  have b := t.bk
  have c := t.dp
  have l2 : ("no" : Str).cps.size = 2 := by decide +kernel
  have okn : ∀ c ∈ ("no" : Str).cps.toList, c < 16 ^ 8 := by decide +kernel
  refine sh_of ⟨⟨okn, t.ok, trivial, trivial, trivial⟩, ⟨okn, t.ok, trivial⟩, trivial⟩ ?_ ?_
  · simp only [noD, PyData.bulk, PyData.bulkAll, l2]
    omega
  · simp only [noD, PyData.depth, PyData.depthAll]
    omega
theorem lt_strOk {x : Str} (h : Lt x) : PyData.strOk x = true := by
  unfold PyData.strOk
  rw [Array.all_eq_true_iff_forall_mem]
  exact fun c hc => decide_eq_true (Nat.lt_of_le_of_lt (h c (Array.mem_toList_iff.mpr hc)).2 (by decide))
mutual
theorem val_can : ∀ d : PyData, valD d → d.canLay0 = true
  | .none, _ => rfl
  | .str x, h => by
    rw [PyData.canLay0]
    exact lt_strOk h
  | .list es, h => by
    rw [PyData.canLay0]
    exact val_canAll es h
  | .bool _, h => h.elim
  | .int _, h => h.elim
  | .tuple _, h => h.elim
  | .dict _, h => h.elim
theorem val_canAll : ∀ ds : List PyData, valAll ds → PyData.canLayAll0 ds = true
  | [], _ => rfl
  | d :: ds, h => by
    rw [PyData.canLayAll0, val_can d h.1, val_canAll ds h.2]
    rfl
end
theorem val_shaped {d : PyData} (h : valD d) (hd : d.depth ≤ 60) : SeqAt.shaped d = true := by
  unfold SeqAt.shaped
  rw [val_can d h, decide_eq_true (show d.depth ≤ 64 by omega)]
  rfl
theorem rows_lay {d : PyData} : ∀ ts : List Pt, (∀ t ∈ ts, valD t.2.1 ∧ t.2.1.depth ≤ 13) → PyData.canLayAll0 (ts.map rowD) = true ∧ PyData.depthAll (ts.map rowD) ≤ 14
  | [], _ => ⟨rfl, Nat.zero_le _⟩
  | t :: ts, h => by
    obtain ⟨a, b⟩ := rows_lay (d := d) ts fun u hu => h u (List.mem_cons_of_mem _ hu)
    obtain ⟨c, e⟩ := lay_nats t.1
    obtain ⟨v1, v2⟩ := h t List.mem_cons_self
    simp only [List.map_cons, PyData.canLayAll0, rowD, plD, PyData.canLay0, PyData.depthAll, PyData.depth, a, c, e, val_can _ v1]
    exact ⟨rfl, by omega⟩
end TX
namespace TX
open PySem PySem.Spec PyProof.Rows L2
structure Ml (mg : Str → Option Value) : Prop where
  max : mg "max" = none
  repr : mg "repr" = none
  sorted : mg "sorted" = none
def spLaw (K : PySem.W.Frag) : Sp := fun vs H Q _ => ∃ (a : Addr) (ns : List Int), vs = [.ref a] ∧ SqL K H a (ns.map V.int) ∧ ns.length ≤ 63 ∧ ∀ H', Q (.bl true) H'
def tDues (K : PySem.W.Frag) : TT := tTest (tOp rEq (tCB (rRepr K) (tCons (tOp (rIxT K) (tVar 16) (tC (.int 0))) tNil)) (tCB (rRepr K) (tCons (tVar 13) tNil)))
theorem ite_both {c : Bool} {A B : VK → Prop} {Q R : VK} (h : ∀ v H', R v H' → Q v H') (hA : c = true → (∀ v H', R v H' → Q v H') → A Q) (hB : c = false → (∀ v H', R v H' → Q v H') → B Q) : if c = true then A Q else B Q := by
  cases c with
  | true => exact iteT (hA rfl h)
  | false => exact iteF (hB rfl h)
/-- a value that came of the bag, told over the heap without the bag -/
theorem del_dp {K : PySem.W.Frag} {H G1 H4 : Hp} {p : Addr} {v : V} {d : PyData} (np0 : H p = none) (bag1 : BagAt G1 p) (k : ∀ b o, b ≠ p → H b = some o → G1 b = some o) (k4 : ∀ b o, b ≠ p → G1 b = some o → H4 b = some o) (hv : Dp K (newp G1 H4) v d) : Dp K (del H4 p) v d ∧ Same H (del H4 p) := by
  refine ⟨dp_same (fun b o e => ?_) _ _ hv, fun b o e => ?_⟩
  · have bp : b ≠ p := fun z => by
      obtain ⟨x, y, e4⟩ := bag1
      rw [z, newp_old e4] at e
      cases e
    rw [del_ne bp]
    exact newp_same _ _ e
  · have bp := ne_of_none e np0
    rw [del_ne bp]
    exact k4 b o bp (k b o bp e)
theorem del_upd {H : Hp} {p : Addr} {o : HO} : del (upd H p o) p = del H p := by
  funext b
  by_cases z : b = p
  · rw [z, del_same, del_same]
  · rw [del_ne z, del_ne z, upd_ne z]
theorem pls_del {H : Hp} {p : Addr} (bg : BagAt H p) {ws : List V} {ps : List (List Nat)} (h : Pls H ws ps) : Pls (del H p) ws ps := by
  induction h with
  | nil => exact .nil
  | cons h _ ih =>
    refine .cons ?_ ih
    obtain ⟨x, y, e⟩ := bg
    rw [del_ne (fun z => by rw [z, e] at h; cases h)]
    exact h
theorem lst_del {H : Hp} {p a : Addr} (bg : BagAt H p) {ws : List V} {ps : List (List Nat)} (h : Pls H ws ps) (ha : H a = some (.lst ws)) : del H p a = some (.lst ws) := by
  obtain ⟨x, y, e⟩ := bg
  rw [del_ne (fun z => by
    rw [z, e] at ha
    cases ha
    cases h)]
  exact ha

theorem LcG.dpd {K : PySem.W.Frag} {H1 H : Hp} {D : Addr} {F : List PyData} (L : LcG K (fun G => del G D) H1 D F H) : Dp K H (.ref D) (.list F) := by
  obtain ⟨us, e, h⟩ := L.ex
  exact .lst (SqL.of e) (dpAll_same del_in _ _ h)
theorem mix_base {H4 H5 : Hp} {p : Addr} (h : H4 p ≠ none) (s : Same H4 H5) : Same (mixp (del H4 p) H4 H5) (del H5 p) := fun b o e => by
  rcases mix_in e with z | ⟨_, z, z2⟩
  · exact del_mono' s _ _ z
  · rw [del_ne (fun y => h (by rw [← y]; exact z))]
    exact z2
theorem take_filt {α β : Type} {p : α → Bool} {g : α → β} {l : List α} {i : Nat} {t : α} (h : l[i]? = some t) : ((l.take (i + 1)).filter p).map g = ((l.take i).filter p).map g ++ (if p t = true then [g t] else []) := by
  rw [List.take_add_one, h, List.filter_append, List.map_append]
  congr 1
  by_cases e : p t = true
  · simp [e]
  · simp [e]
theorem len_filt {α β : Type} {p : α → Bool} {g : α → β} {l : List α} {i : Nat} : (((l.take i).filter p).map g).length ≤ l.length := by
  rw [List.length_map]
  have := List.length_filter_le p (l.take i)
  have : (l.take i).length ≤ l.length := by rw [List.length_take]; omega
  omega
theorem mem_cut {xs : List V} {lo hi : Option Int} {x : V} (h : x ∈ cutV xs lo hi) : x ∈ xs := List.mem_of_mem_drop (List.mem_of_mem_take h)
theorem len_cutV {xs : List V} {lo hi : Option Int} : (cutV xs lo hi).length ≤ xs.length := by
  unfold cutV
  rw [List.length_take, List.length_drop]
  omega
theorem fd_at {d : PyData} {ks : List PyData} {e : PyData} (h : atD d ks = some e) : ¬ foundD d (.tuple ks) = none := fun z => by
  rw [show foundD d (.tuple ks) = atD d ks from rfl, h] at z
  cases z
/-- a row, opened -/
theorem row_open {K : PySem.W.Frag} {H : Hp} {x : V} {t : Pt} (h : Dp K H x (rowD t)) : ∃ qx x1 x2, x = .ref qx ∧ SqT K H qx [x1, x2, .bl t.2.2] ∧ Dp K H x1 (plD t) ∧ Dp K H x2 t.2.1 := by
  obtain ⟨qx, qs, rfl, hq, hqs⟩ := dp_tup h
  cases hqs with
  | @cons x1 _ _ _ g1 g2 =>
    cases g2 with
    | @cons x2 _ _ _ g2 g3 =>
      cases g3 with
      | @cons x3 _ _ _ g3 g4 =>
        cases g4
        cases g3
        exact ⟨qx, x1, x2, rfl, hq, g1, g2⟩
def tornOf (d : PyData) : PyData → Bool
  | .tuple ks => tornD d ks
  | _ => false
/-- what is due of a thing -/
def dueOf (d pl : PyData) : PyData := match foundD d pl with
  | some e => .list [e, .bool (tornOf d pl)]
  | none => noD pl
theorem due_some {d e : PyData} {ks : List PyData} (h : atD d ks = some e) : dueOf d (.tuple ks) = .list [e, .bool (tornD d ks)] := by
  unfold dueOf
  rw [show foundD d (.tuple ks) = some e from h]
  rfl
theorem due_none {d pl : PyData} (h : foundD d pl = none) : dueOf d pl = noD pl := by
  unfold dueOf
  rw [h]
theorem pls_dp {K : PySem.W.Frag} {H : Hp} : ∀ {ws : List V} {ts : List Pt}, Pls H ws (ts.map (·.1)) → DpAll K H ws (ts.map plD)
  | _, [], h => by
    cases h
    exact .nil
  | _, t :: ts, h => by
    cases h with
    | cons h1 h2 => exact .cons (.tup (SqT.of h1) (dp_nats _)) (pls_dp h2)
section
variable {P : Program} {w : World} {K : PySem.W.Frag} {mg : Str → Option Value} {base : Heap}
structure Lc (P : Program) (w : World) (K : PySem.W.Frag) (mg : Str → Option Value) (base : Heap) (a1 a2 a3 a4 a5 a6 a7 a8 a9 : Addr) (d1 d2 d3 d4 d5 d6 d7 d8 d9 : FuncData) : Prop where
  G1 : FnOk P w K mg base CX0 1 a1 d1 ["_law_script", "_law_at"] (spBag K)
  G2 : FnOk P w K mg base CX0 1 a2 d2 ["_law_bag_here", "_law_many"] spTake
  G3 : FnOk P w K mg base CX0 8 a3 d3 ["_law_bag_here"] (spGreat K)
  G4 : FnOk P w K mg base CX0 8 a4 d4 ["_law_bag_here", "_law_deep", "_law_room"] (spValue K 5)
  G5 : FnOk P w K mg base CX0 14 a5 d5 ["_law_value_here"] (spRows K 13)
  G6 : FnOk P w K mg base CX0 2 a6 d6 ["value"] (spPlacesOf K)
  G7 : FnOk P w K mg base CX0 7 a7 d7 ["_law_value_here", "_law_thing_here"] (spAsked K)
  G8 : FnOk P w K mg base CX0 15 a8 d8 ["_law_value_here"] (spSpoil 14)
  G9 : FnOk P w K mg base CX0 2 a9 d9 ["_law_bag_here", "_law_places"] (spThing K)
  b1 : Binds K d1 ["_law_script", "_law_at"] []
  b2 : Binds K d2 ["_law_bag_here", "_law_many"] []
  b3 : Binds K d3 ["_law_bag_here"] []
  b4 : Binds K d4 ["_law_bag_here", "_law_deep", "_law_room"] []
  b5 : Binds K d5 ["_law_value_here"] []
  b6 : Binds K d6 ["value"] []
  b7 : Binds K d7 ["_law_value_here", "_law_thing_here"] []
  b8 : Binds K d8 ["_law_value_here"] []
  b9 : Binds K d9 ["_law_bag_here", "_law_places"] []
  g1 : mg "_law_bag" = some (.ref a1)
  g2 : mg "_law_take" = some (.ref a2)
  g3 : mg "_law_great" = some (.ref a3)
  g4 : mg "_law_value" = some (.ref a4)
  g5 : mg "_law_rows" = some (.ref a5)
  g6 : mg "places_of" = some (.ref a6)
  g7 : mg "_law_asked" = some (.ref a7)
  g8 : mg "_law_spoil" = some (.ref a8)
  g9 : mg "_law_thing" = some (.ref a9)
  k1 : PySem.W.keepIn K (.ref a1) = true
  k2 : PySem.W.keepIn K (.ref a2) = true
  k3 : PySem.W.keepIn K (.ref a3) = true
  k4 : PySem.W.keepIn K (.ref a4) = true
  k5 : PySem.W.keepIn K (.ref a5) = true
  k6 : PySem.W.keepIn K (.ref a6) = true
  k7 : PySem.W.keepIn K (.ref a7) = true
  k8 : PySem.W.keepIn K (.ref a8) = true
  k9 : PySem.W.keepIn K (.ref a9) = true
theorem scLaw : FnScope ["_law_script", "_law_at", "_law_bag_here", "_law_value_here", "_law_rows_here", "_law_before", "_law_found", "_law_place", "_law_inner", "_law_is_piece", "_law_again", "_law_told", "_law_turn", "_law_thing_here", "_law_dues", "_law_due", "_law_row"] ["_law_script"] (defScope sLaw) := ⟨rfl, rfl, rfl, by decide +kernel, rfl, by decide +kernel, by decide +kernel⟩
theorem ok_law {f a1 a2 a3 a4 a5 a6 a7 a8 a9 : Addr} {fd d1 d2 d3 d4 d5 d6 d7 d8 d9 : FuncData} (F : Fun K "law" "law" sLaw f fd) (M : Ml mg) (T : Nm mg) (B : Nb mg) (Y : Nv mg) (L : Lc P w K mg base a1 a2 a3 a4 a5 a6 a7 a8 a9 d1 d2 d3 d4 d5 d6 d7 d8 d9) : FnG P w K mg base CX0 16 f fd ["_law_script"] (spLaw K) := by
  refine fng_of F scLaw (fun vs H Q E h => ?_) (fun cdv A outer s H vs Q E hgd hr h => ?_)
  · obtain ⟨a, ns, rfl, _⟩ := h
    rfl
  · obtain ⟨a0, ns, rfl, hS, hn, q⟩ := h
    have hu := hr.units
    have r1 : Room 1 _ := hr.mono (by decide)
    have r2 : Room 2 _ := hr.mono (by decide)
    have r7 : Room 7 _ := hr.mono (by decide)
    have r8 : Room 8 _ := hr.mono (by decide)
    have r14 : Room 14 _ := hr.mono (by decide)
    refine ⟨_, pss_cons (ps_for PassesOwn.never rfl (pi_range1 (by rfl) Y.range (pa_cons (pe_callB (call_max2 rfl) (by rfl) M.max (by decide +kernel) (pa_cons pe_int (pa_cons (pe_callB (call_min2 rfl) (by rfl) Y.min (by decide +kernel) (pa_cons pe_int (pa_cons (pe_callB call_len_seq (by rfl) B.len PySem.boot_len (pa_cons (pv 0) pa_nil)) pa_nil))) pa_nil))) pa_nil))
        (pg_name (i := 1) scLaw.nd rfl (.inl rfl)) (
        pss_cons (ps_set (i := 2) scLaw.nd rfl (.inl rfl) (pe_call L.G1 r1 (by rfl) L.g1 L.k1 L.b1 .nil pass0 (pa_cons (pv 0) (pa_cons (pv 1) pa_nil)))) <|
        pss_cons (ps_set (i := 3) scLaw.nd rfl (.inl rfl) (pe_ifExp (pt_cmpR op_eq (pe_call L.G2 r1 (by rfl) L.g2 L.k2 L.b2 .nil pass0 (pa_cons (pv 2) (pa_cons pe_int pa_nil))) pe_int (nomark _)) (pe_call L.G3 r8 (by rfl) L.g3 L.k3 L.b3 .nil pass0 (pa_cons (pv 2) pa_nil)) (pe_call L.G4 r8 (by rfl) L.g4 L.k4 L.b4 .nil pass0 (pa_cons (pv 2) (pa_cons pe_int (pa_cons pe_int pa_nil)))))) <|
        pss_cons (ps_par (i := 4) (j := 5) rfl scLaw.nd rfl rfl (by decide) rfl rfl (pa_cons (pe_call L.G5 r14 (by rfl) L.g5 L.k5 L.b5 .nil pass0 (pa_cons (pv 3) pa_nil)) (pa_cons (pe_callB (call_repr hgd hu) (by rfl) M.repr (by decide +kernel) (pa_cons (pv 3) pa_nil)) pa_nil)) (by rfl)) <|
        pss_cons (ps_set (i := 6) scLaw.nd rfl (.inl rfl) (pe_call L.G6 r2 (by rfl) L.g6 L.k6 L.b6 .nil pass0 (pa_cons (pv 3) pa_nil))) <|
        C8.pss_cut (ps_if (PW.pt (pw_or (pt_cmpR op_ne (pe_callB (call_repr hgd hu) (by rfl) M.repr (by decide +kernel) (pa_cons (pv 6) pa_nil)) (pe_callB (call_repr hgd hu) (by rfl) M.repr (by decide +kernel) (pa_cons (pe_lc (own := [("_law_row", 16)]) (g := gName 16) (tt := tYes) (te := tOp (rIxT K) (tVar 16) (tC (.int 0))) rfl scLaw.nd (pi_list (pv 4)) (blkOk_by (own := [("_law_row", 16)]) (N := ["_law_script", "_law_at", "_law_bag_here", "_law_value_here", "_law_rows_here", "_law_before", "_law_found", "_law_place", "_law_inner", "_law_is_piece", "_law_again", "_law_told", "_law_turn", "_law_thing_here", "_law_dues", "_law_due", "_law_row"]) (sc := defScope sLaw) (by decide +kernel)) (fun _ _ _ _ _ => pg_name (i := 16) scLaw.nd rfl (Or.inl rfl)) (fun _ _ _ _ _ => pts_nil) (fun _ _ _ _ _ => (pe_ix ix_tup (pv 16) pe_int (fun _ _ => rfl)))) pa_nil)) (nomark _)) (pw_or1 (pt_cmpR op_ne (pe_callB (call_repr hgd hu) (by rfl) M.repr (by decide +kernel) (pa_cons (pe_callB (cr_sortedTi hu) (by rfl) M.sorted (by decide +kernel) (pa_cons (pv 6) pa_nil)) pa_nil)) (pe_callB (call_repr hgd hu) (by rfl) M.repr (by decide +kernel) (pa_cons (pv 6) pa_nil)) (nomark _))))) (pss_one (ps_ret pe_bl)) pss_nil) <|
        C8.pss_cut (ps_for PassesOwn.never rfl (pi_list (pe_op op_cat (pe_slice sl_list (pv 4) po_none (po_some pe_int)) (pe_slice sl_list (pv 4) (po_some (pe_un un_neg pe_int)) po_none))) (pg_tup rfl (pgs_cons (pg_name (i := 7) scLaw.nd rfl (.inl rfl)) (pgs_cons (pg_name (i := 8) scLaw.nd rfl (.inl rfl)) (pgs_cons (pg_name (i := 9) scLaw.nd rfl (.inl rfl)) pgs_nil)))) (
          pss_one (ps_for PassesOwn.never rfl (pi_range1 (by rfl) Y.range (pa_cons (pe_op op_add pe_int (pe_callTy call_int1 (by rfl) B.int (by decide +kernel) (pa_cons (pe_callB call_isi (by rfl) T.isi (by decide +kernel) (pa_cons (pv 8) (pa_cons (pe_bltn (v := .ty "list") (by rfl) T.lst (by decide +kernel) rfl) pa_nil))) pa_nil))) pa_nil)) (pg_name (i := 10) scLaw.nd rfl (.inl rfl)) (
            pss_cons (ps_set (i := 11) scLaw.nd rfl (.inl rfl) (pe_call L.G7 r7 (by rfl) L.g7 L.k7 L.b7 .nil pass0 (pa_cons (pv 3) (pa_cons (pv 7) pa_nil)))) <|
            pss_cons (ps_if (pt_cmpR op_ne (pe_callB (call_repr hgd hu) (by rfl) M.repr (by decide +kernel) (pa_cons (pv 11) pa_nil)) (pe_callB (call_repr hgd hu) (by rfl) M.repr (by decide +kernel) (pa_cons (pe_lst (pa_cons (pv 8) (pa_cons (pv 9) pa_nil))) pa_nil)) (nomark _)) (pss_one (ps_ret pe_bl)) pss_nil) <|
            pss_one (ps_expr (pe_call L.G8 hr (by rfl) L.g8 L.k8 L.b8 .nil pass0 (pa_cons (pe_ix ix_list (pv 11) pe_int (fun _ _ => rfl)) pa_nil))))))) <|
        C8.pss_cut (ps_for PassesOwn.never rfl (pi_range1 (by rfl) Y.range (pa_cons pe_int pa_nil)) (pg_name (i := 12) scLaw.nd rfl (.inl rfl)) (
          pss_cons (ps_set (i := 13) scLaw.nd rfl (.inr rfl) (pe_call L.G9 r2 (by rfl) L.g9 L.k9 L.b9 .nil pass0 (pa_cons (pv 2) (pa_cons (pv 6) pa_nil)))) <|
          pss_cons (ps_setLc (i := 14) (own := [("_law_row", 16)]) (g := gName 16) (tt := tDues K) (te := tVar 16) rfl scLaw.nd rfl rfl (sw_true rfl rfl rfl (by decide +kernel)) (pi_list (pv 4)) (blkOk_by (own := [("_law_row", 16)]) (N := ["_law_script", "_law_at", "_law_bag_here", "_law_value_here", "_law_rows_here", "_law_before", "_law_found", "_law_place", "_law_inner", "_law_is_piece", "_law_again", "_law_told", "_law_turn", "_law_thing_here", "_law_dues", "_law_due", "_law_row"]) (sc := defScope sLaw) (by decide +kernel)) (fun _ _ _ _ _ => pg_name (i := 16) scLaw.nd rfl (Or.inl rfl))
              (fun _ _ _ _ _ => pts_one (pt_cmpR op_eq (pe_callB (call_repr hgd hu) (by rfl) M.repr (by decide +kernel) (pa_cons (pe_ix ix_tup (pv 16) pe_int (fun _ _ => rfl)) pa_nil)) (pe_callB (call_repr hgd hu) (by rfl) M.repr (by decide +kernel) (pa_cons (pv 13) pa_nil)) (nomark _))) (fun _ _ _ _ _ => pv 16)) <|
          C8.pss_cut (ps_set (i := 15) scLaw.nd rfl (.inl rfl) (pe_ifExp (pt_cmpR (op_neD hu) (pv 14) (pe_lst pa_nil) (nomark _)) (pe_lst (pa_cons (pe_ix ix_tup (pe_ix ix_list (pv 14) pe_int (fun _ _ => rfl)) pe_int (fun _ _ => rfl)) (pa_cons (pe_ix ix_tup (pe_ix ix_list (pv 14) pe_int (fun _ _ => rfl)) pe_int (fun _ _ => rfl)) pa_nil))) (pe_lst (pa_cons (pe_lst (pa_cons pe_str (pa_cons (pv 13) (pa_cons pe_bl (pa_cons pe_bl pa_nil))))) (pa_cons (pe_lst (pa_cons pe_str (pa_cons (pv 13) pa_nil))) pa_nil))))) <|
          pss_one (ps_if (pt_cmpR op_ne (pe_callB (call_repr hgd hu) (by rfl) M.repr (by decide +kernel) (pa_cons (pe_call L.G7 r7 (by rfl) L.g7 L.k7 L.b7 .nil pass0 (pa_cons (pv 3) (pa_cons (pv 13) pa_nil))) pa_nil)) (pe_callB (call_repr hgd hu) (by rfl) M.repr (by decide +kernel) (pa_cons (pv 15) pa_nil)) (nomark _)) (pss_one (ps_ret pe_bl)) pss_nil))) <|
        pss_cons (ps_expr (pe_bm PySem.F.plainAttrs_list PySem.F.slot_list_append PySem.F.type_list_append mt_append (pv 6) (pa_cons (pe_tup pa_nil) pa_nil))) <|
        pss_one (ps_if (PW.pt (pw_or (pt_cmpR op_ne (pe_callB (call_repr hgd hu) (by rfl) M.repr (by decide +kernel) (pa_cons (pe_call L.G6 r2 (by rfl) L.g6 L.k6 L.b6 .nil pass0 (pa_cons (pv 3) pa_nil)) pa_nil)) (pe_callB (call_repr hgd hu) (by rfl) M.repr (by decide +kernel) (pa_cons (pe_lc (own := [("_law_row", 16)]) (g := gName 16) (tt := tYes) (te := tOp (rIxT K) (tVar 16) (tC (.int 0))) rfl scLaw.nd (pi_list (pv 4)) (blkOk_by (own := [("_law_row", 16)]) (N := ["_law_script", "_law_at", "_law_bag_here", "_law_value_here", "_law_rows_here", "_law_before", "_law_found", "_law_place", "_law_inner", "_law_is_piece", "_law_again", "_law_told", "_law_turn", "_law_thing_here", "_law_dues", "_law_due", "_law_row"]) (sc := defScope sLaw) (by decide +kernel)) (fun _ _ _ _ _ => pg_name (i := 16) scLaw.nd rfl (Or.inl rfl)) (fun _ _ _ _ _ => pts_nil) (fun _ _ _ _ _ => (pe_ix ix_tup (pv 16) pe_int (fun _ _ => rfl)))) pa_nil)) (nomark _)) (pw_or1 (pt_cmpR op_ne (pe_callB (call_repr hgd hu) (by rfl) M.repr (by decide +kernel) (pa_cons (pv 3) pa_nil)) (pv 5) (nomark _))))) (pss_one (ps_ret pe_bl)) pss_nil)))
      (pss_one (ps_ret pe_bl)), ?_⟩
    refine ⟨_, rfl, a0, _, rfl, .inl hS, _, _, rfl, _, _, rfl, _, rfl, ?_, ?_, ?_⟩
    · split <;> (try split) <;> omega
    · split <;> (try split) <;> omega
    refine for_range (lo := 0) (fun i σ H1 => ∃ y1 y2 y3 y4 y5 y6 y7 y8 y9 y10 y11 y12 y13 y14 y15, σ = [some (.ref a0), y1, y2, y3, y4, y5, y6, y7, y8, y9, y10, y11, y12, y13, y14, y15, none] ∧ Same H H1) ⟨_, _, _, _, _, _, _, _, _, _, _, _, _, _, _, rfl, Same.refl _⟩ ?_ ?_
    · rintro i σ H1 hi ⟨y1, y2, y3, y4, y5, y6, y7, y8, y9, y10, y11, y12, y13, y14, y15, rfl, sm⟩
      have e0 : (0 : Int) + (i : Int) = (i : Int) := by omega
      rw [e0]
      refine ⟨_, rfl, _, rfl, a0, ns, i, rfl, sm.seq hS, hn, fun H2 p s2 np bag => ?_⟩
      have np0 : H p = none := sm.free np
      refine ⟨_, rfl, p, 3, rfl, bag, by decide, by decide, fun x1 y1' k hk0 hk1 => ⟨rfl, _, rfl, ?_⟩⟩
      have kp : ∀ b o, b ≠ p → H2 b = some o → upd H2 p (.lst [.int x1, .int y1']) b = some o := fun b o hb e => by
        rw [upd_ne hb]
        exact e
      have bag1 : BagAt (upd H2 p (.lst [.int x1, .int y1'])) p := ⟨_, _, upd_same⟩
      generalize upd H2 p (.lst [.int x1, .int y1']) = G1 at kp bag1
      refine ite_both (R := fun v H4 => ∃ d, BagAt H4 p ∧ Dp K (del H4 p) v d ∧ Same H (del H4 p) ∧ valD d ∧ d.depth ≤ 13 ∧ sz d ≤ 500) ?_ (fun _ hq => ?_) (fun _ hq => ?_)
      rotate_left
      · exact ⟨_, rfl, p, rfl, bag1, fun H4 v d k4 b4 hv vd dd sz0 => hq v H4 ⟨d, b4, (del_dp np0 bag1 (fun b o bp e => kp b o bp (s2 b o (sm b o e))) k4 hv).1, (del_dp np0 bag1 (fun b o bp e => kp b o bp (s2 b o (sm b o e))) k4 hv).2, vd, dd, sz0⟩⟩
      · exact ⟨_, rfl, p, 5, 60, rfl, bag1, by decide, by decide, by decide, fun H4 v d k4 b4 hv vd dd sz0 => hq v H4 ⟨d, b4, (del_dp np0 bag1 (fun b o bp e => kp b o bp (s2 b o (sm b o e))) k4 hv).1, (del_dp np0 bag1 (fun b o bp e => kp b o bp (s2 b o (sm b o e))) k4 hv).2, vd, by omega, by omega⟩⟩
      rintro v H4 ⟨d, bag4, hv, sHc, vd, dd, sz0⟩
      have nds := nd_sz d vd
      have shd : Sh d := sh_of (val_okD d vd) (by have := val_bulk d vd; omega) (by omega)
      have shp : Sh (.list ((plT d).map plD)) := pls_sh vd sz0 dd
      have lT := plT_len d vd
      refine ⟨_, rfl, v, d, del H4 p, rfl, del_in, hv, vd, by omega, by omega, fun H5 l ws s5 nl hl hws => ?_⟩
      refine ⟨_, rfl, v, d, rfl, dp_same (del_in.trans s5) _ _ hv, shd.s, shd.n, shd.z, shd.l, _, _, rfl, ?_⟩
      have bag5 := bag_same bag4 s5
      have lp : l ≠ p := fun z => bag_in bag4 (z ▸ nl)
      have hl5 : del H5 p l = some (.lst ws) := by rw [del_ne lp]; exact hl
      have hws5 := dpAll_same (mix_base (bag_in bag4) s5) _ _ hws
      have hv5 : Dp K (del H5 p) v d := dp_same (del_mono' s5) _ _ hv
      have sH5 : Same H (del H5 p) := sHc.trans (del_mono' s5)
      have nB : del H5 p p = none := del_same
      have sB5 : Same (del H5 p) H5 := del_in
      have sBm : ∀ {G : Hp}, Same H5 G → Same (del H5 p) (del G p) := fun s => del_mono' s
      generalize del H5 p = B0 at hl5 hws5 hv5 sH5 nB sB5 sBm
      clear hv sHc hws hl s5 nl
      have lws : ws.length = (plT d).length := (DpAll.length hws5).trans (List.length_map ..)
      refine ⟨_, rfl, v, d, B0, rfl, sB5, hv5, vd, by omega, fun H6 lf ys s6 nlf hlf hys => ?_⟩
      have lys : ys.length = (plT d).length := by rw [Pls.len hys, List.length_map]
      have bag6 := bag_same bag5 s6
      have hlf6 := lst_del bag6 hys hlf
      have hys6 := pls_del bag6 hys
      have sBC : Same B0 (del H6 p) := sBm s6
      have nC : del H6 p p = none := del_same
      have sC6 : Same (del H6 p) H6 := del_in
      have nlfB : B0 lf = none := sB5.free nlf
      generalize del H6 p = C at hlf6 hys6 sBC nC sC6
      clear hys hlf s6 nlf sBm
      have hA : DpAll K C ys ((plT d).map plD) := pls_dp hys6
      have pos : 1 ≤ (plT d).length := by
        obtain ⟨r, h1⟩ := plT_head d
        rw [h1]
        simp
      -- the first of each row
      have firsts : ∀ (G : Hp) (u0 u1 u2 u3 u5 u6 u7 u8 u9 u10 u11 u12 u13 u14 u15 : Option V) (R : VK), Same B0 G → (∀ G', Same G G' → R (.str (PyData.list ((plT d).map plD)).shown) G') →
          tCB (rRepr K) (tCons (tLc (iList K (tVar 4)) (gName 16) tYes (tOp (rIxT K) (tVar 16) (tC (.int 0))) ([(("_law_row" : Str), 16)].map (·.2))) tNil) [u0, u1, u2, u3, some (.ref l), u5, u6, u7, u8, u9, u10, u11, u12, u13, u14, u15, none] G R := by
        intro G u0 u1 u2 u3 u5 u6 u7 u8 u9 u10 u11 u12 u13 u14 u15 R sG hR
        refine ⟨_, rfl, l, rfl, ⟨ws, SqL.of (sG _ _ hl5)⟩, fun D nD => lc_list (K := K) (a := l) (xs := ws) (fun j H' => LcG K (fun G => del G D) G D (((plT d).take j).map plD) H') (lcg_start nD) (fun j H' hj L => SqL.of (L.sm _ _ (sG _ _ hl5))) ?_ ?_⟩
        · rintro j x H' hx L'
          obtain ⟨dd', hdd, hxd⟩ := DpAll.get hws5 hx
          obtain ⟨t, ht, rfl⟩ := get_map hdd
          obtain ⟨qx, x1, x2, rfl, hq, g1, g2⟩ := row_open hxd
          refine ⟨rfl, tyes_in (iteT ⟨.ref qx, rfl, qx, _, _, x1, rfl, rfl, same_sqt (sG.trans L'.sm) hq, atI_nat (j := 0) rfl, lcg_push blind_del L' nD (Same.refl _) (dp_same (sG.trans (del_out nD L'.sm)) _ _ g1) (take_map1 ht) ?_⟩)⟩
          rw [List.length_map, List.length_take]
          omega
        · rintro G' L'
          rw [lws, List.take_length] at L'
          exact ⟨.ref D, _, rfl, L'.dpd, shp.s, shp.n, shp.z, shp.l, hR G' L'.sm⟩
      -- repr of the places
      refine ⟨fun σ' G' => σ' = [some (.ref a0), some (.int i), some (.ref p), some v, some (.ref l), some (.str d.shown), some (.ref lf), y7, y8, y9, y10, y11, y12, y13, y14, y15, none] ∧ Same C G' ∧ BagAt G' p, ?_, ?_⟩
      · have hP6 : Dp K H6 (.ref lf) (.list ((plT d).map plD)) := dp_same sC6 _ _ (.lst (SqL.of hlf6) hA)
        refine ⟨_, rfl, .ref lf, _, rfl, hP6, shp.s, shp.n, shp.z, shp.l, ?_⟩
        refine firsts H6 _ _ _ _ _ _ _ _ _ _ _ _ _ _ _ _ (sBC.trans sC6) fun G' s7 => ?_
        refine ⟨rfl, _, rfl, iteF' (by rw [decide_eq_true rfl]; rfl) ?_⟩
        have hP7 := dp_same s7 _ _ hP6
        refine ⟨_, rfl, lf, ys, (plT d).map (fun t => ofN t.1), rfl, SqL.of (s7 _ _ (sC6 _ _ hlf6)), by rw [lys, List.length_map], fun j x hx => ?_, ?_, ?_, fun p1 n1 => ?_⟩
        · obtain ⟨tq, q', rfl, hq, hpi⟩ := Pls.get hys6 hx
          obtain ⟨t, ht, rfl⟩ := get_map hpi
          refine ⟨tq, ofN t.1, by rw [List.getElem?_map, ht]; rfl, rfl, SqT.of ?_⟩
          have : (ofN t.1).map V.int = natV t.1 := by simp [ofN, natV]
          rw [this]
          exact s7 _ _ (sC6 _ _ hq)
        · obtain ⟨r, h1⟩ := plT_head d
          rw [h1]
          rfl
        · exact List.pairwise_map.mpr (plT_asc d)
        · refine ⟨.ref p1, .list ((plT d).map plD), rfl, .lst (SqL.of upd_same) (dpAll_same ((sC6.trans s7).trans (same_upd n1)) _ _ hA), shp.s, shp.n, shp.z, shp.l, ?_⟩
          exact ⟨_, rfl, .ref lf, _, rfl, dp_same (same_upd n1) _ _ hP7, shp.s, shp.n, shp.z, shp.l, rfl, _, rfl, iteF' (by rw [decide_eq_true rfl]; rfl) ⟨rfl, sC6.trans (s7.trans (same_upd n1)), bag_same bag6 (s7.trans (same_upd n1))⟩⟩
      rintro σ' G ⟨rfl, sG, bagG⟩
      have hrow : ∀ x ∈ ws, ∃ t, t ∈ plT d ∧ Dp K B0 x (rowD t) := fun x hx => by
        obtain ⟨j, hj⟩ := List.getElem?_of_mem hx
        obtain ⟨dd', hdd, hxd⟩ := DpAll.get hws5 hj
        obtain ⟨t, ht, rfl⟩ := get_map hdd
        exact ⟨t, List.mem_of_getElem? ht, hxd⟩
      have hvC := dp_same sBC _ _ hv5
      refine ⟨fun σ' G' => ∃ z7 z8 z9 z10 z11, σ' = [some (.ref a0), some (.int i), some (.ref p), some v, some (.ref l), some (.str d.shown), some (.ref lf), z7, z8, z9, z10, z11, y12, y13, y14, y15, none] ∧ Same C G' ∧ BagAt G' p, ?_, ?_⟩
      · have fit : ∀ {n : Nat}, n ≤ 20000 → n ≤ sizeLine := fun h => Nat.le_trans h (by decide)
        have hlC : ∀ {G' : Hp}, Same C G' → SqL K G' l ws := fun s => SqL.of (s _ _ (sBC _ _ hl5))
        refine ⟨_, rfl, 120, rfl, l, ws, rfl, hlC sG, fun c1 n1 => ?_⟩
        have t1 : Same C (upd G c1 (.lst (cutV ws none (some 120)))) := sG.trans (same_upd n1)
        have h1 : (upd G c1 (.lst (cutV ws none (some 120)))) c1 = some (.lst (cutV ws none (some 120))) := upd_same
        have bg1 := bag_same bagG (same_upd (o := .lst (cutV ws none (some 120))) n1)
        generalize upd G c1 (.lst (cutV ws none (some 120))) = Ga at t1 h1 bg1
        refine ⟨_, rfl, 20, rfl, -20, rfl, l, ws, rfl, hlC t1, fun c2 n2 => ?_⟩
        have t2 : Same Ga (upd Ga c2 (.lst (cutV ws (some (-20)) none))) := same_upd n2
        have h2 : (upd Ga c2 (.lst (cutV ws (some (-20)) none))) c2 = some (.lst (cutV ws (some (-20)) none)) := upd_same
        generalize upd Ga c2 (.lst (cutV ws (some (-20)) none)) = Gb at t2 h2
        refine ⟨c1, c2, _, _, rfl, rfl, t2 _ _ h1, h2, fit (by have := len_cutV (xs := ws) (lo := none) (hi := some 120); have := len_cutV (xs := ws) (lo := some (-20)) (hi := none); omega), fun c3 n3 => ?_⟩
        have t3 : Same C (upd Gb c3 (.lst (cutV ws none (some 120) ++ cutV ws (some (-20)) none))) := (t1.trans t2).trans (same_upd n3)
        have bg3 := bag_same (bag_same bg1 t2) (same_upd (o := .lst (cutV ws none (some 120) ++ cutV ws (some (-20)) none)) n3)
        have h3 : (upd Gb c3 (.lst (cutV ws none (some 120) ++ cutV ws (some (-20)) none))) c3 = some (.lst (cutV ws none (some 120) ++ cutV ws (some (-20)) none)) := upd_same
        generalize upd Gb c3 (.lst (cutV ws none (some 120) ++ cutV ws (some (-20)) none)) = Gc at t3 h3 bg3
        have hw3 : ∀ x ∈ cutV ws none (some 120) ++ cutV ws (some (-20)) none, ∃ t, t ∈ plT d ∧ Dp K B0 x (rowD t) := fun x hx => by
          rcases List.mem_append.mp hx with z | z
          · exact hrow x (mem_cut z)
          · exact hrow x (mem_cut z)
        generalize cutV ws none (some 120) ++ cutV ws (some (-20)) none = w3 at h3 hw3
        -- the rows that are asked, without the bag
        have h3' : del Gc p c3 = some (.lst w3) := by
          rw [del_ne (fun z => ?_)]
          · exact h3
          · obtain ⟨xa, xb, e⟩ := bg3
            rw [← z, h3] at e
            cases e
            obtain ⟨t, _, ht⟩ := hw3 _ List.mem_cons_self
            cases ht
        have t3' : Same C (del Gc p) := del_out nC t3
        have nD3 : del Gc p p = none := del_same
        have sD3 : Same (del Gc p) Gc := del_in
        generalize del Gc p = E3 at h3' t3' nD3 sD3
        refine ⟨c3, rfl, ⟨w3, SqL.of h3⟩, for_list (K := K) (a := c3) (xs := w3) (fun j σ H7 => ∃ z7 z8 z9 z10 z11, σ = [some (.ref a0), some (.int i), some (.ref p), some v, some (.ref l), some (.str d.shown), some (.ref lf), z7, z8, z9, z10, z11, y12, y13, y14, y15, none] ∧ Same E3 H7 ∧ BagAt H7 p) ⟨_, _, _, _, _, rfl, sD3, bg3⟩ (fun j σ H7 hj ⟨_, _, _, _, _, _, s7, _⟩ => SqL.of (s7 _ _ h3')) ?_ ?_⟩
        · rintro j x σ H7 hx ⟨z7, z8, z9, z10, z11, rfl, s7, bag7⟩
          obtain ⟨t, ht, hxd⟩ := hw3 x (List.mem_of_getElem? hx)
          obtain ⟨qx, x1, x2, rfl, hq, g1, g2⟩ := row_open hxd
          obtain ⟨o1, o2, o3, o4⟩ := plT_ok d vd t ht
          obtain ⟨vt, zt, dt⟩ := at_val _ _ _ o1 vd
          have sC7 : Same C H7 := t3'.trans s7
          refine ⟨qx, _, rfl, same_sqt (sBC.trans sC7) hq, rfl, _, _, rfl, _, _, rfl, _, _, rfl, rfl, ?_⟩
          refine ⟨_, rfl, x2, .ty "list", .type (tyD t.2.1), .type "list", _, rfl, .ty _, dp_ty (dp_same (sBC.trans sC7) _ _ g2), kitL t.2.1 K, .inr ⟨_, rfl, _, _, rfl, rfl, ?_⟩⟩
          have hrg : ∀ b : Bool, (0 : Int) ≤ 1 + (if b = true then 1 else 0) ∧ (1 + (if b = true then 1 else 0) : Int) ≤ 2 := fun b => by cases b <;> decide
          obtain ⟨r1', r2'⟩ := hrg (tyD t.2.1 == "list")
          refine ⟨_, rfl, by omega, by omega, for_range (lo := 0) (fun m σ H8 => ∃ z10 z11, σ = [some (.ref a0), some (.int i), some (.ref p), some v, some (.ref l), some (.str d.shown), some (.ref lf), some x1, some x2, some (.bl t.2.2), z10, z11, y12, y13, y14, y15, none] ∧ Same E3 H8 ∧ BagAt H8 p) ⟨_, _, rfl, s7, bag7⟩ ?_ ?_⟩
          · rintro m σ H8 hm ⟨z10, z11, rfl, s8, bag8⟩
            have sC8 : Same C H8 := t3'.trans s8
            refine ⟨_, rfl, _, rfl, v, x1, d, plD t, C, rfl, sC8, hvC, dp_same sBC _ _ g1, vd, by omega, ?_, fun ks e' hk he' H9 l9 x9 S9 s9 nl9 hl9 tr9 nw9 lS9 => ?_, fun z => (fd_at o1 z).elim⟩
            · have := (pl_sm vd (by omega) dd ht).len
              simp only [plD, nd, nd_nats]
              omega
            obtain rfl := PyData.tuple.inj hk
            obtain rfl : t.2.1 = e' := Option.some.inj (o1.symm.trans he')
            have sht := told_sh vt (by omega) (by omega) t.2.2
            rw [o2] at hl9
            refine ⟨_, rfl, .ref l9, .list [t.2.1, .bool t.2.2], rfl, .lst (SqL.of hl9) (.cons (Tr.dp tr9) (.cons (.bl _) .nil)), sht.s, sht.n, sht.z, sht.l, _, rfl, _, rfl, (by show 2 ≤ sizeLine; decide), fun l10 n10 => ?_⟩
            have sx : Same H9 (upd H9 l10 (.lst [x2, .bl t.2.2])) := same_upd n10
            refine ⟨.ref l10, .list [t.2.1, .bool t.2.2], rfl, .lst (SqL.of upd_same) (.cons (dp_same (sBC.trans (sC8.trans (s9.trans sx))) _ _ g2) (.cons (.bl _) .nil)), sht.s, sht.n, sht.z, sht.l, rfl, _, rfl, iteF' (by rw [decide_eq_true rfl]; rfl) ?_⟩
            refine ⟨_, rfl, l9, _, _, x9, rfl, rfl, SqL.of (sx _ _ hl9), atI_nat (j := 0) rfl, x9, t.2.1, S9, rfl, Tr.frame tr9 fun b hb o e => sx _ _ e, by omega, by have := nd_sz _ vt; omega, fun H11 k11 => ⟨_, _, rfl, fun b o e => ?_, ?_⟩⟩
            · refine k11 b o (fun z => ?_) (sx _ _ (s9 _ _ (s8 _ _ e)))
              have := nw9 b z
              rw [s8 _ _ e] at this
              cases this
            · obtain ⟨xa, xb, e⟩ := bag8
              refine ⟨xa, xb, k11 p _ (fun z => ?_) (sx _ _ (s9 _ _ e))⟩
              have := nw9 p z
              rw [e] at this
              cases this
          · rintro σ H8 ⟨z10, z11, rfl, s8, bag8⟩
            exact ⟨_, _, _, _, _, rfl, s8, bag8⟩
        · rintro σ H7 ⟨z7, z8, z9, z10, z11, rfl, s7, bag7⟩
          exact ⟨z7, z8, z9, z10, z11, rfl, t3'.trans s7, bag7⟩
      rintro σ' G1 ⟨z7, z8, z9, z10, z11, rfl, sG1, bagG1⟩
      refine ⟨fun σ' G' => ∃ z12 z13 z14 z15, σ' = [some (.ref a0), some (.int i), some (.ref p), some v, some (.ref l), some (.str d.shown), some (.ref lf), z7, z8, z9, z10, z11, z12, z13, z14, z15, none] ∧ Same C G', ?_, ?_⟩
      · refine ⟨20, rfl, by decide, by decide, for_range (lo := 0) (n := 20) (fun m σ H7 => ∃ z12 z13 z14 z15, σ = [some (.ref a0), some (.int i), some (.ref p), some v, some (.ref l), some (.str d.shown), some (.ref lf), z7, z8, z9, z10, z11, z12, z13, z14, z15, none] ∧ Same C H7 ∧ BagAt H7 p) ⟨_, _, _, _, rfl, sG1, bagG1⟩ ?_ ?_⟩
        · rintro m σ H7 hm ⟨z12, z13, z14, z15, rfl, s7, bag7⟩
          refine ⟨_, rfl, _, rfl, p, lf, ys, (plT d).map (·.1), C, rfl, ⟨s7, fun b o _ e => e, bag7, nC⟩, SqL.of hlf6, ?_, ?_, ?_, ?_, fun G8 y pl g8 hy th => ?_⟩
          · rw [List.map_map]
            exact hA
          · intro z
            have := congrArg List.length z
            rw [List.length_map, List.length_nil] at this
            omega
          · rw [List.length_map]
            omega
          · intro q' hq'
            obtain ⟨t, ht, rfl⟩ := List.mem_map.mp hq'
            exact pl_sm vd (by omega) dd ht
          have hyG : Dp K G8 y pl := dp_same del_in _ _ hy
          have s8 := g8.sv
          have shy := th_sh th
          refine ⟨_, rfl, l, rfl, ⟨ws, SqL.of (s8 _ _ (sBC _ _ hl5))⟩, fun D nD => lc_list (K := K) (a := l) (xs := ws) (fun j H' => LcG K (fun G => del G D) G8 D ((((plT d).take j).filter fun t => decide ((plD t).shown = pl.shown)).map rowD) H') (lcg_start nD) (fun j H' hj L => SqL.of (L.sm _ _ (s8 _ _ (sBC _ _ hl5)))) ?_ ?_⟩
          · rintro j x H' hx L'
            obtain ⟨dd', hdd, hxd⟩ := DpAll.get hws5 hx
            obtain ⟨t, ht, rfl⟩ := get_map hdd
            obtain ⟨qx, x1, x2, rfl, hq, g1, g2⟩ := row_open hxd
            have tf := take_filt (p := fun t : Pt => decide ((plD t).shown = pl.shown)) (g := rowD) ht
            have lF := len_filt (p := fun t : Pt => decide ((plD t).shown = pl.shown)) (g := rowD) (l := plT d) (i := j)
            have sBG : Same B0 H' := sBC.trans (s8.trans L'.sm)
            have sm1 := pl_sm vd (by omega) dd (List.mem_of_getElem? ht)
            have sh1 : Sh (plD t) := th_sh (th_tuple (sm_th sm1) (by have := sm1.len; simp [natD]; omega))
            refine ⟨rfl, .ref qx, rfl, qx, _, _, x1, rfl, rfl, same_sqt sBG hq, atI_nat (j := 0) rfl, x1, plD t, rfl, dp_same sBG _ _ g1, sh1.s, sh1.n, sh1.z, sh1.l, _, rfl, y, pl, rfl, dp_same L'.sm _ _ hyG, shy.s, shy.n, shy.z, shy.l, rfl, _, rfl, ?_⟩
            by_cases c : (plD t).shown = pl.shown
            · refine iteT' (decide_eq_true (congrArg V.str c)) ⟨_, rfl, lcg_push blind_del L' nD (Same.refl _) (dp_same (sBC.trans (s8.trans (del_out nD L'.sm))) _ _ hxd) ?_ (by omega)⟩
              rw [tf, decide_eq_true c]
              rfl
            · refine iteF' (decide_eq_false fun z => c (V.str.inj z)) (lcg_skip blind_del L' (Same.refl _) ?_)
              rw [tf, decide_eq_false c]
              simp
          rintro G9 L9
          rw [lws, List.take_length] at L9
          have hD9 := L9.dpd
          have s9 := L9.sm
          clear L9
          have hval : ∀ t ∈ (plT d).filter (fun t => decide ((plD t).shown = pl.shown)), t ∈ plT d ∧ (plD t).shown = pl.shown := fun t h => ⟨(List.mem_filter.mp h).1, of_decide_eq_true (List.mem_filter.mp h).2⟩
          have hno : (plT d).filter (fun t => decide ((plD t).shown = pl.shown)) = [] → foundD d pl = none := fun h => by
            cases hf : foundD d pl with
            | none => rfl
            | some e =>
              exfalso
              obtain ⟨ks, rfl, ha⟩ := found_at hf
              obtain ⟨t, ht, hk⟩ := at_mem ks d e ha
              have : t ∈ (plT d).filter (fun t => decide ((plD t).shown = (PyData.tuple ks).shown)) := List.mem_filter.mpr ⟨ht, decide_eq_true (by unfold plD; rw [hk])⟩
              rw [h] at this
              cases this
          generalize (plT d).filter (fun t => decide ((plD t).shown = pl.shown)) = ts at hD9 hval hno
          have hsh : SeqAt.shaped (.list (ts.map rowD)) = true := by
            obtain ⟨b1, b2⟩ := rows_lay (d := d) ts fun t ht => by
              obtain ⟨o1, _⟩ := plT_ok d vd t (hval t ht).1
              obtain ⟨vt, _, dt⟩ := at_val _ _ _ o1 vd
              exact ⟨vt, by omega⟩
            unfold SeqAt.shaped
            rw [Bool.and_eq_true]
            refine ⟨by simp only [PyData.canLay0, b1], decide_eq_true ?_⟩
            simp only [PyData.depth]
            omega
          refine ⟨fun σ' G' => ∃ dl, σ' = [some (.ref a0), some (.int i), some (.ref p), some v, some (.ref l), some (.str d.shown), some (.ref lf), z7, z8, z9, z10, z11, some (.int (0 + (m : Int))), some y, some (.ref D), some (.ref dl), none] ∧ Same G9 G' ∧ Dp K G' (.ref dl) (dueOf d pl), ?_, ?_⟩
          · refine ⟨_, rfl, by decide, fun l0 n0 => ⟨_, .list [], dp_same (same_upd n0) _ _ hD9, .lst (SqL.of upd_same) .nil, hsh, by decide +kernel, _, rfl, ?_⟩⟩
            have s10 : Same G9 (upd G9 l0 (.lst [])) := same_upd n0
            generalize upd G9 l0 (.lst []) = Ga at s10
            have sCa : Same C Ga := s8.trans (s9.trans s10)
            have hya : Dp K Ga y pl := dp_same (s9.trans s10) _ _ hyG
            cases ts with
            | nil =>
              refine iteF' rfl ⟨_, rfl, (by show 4 ≤ sizeLine; decide), fun l1 n1 => ⟨_, rfl, (by show 2 ≤ sizeLine; decide), fun l2 n2 => ⟨(by show 2 ≤ sizeLine; decide), fun l3 n3 => ⟨l3, rfl, s10.trans (((same_upd n1).trans (same_upd n2)).trans (same_upd n3)), ?_⟩⟩⟩⟩
              rw [due_none (hno rfl)]
              have k1 := ((same_upd (o := .lst [.str "no", y]) n2).trans (same_upd (o := .lst [.ref l1, .ref l2]) n3)) _ _ (upd_same (H := Ga) (a := l1) (o := .lst [.str "no", y, .bl true, .bl false]))
              have k2 := same_upd (o := .lst [.ref l1, .ref l2]) n3 _ _ (upd_same (H := upd Ga l1 (.lst [.str "no", y, .bl true, .bl false])) (a := l2) (o := .lst [.str "no", y]))
              have hy3 := dp_same (((same_upd (o := .lst [.str "no", y, .bl true, .bl false]) n1).trans (same_upd (o := .lst [.str "no", y]) n2)).trans (same_upd (o := .lst [.ref l1, .ref l2]) n3)) _ _ hya
              exact .lst (SqL.of upd_same) (.cons (.lst (SqL.of k1) (.cons (.str _) (.cons hy3 (.cons (.bl _) (.cons (.bl _) .nil))))) (.cons (.lst (SqL.of k2) (.cons (.str _) (.cons hy3 .nil))) .nil))
            | cons t0 r =>
              obtain ⟨m0, e0'⟩ := hval t0 List.mem_cons_self
              have epl : plD t0 = pl := shown_inj (pl_al t0) th.al e0'
              obtain ⟨o1, o2, _, _⟩ := plT_ok d vd t0 m0
              obtain ⟨aD, us, eD, hSD, hAD⟩ := dp_items (dp_same s10 _ _ hD9)
              cases eD
              cases hAD with
              | @cons x0 us' _ _ hx0 _ =>
                obtain ⟨qx, x1, x2, rfl, hq, g1, g2⟩ := row_open hx0
                refine iteT' rfl ⟨_, rfl, D, _, _, .ref qx, rfl, rfl, hSD, atI_nat (j := 0) rfl, qx, _, _, x2, rfl, rfl, hq, atI_nat (j := 1) rfl, _, rfl, D, _, _, .ref qx, rfl, rfl, hSD, atI_nat (j := 0) rfl, qx, _, _, .bl t0.2.2, rfl, rfl, hq, atI_nat (j := 2) rfl, (by show 2 ≤ sizeLine; decide), fun l1 n1 => ⟨l1, rfl, s10.trans (same_upd n1), ?_⟩⟩
                rw [← epl]
                unfold plD
                rw [due_some o1, o2]
                exact .lst (SqL.of upd_same) (.cons (dp_same (same_upd n1) _ _ g2) (.cons (.bl _) .nil))
          rintro σ' Gb ⟨dl, rfl, s10, hdl⟩
          have sCb : Same C Gb := s8.trans (s9.trans s10)
          have bgb := bag_same g8.bg (s9.trans s10)
          refine ⟨_, rfl, _, rfl, v, y, d, pl, Gb, rfl, Same.refl _, dp_same sCb _ _ hvC, dp_same (s9.trans s10) _ _ hyG, vd, by omega, by have := th.nd; omega, fun ks e' hk he' H9 l9 x9 S9 s11 nl9 hl9 tr9 nw9 lS9 => ?_, fun hn9 H9 t9 s11 ht9 => ?_⟩
          · subst hk
            rw [due_some he'] at hdl
            obtain ⟨ve, ze, de⟩ := at_val _ _ _ he' vd
            have sht := told_sh ve (by omega) (by omega) (tornD d ks)
            exact ⟨.ref l9, _, rfl, .lst (SqL.of hl9) (.cons (Tr.dp tr9) (.cons (.bl _) .nil)), sht.s, sht.n, sht.z, sht.l, _, rfl, .ref dl, _, rfl, dp_same s11 _ _ hdl, sht.s, sht.n, sht.z, sht.l, rfl, _, rfl, iteF' (by rw [decide_eq_true rfl]; rfl) ⟨_, _, _, _, rfl, sCb.trans s11, bag_same bgb s11⟩⟩
          · rw [due_none hn9] at hdl
            have sht := no_sh th
            exact ⟨.ref t9, _, rfl, ht9, sht.s, sht.n, sht.z, sht.l, _, rfl, .ref dl, _, rfl, dp_same s11 _ _ hdl, sht.s, sht.n, sht.z, sht.l, rfl, _, rfl, iteF' (by rw [decide_eq_true rfl]; rfl) ⟨_, _, _, _, rfl, sCb.trans s11, bag_same bgb s11⟩⟩
        · rintro σ H7 ⟨z12, z13, z14, z15, rfl, s7, bag7⟩
          exact ⟨_, _, _, _, rfl, s7⟩
      rintro σ' G2 ⟨z12, z13, z14, z15, rfl, sG2⟩
      have hlf2 := sG2 _ _ hlf6
      refine ⟨_, rfl, .inl ⟨rfl, _, SqL.of hlf2⟩, by decide, fun t1 n1 => ⟨lf, ys, .ref t1, rfl, rfl, same_upd n1 _ _ hlf2, Nat.lt_of_le_of_lt (show ys.length ≤ 1000 by omega) (by decide), ?_⟩⟩
      have sE : Same B0 (upd (upd G2 t1 (.tup [])) lf (.lst (ys ++ [.ref t1]))) := same_fresh nlfB (sBC.trans (sG2.trans (same_upd n1)))
      generalize upd (upd G2 t1 (.tup [])) lf (.lst (ys ++ [.ref t1])) = G3 at sE
      refine ⟨_, rfl, v, d, B0, rfl, sE, hv5, vd, by omega, fun G4 l4 ys4 s4 nl4 hl4 hys4 => ⟨.ref l4, .list ((plT d).map plD), rfl, .lst (SqL.of hl4) (pls_dp hys4), shp.s, shp.n, shp.z, shp.l, ?_⟩⟩
      refine firsts G4 _ _ _ _ _ _ _ _ _ _ _ _ _ _ _ _ (sE.trans s4) fun G5 s5 => ?_
      refine ⟨rfl, _, rfl, iteF' (by rw [decide_eq_true rfl]; rfl) ?_⟩
      have sE5 := (sE.trans s4).trans s5
      exact ⟨_, rfl, v, d, rfl, dp_same sE5 _ _ hv5, shd.s, shd.n, shd.z, shd.l, _, rfl, rfl, _, rfl, iteF' (by rw [decide_eq_true rfl]; rfl) ⟨_, _, _, _, _, _, _, _, _, _, _, _, _, _, _, rfl, sH5.trans sE5⟩⟩
    · rintro σ H1 ⟨y1, y2, y3, y4, y5, y6, y7, y8, y9, y10, y11, y12, y13, y14, y15, rfl, sm⟩
      exact q H1
end
end TX
namespace TX
open PySem PySem.Spec PyProof.Rows L2
theorem all_mk {P : Program} {w : World} {K : PySem.W.Frag} {h : Heap} {mg : Str → Option Value} {fa TE f0 f1 f2 f3 f4 f5 f6 f7 f8 f9 f10 f11 f12 f13 f14 f15 f16 f17 f18 NP BV fP : Addr} (X : K.In h) (G : h.Ns mainGlobals mg) (hfa : mg "law" = some (.ref fa))
    {od0 an0 : Option Addr} {sl0 : Array (Option Value)} {oc0 kV0 dc0 pm0 cd0 ct0 : Value}
    {od1 an1 : Option Addr} {sl1 : Array (Option Value)} {oc1 kV1 dc1 pm1 cd1 ct1 : Value}
    {od2 an2 : Option Addr} {sl2 : Array (Option Value)} {oc2 kV2 dc2 pm2 cd2 ct2 : Value}
    {od3 an3 : Option Addr} {sl3 : Array (Option Value)} {oc3 kV3 dc3 pm3 cd3 ct3 : Value}
    {od4 an4 : Option Addr} {sl4 : Array (Option Value)} {oc4 kV4 dc4 pm4 cd4 ct4 : Value}
    {od5 an5 : Option Addr} {sl5 : Array (Option Value)} {oc5 kV5 dc5 pm5 cd5 ct5 : Value}
    {od6 an6 : Option Addr} {sl6 : Array (Option Value)} {oc6 kV6 dc6 pm6 cd6 ct6 : Value}
    {od7 an7 : Option Addr} {sl7 : Array (Option Value)} {oc7 kV7 dc7 pm7 cd7 ct7 : Value}
    {od8 an8 : Option Addr} {sl8 : Array (Option Value)} {oc8 kV8 dc8 pm8 cd8 ct8 : Value}
    {od9 an9 : Option Addr} {sl9 : Array (Option Value)} {oc9 kV9 dc9 pm9 cd9 ct9 : Value}
    {od10 an10 : Option Addr} {sl10 : Array (Option Value)} {oc10 kV10 dc10 pm10 cd10 ct10 : Value}
    {od11 an11 : Option Addr} {sl11 : Array (Option Value)} {oc11 kV11 dc11 pm11 cd11 ct11 : Value}
    {od12 an12 : Option Addr} {sl12 : Array (Option Value)} {oc12 kV12 dc12 pm12 cd12 ct12 : Value}
    {od13 an13 : Option Addr} {sl13 : Array (Option Value)} {oc13 kV13 dc13 pm13 cd13 ct13 : Value}
    {od14 an14 : Option Addr} {sl14 : Array (Option Value)} {oc14 kV14 dc14 pm14 cd14 ct14 : Value}
    {od15 an15 : Option Addr} {sl15 : Array (Option Value)} {oc15 kV15 dc15 pm15 cd15 ct15 : Value}
    {od16 an16 : Option Addr} {sl16 : Array (Option Value)} {oc16 kV16 dc16 pm16 cd16 ct16 : Value}
    {od17 an17 : Option Addr} {sl17 : Array (Option Value)} {oc17 kV17 dc17 pm17 cd17 ct17 : Value}
    {od18 an18 : Option Addr} {sl18 : Array (Option Value)} {oc18 kV18 dc18 pm18 cd18 ct18 : Value}
    {nmT qT : Str} {NT' : Addr} {bsT mrT : List Value} {hdT : Bool} {snT : List Str} {subT : List Value} {abT : Bool} {colT : Option Bool} {ddT : Option Addr} {m0T m1T m2T m3T m5T : Option Value}
    {nmNP qNP : Str} {NNP : Addr} {bsNP : List Value} {snNP : List Str} {subNP : List Value} {abNP : Bool} {colNP : Option Bool} {ddNP : Option Addr} {m0NP m1NP m2NP m3NP m5NP : Option Value}
    {nmBV qBV : Str} {NBV : Addr} {bsBV : List Value} {snBV : List Str} {subBV : List Value} {abBV : Bool} {colBV : Option Bool} {ddBV : Option Addr} {m0BV m1BV m2BV m3BV m5BV : Option Value}
    {odP anP : Option Addr} {slP : Array (Option Value)} {ocP kVP dcP pmP cdP ctP : Value}
    (a0 : PySem.W.nsIn K mainGlobals "all_parts" = some (some (.ref f0)))
    (l0 : K.lookup f0 = some ⟨oc0, od0, .func (PySem.W.fnOf "all_parts" "all_parts" (defArgs sParts) (defBody sParts) (defScope sParts) .none kV0 dc0 pm0 an0 cd0 ct0), sl0⟩)
    (c0 : PySem.W.codeIn K cd0 "all_parts" = true)
    (k0 : PySem.W.keepIn K (.ref f0) = true)
    (a1 : PySem.W.nsIn K mainGlobals "copy_of" = some (some (.ref f1)))
    (l1 : K.lookup f1 = some ⟨oc1, od1, .func (PySem.W.fnOf "copy_of" "copy_of" (defArgs sCopy) (defBody sCopy) (defScope sCopy) .none kV1 dc1 pm1 an1 cd1 ct1), sl1⟩)
    (c1 : PySem.W.codeIn K cd1 "copy_of" = true)
    (k1 : PySem.W.keepIn K (.ref f1) = true)
    (a2 : PySem.W.nsIn K mainGlobals "is_whole_number" = some (some (.ref f2)))
    (l2 : K.lookup f2 = some ⟨oc2, od2, .func (PySem.W.fnOf "is_whole_number" "is_whole_number" (defArgs s_is_whole_number) (defBody s_is_whole_number) (defScope s_is_whole_number) .none kV2 dc2 pm2 an2 cd2 ct2), sl2⟩)
    (c2 : PySem.W.codeIn K cd2 "is_whole_number" = true)
    (k2 : PySem.W.keepIn K (.ref f2) = true)
    (a3 : PySem.W.nsIn K mainGlobals "inner_of" = some (some (.ref f3)))
    (l3 : K.lookup f3 = some ⟨oc3, od3, .func (PySem.W.fnOf "inner_of" "inner_of" (defArgs s_inner_of) (defBody s_inner_of) (defScope s_inner_of) .none kV3 dc3 pm3 an3 cd3 ct3), sl3⟩)
    (c3 : PySem.W.codeIn K cd3 "inner_of" = true)
    (k3 : PySem.W.keepIn K (.ref f3) = true)
    (a4 : PySem.W.nsIn K mainGlobals "places_of" = some (some (.ref f4)))
    (l4 : K.lookup f4 = some ⟨oc4, od4, .func (PySem.W.fnOf "places_of" "places_of" (defArgs s_places_of) (defBody s_places_of) (defScope s_places_of) .none kV4 dc4 pm4 an4 cd4 ct4), sl4⟩)
    (c4 : PySem.W.codeIn K cd4 "places_of" = true)
    (k4 : PySem.W.keepIn K (.ref f4) = true)
    (a5 : PySem.W.nsIn K mainGlobals "found_at" = some (some (.ref f5)))
    (l5 : K.lookup f5 = some ⟨oc5, od5, .func (PySem.W.fnOf "found_at" "found_at" (defArgs s_found_at) (defBody s_found_at) (defScope s_found_at) .none kV5 dc5 pm5 an5 cd5 ct5), sl5⟩)
    (c5 : PySem.W.codeIn K cd5 "found_at" = true)
    (k5 : PySem.W.keepIn K (.ref f5) = true)
    (a6 : PySem.W.nsIn K mainGlobals "part_of" = some (some (.ref f6)))
    (l6 : K.lookup f6 = some ⟨oc6, od6, .func (PySem.W.fnOf "part_of" "part_of" (defArgs s_part_of) (defBody s_part_of) (defScope s_part_of) .none kV6 dc6 pm6 an6 cd6 ct6), sl6⟩)
    (c6 : PySem.W.codeIn K cd6 "part_of" = true)
    (k6 : PySem.W.keepIn K (.ref f6) = true)
    (a7 : PySem.W.nsIn K mainGlobals "is_torn" = some (some (.ref f7)))
    (l7 : K.lookup f7 = some ⟨oc7, od7, .func (PySem.W.fnOf "is_torn" "is_torn" (defArgs s_is_torn) (defBody s_is_torn) (defScope s_is_torn) .none kV7 dc7 pm7 an7 cd7 ct7), sl7⟩)
    (c7 : PySem.W.codeIn K cd7 "is_torn" = true)
    (k7 : PySem.W.keepIn K (.ref f7) = true)
    (a8 : PySem.W.nsIn K mainGlobals "_law_bag" = some (some (.ref f8)))
    (l8 : K.lookup f8 = some ⟨oc8, od8, .func (PySem.W.fnOf "_law_bag" "_law_bag" (defArgs sBag) (defBody sBag) (defScope sBag) .none kV8 dc8 pm8 an8 cd8 ct8), sl8⟩)
    (c8 : PySem.W.codeIn K cd8 "_law_bag" = true)
    (k8 : PySem.W.keepIn K (.ref f8) = true)
    (a9 : PySem.W.nsIn K mainGlobals "_law_take" = some (some (.ref f9)))
    (l9 : K.lookup f9 = some ⟨oc9, od9, .func (PySem.W.fnOf "_law_take" "_law_take" (defArgs sTake) (defBody sTake) (defScope sTake) .none kV9 dc9 pm9 an9 cd9 ct9), sl9⟩)
    (c9 : PySem.W.codeIn K cd9 "_law_take" = true)
    (k9 : PySem.W.keepIn K (.ref f9) = true)
    (a10 : PySem.W.nsIn K mainGlobals "_law_text" = some (some (.ref f10)))
    (l10 : K.lookup f10 = some ⟨oc10, od10, .func (PySem.W.fnOf "_law_text" "_law_text" (defArgs sText) (defBody sText) (defScope sText) .none kV10 dc10 pm10 an10 cd10 ct10), sl10⟩)
    (c10 : PySem.W.codeIn K cd10 "_law_text" = true)
    (k10 : PySem.W.keepIn K (.ref f10) = true)
    (a11 : PySem.W.nsIn K mainGlobals "_law_size" = some (some (.ref f11)))
    (l11 : K.lookup f11 = some ⟨oc11, od11, .func (PySem.W.fnOf "_law_size" "_law_size" (defArgs sSize) (defBody sSize) (defScope sSize) .none kV11 dc11 pm11 an11 cd11 ct11), sl11⟩)
    (c11 : PySem.W.codeIn K cd11 "_law_size" = true)
    (k11 : PySem.W.keepIn K (.ref f11) = true)
    (a12 : PySem.W.nsIn K mainGlobals "_law_value" = some (some (.ref f12)))
    (l12 : K.lookup f12 = some ⟨oc12, od12, .func (PySem.W.fnOf "_law_value" "_law_value" (defArgs sValue) (defBody sValue) (defScope sValue) .none kV12 dc12 pm12 an12 cd12 ct12), sl12⟩)
    (c12 : PySem.W.codeIn K cd12 "_law_value" = true)
    (k12 : PySem.W.keepIn K (.ref f12) = true)
    (a13 : PySem.W.nsIn K mainGlobals "_law_great" = some (some (.ref f13)))
    (l13 : K.lookup f13 = some ⟨oc13, od13, .func (PySem.W.fnOf "_law_great" "_law_great" (defArgs sGreat) (defBody sGreat) (defScope sGreat) .none kV13 dc13 pm13 an13 cd13 ct13), sl13⟩)
    (c13 : PySem.W.codeIn K cd13 "_law_great" = true)
    (k13 : PySem.W.keepIn K (.ref f13) = true)
    (a14 : PySem.W.nsIn K mainGlobals "_law_rows" = some (some (.ref f14)))
    (l14 : K.lookup f14 = some ⟨oc14, od14, .func (PySem.W.fnOf "_law_rows" "_law_rows" (defArgs s__law_rows) (defBody s__law_rows) (defScope s__law_rows) .none kV14 dc14 pm14 an14 cd14 ct14), sl14⟩)
    (c14 : PySem.W.codeIn K cd14 "_law_rows" = true)
    (k14 : PySem.W.keepIn K (.ref f14) = true)
    (a15 : PySem.W.nsIn K mainGlobals "_law_spoil" = some (some (.ref f15)))
    (l15 : K.lookup f15 = some ⟨oc15, od15, .func (PySem.W.fnOf "_law_spoil" "_law_spoil" (defArgs sSpoil) (defBody sSpoil) (defScope sSpoil) .none kV15 dc15 pm15 an15 cd15 ct15), sl15⟩)
    (c15 : PySem.W.codeIn K cd15 "_law_spoil" = true)
    (k15 : PySem.W.keepIn K (.ref f15) = true)
    (a16 : PySem.W.nsIn K mainGlobals "_law_asked" = some (some (.ref f16)))
    (l16 : K.lookup f16 = some ⟨oc16, od16, .func (PySem.W.fnOf "_law_asked" "_law_asked" (defArgs s__law_asked) (defBody s__law_asked) (defScope s__law_asked) .none kV16 dc16 pm16 an16 cd16 ct16), sl16⟩)
    (c16 : PySem.W.codeIn K cd16 "_law_asked" = true)
    (k16 : PySem.W.keepIn K (.ref f16) = true)
    (a17 : PySem.W.nsIn K mainGlobals "_law_thing" = some (some (.ref f17)))
    (l17 : K.lookup f17 = some ⟨oc17, od17, .func (PySem.W.fnOf "_law_thing" "_law_thing" (defArgs s__law_thing) (defBody s__law_thing) (defScope s__law_thing) .none kV17 dc17 pm17 an17 cd17 ct17), sl17⟩)
    (c17 : PySem.W.codeIn K cd17 "_law_thing" = true)
    (k17 : PySem.W.keepIn K (.ref f17) = true)
    (a18 : PySem.W.nsIn K mainGlobals "law" = some (some (.ref f18)))
    (l18 : K.lookup f18 = some ⟨oc18, od18, .func (PySem.W.fnOf "law" "law" (defArgs sLaw) (defBody sLaw) (defScope sLaw) .none kV18 dc18 pm18 an18 cd18 ct18), sl18⟩)
    (c18 : PySem.W.codeIn K cd18 "law" = true)
    (k18 : PySem.W.keepIn K (.ref f18) = true)
    (aTE : PySem.W.nsIn K mainGlobals "TextorlistError" = some (some (.ref TE)))
    (lTE : K.lookup TE = some (excClassObj nmT qT TE NT' bsT mrT hdT snT subT abT colT ddT m0T m1T m2T m3T m5T "ValueError.__new__"))
    (tTE : PySem.W.typeIn K (.ref TE) = some (.type "type"))
    (hn : PySem.W.specialIn K (.builtin "object.__class__") "__get__" = some (some (.builtin "getset_descriptor.__get__")))
    (ht : PySem.W.takesIn K (.builtin "object.__class__") = some true)
    (aCNP : PySem.W.nsIn K mainGlobals "NoPlace" = some (some (.ref NP)))
    (xNP : K.lookup NP = some (excClassObj nmNP qNP NP NNP bsNP [.ref TE, .type "ValueError", .type "Exception", .type "BaseException", .type "object"] true snNP subNP abNP colNP ddNP m0NP m1NP m2NP m3NP m5NP "ValueError.__new__"))
    (saNP : PySem.W.findIn K (.ref NP) "__setattr__" = some (some (.builtin "object.__setattr__")))
    (gaNP : PySem.W.findIn K (.ref NP) "__getattribute__" = some (some (.builtin "BaseException.__getattribute__")))
    (ggNP : PySem.W.findIn K (.ref NP) "__getattr__" = some none)
    (haNP : PySem.W.findIn K (.ref NP) "__class__" = some (some (.builtin "object.__class__")))
    (kcNP : PySem.W.keepIn K (.ref NP) = true)
    (aCBV : PySem.W.nsIn K mainGlobals "BadValue" = some (some (.ref BV)))
    (xBV : K.lookup BV = some (excClassObj nmBV qBV BV NBV bsBV [.ref TE, .type "ValueError", .type "Exception", .type "BaseException", .type "object"] true snBV subBV abBV colBV ddBV m0BV m1BV m2BV m3BV m5BV "ValueError.__new__"))
    (saBV : PySem.W.findIn K (.ref BV) "__setattr__" = some (some (.builtin "object.__setattr__")))
    (gaBV : PySem.W.findIn K (.ref BV) "__getattribute__" = some (some (.builtin "BaseException.__getattribute__")))
    (ggBV : PySem.W.findIn K (.ref BV) "__getattr__" = some none)
    (haBV : PySem.W.findIn K (.ref BV) "__class__" = some (some (.builtin "object.__class__")))
    (kcBV : PySem.W.keepIn K (.ref BV) = true)
    (aP : PySem.W.findIn K (.ref NP) "__init__" = some (some (.ref fP)))
    (lP : K.lookup fP = some ⟨ocP, odP, .func (PySem.W.fnOf "__init__" "NoPlace.__init__" (defArgs mNoPlace_init) (defBody mNoPlace_init) (defScope mNoPlace_init) .none kVP dcP pmP anP cdP ctP), slP⟩)
    (cP : PySem.W.codeIn K cdP "NoPlace.__init__" = true)
    (kP : PySem.W.keepIn K (.ref fP) = true)
    (nP : PySem.W.findIn K (.ref NP) "place" = some none)
    (tP : PySem.W.typeIn K (.ref fP) = some (.type "function"))
    (n1 : NP ≠ TE)
    (n2 : NP ≠ BV)
    (n3 : BV ≠ TE)
    (zisinstance : PySem.W.nsIn K mainGlobals "isinstance" = some none)
    (zlist : PySem.W.nsIn K mainGlobals "list" = some none)
    (ztuple : PySem.W.nsIn K mainGlobals "tuple" = some none)
    (zlen : PySem.W.nsIn K mainGlobals "len" = some none)
    (zabs : PySem.W.nsIn K mainGlobals "abs" = some none)
    (zenumerate : PySem.W.nsIn K mainGlobals "enumerate" = some none)
    (zint : PySem.W.nsIn K mainGlobals "int" = some none)
    (zrange : PySem.W.nsIn K mainGlobals "range" = some none)
    (zsum : PySem.W.nsIn K mainGlobals "sum" = some none)
    (zmin : PySem.W.nsIn K mainGlobals "min" = some none)
    (zmax : PySem.W.nsIn K mainGlobals "max" = some none)
    (zrepr : PySem.W.nsIn K mainGlobals "repr" = some none)
    (zstr : PySem.W.nsIn K mainGlobals "str" = some none)
    (zbool : PySem.W.nsIn K mainGlobals "bool" = some none)
    (zsorted : PySem.W.nsIn K mainGlobals "sorted" = some none) :
    ∃ fd : FuncData, (∀ (s : Shared) (v : Value), BindsTo s fd ⟨[v], []⟩ [("_law_script", v)]) ∧ ∀ base : Heap, K.In base → base.Ns mainGlobals mg → FnG P w K mg base CX0 16 fa fd ["_law_script"] (spLaw K) := by
  have e := hfa.symm.trans (PySem.W.mg_of X G a18)
  cases e
  have F0 := fun_mk (st := sParts) l0 c0 k0
  have F1 := fun_mk (st := sCopy) l1 c1 k1
  have F2 := fun_mk (st := s_is_whole_number) l2 c2 k2
  have F3 := fun_mk (st := s_inner_of) l3 c3 k3
  have F4 := fun_mk (st := s_places_of) l4 c4 k4
  have F5 := fun_mk (st := s_found_at) l5 c5 k5
  have F6 := fun_mk (st := s_part_of) l6 c6 k6
  have F7 := fun_mk (st := s_is_torn) l7 c7 k7
  have F8 := fun_mk (st := sBag) l8 c8 k8
  have F9 := fun_mk (st := sTake) l9 c9 k9
  have F10 := fun_mk (st := sText) l10 c10 k10
  have F11 := fun_mk (st := sSize) l11 c11 k11
  have F12 := fun_mk (st := sValue) l12 c12 k12
  have F13 := fun_mk (st := sGreat) l13 c13 k13
  have F14 := fun_mk (st := s__law_rows) l14 c14 k14
  have F15 := fun_mk (st := sSpoil) l15 c15 k15
  have F16 := fun_mk (st := s__law_asked) l16 c16 k16
  have F17 := fun_mk (st := s__law_thing) l17 c17 k17
  have F18 := fun_mk (st := sLaw) l18 c18 k18
  have b0 := F0.binds (ps := ["thing"]) fun _ _ _ _ _ _ us hl => match us, hl with | [_], _ => rfl
  have g0 := PySem.W.mg_of X G a0
  have b1 := F1.binds (ps := ["thing"]) fun _ _ _ _ _ _ us hl => match us, hl with | [_], _ => rfl
  have g1 := PySem.W.mg_of X G a1
  have b2 := F2.binds (ps := ["thing"]) fun _ _ _ _ _ _ us hl => match us, hl with | [_], _ => rfl
  have g2 := PySem.W.mg_of X G a2
  have b3 := F3.binds (ps := ["part"]) fun _ _ _ _ _ _ us hl => match us, hl with | [_], _ => rfl
  have g3 := PySem.W.mg_of X G a3
  have b4 := F4.binds (ps := ["value"]) fun _ _ _ _ _ _ us hl => match us, hl with | [_], _ => rfl
  have g4 := PySem.W.mg_of X G a4
  have b5 := F5.binds (ps := ["value", "place"]) fun _ _ _ _ _ _ us hl => match us, hl with | [_, _], _ => rfl
  have g5 := PySem.W.mg_of X G a5
  have b6 := F6.binds (ps := ["value", "place"]) fun _ _ _ _ _ _ us hl => match us, hl with | [_, _], _ => rfl
  have g6 := PySem.W.mg_of X G a6
  have b7 := F7.binds (ps := ["value", "place"]) fun _ _ _ _ _ _ us hl => match us, hl with | [_, _], _ => rfl
  have g7 := PySem.W.mg_of X G a7
  have b8 := F8.binds (ps := ["_law_script", "_law_at"]) fun _ _ _ _ _ _ us hl => match us, hl with | [_, _], _ => rfl
  have g8 := PySem.W.mg_of X G a8
  have b9 := F9.binds (ps := ["_law_bag_here", "_law_many"]) fun _ _ _ _ _ _ us hl => match us, hl with | [_, _], _ => rfl
  have g9 := PySem.W.mg_of X G a9
  have b10 := F10.binds (ps := ["_law_bag_here", "_law_most"]) fun _ _ _ _ _ _ us hl => match us, hl with | [_, _], _ => rfl
  have g10 := PySem.W.mg_of X G a10
  have b11 := F11.binds (ps := ["_law_value_here"]) fun _ _ _ _ _ _ us hl => match us, hl with | [_], _ => rfl
  have g11 := PySem.W.mg_of X G a11
  have b12 := F12.binds (ps := ["_law_bag_here", "_law_deep", "_law_room"]) fun _ _ _ _ _ _ us hl => match us, hl with | [_, _, _], _ => rfl
  have g12 := PySem.W.mg_of X G a12
  have b13 := F13.binds (ps := ["_law_bag_here"]) fun _ _ _ _ _ _ us hl => match us, hl with | [_], _ => rfl
  have g13 := PySem.W.mg_of X G a13
  have b14 := F14.binds (ps := ["_law_value_here"]) fun _ _ _ _ _ _ us hl => match us, hl with | [_], _ => rfl
  have g14 := PySem.W.mg_of X G a14
  have b15 := F15.binds (ps := ["_law_value_here"]) fun _ _ _ _ _ _ us hl => match us, hl with | [_], _ => rfl
  have g15 := PySem.W.mg_of X G a15
  have b16 := F16.binds (ps := ["_law_value_here", "_law_thing_here"]) fun _ _ _ _ _ _ us hl => match us, hl with | [_, _], _ => rfl
  have g16 := PySem.W.mg_of X G a16
  have b17 := F17.binds (ps := ["_law_bag_here", "_law_places"]) fun _ _ _ _ _ _ us hl => match us, hl with | [_, _], _ => rfl
  have g17 := PySem.W.mg_of X G a17
  have EP := fun_mk (st := mNoPlace_init) lP cP kP
  have bP := EP.binds (ps := ["self", "place"]) fun _ _ _ _ _ _ us hl => match us, hl with | [_, _], _ => rfl
  have hTp : ∀ x : Str, PySem.W.nsIn K mainGlobals x = some none → mg x = none := fun x z => PySem.W.mg_none_of X G z
  have cNP := cl_of (TE := TE) (PySem.W.mg_of X G aCNP) xNP saNP gaNP ggNP haNP hn ht kcNP
  have cBV := cl_of (TE := TE) (PySem.W.mg_of X G aCBV) xBV saBV gaBV ggBV haBV hn ht kcBV
  refine ⟨PySem.W.fnOf "law" "law" (defArgs sLaw) (defBody sLaw) (defScope sLaw) .none kV18 dc18 pm18 an18 cd18 ct18, fun s v => .of_eq rfl, fun base _ _ => ?_⟩
  have NM : Nm mg := ⟨hTp _ zisinstance, hTp _ zlist, hTp _ ztuple⟩
  have NB : Nb mg := ⟨hTp _ zlen, hTp _ zabs, hTp _ zenumerate, hTp _ zint⟩
  have NK : Nk mg := ⟨hTp _ zstr, hTp _ zbool⟩
  have NV : Nv mg := ⟨hTp _ zrange, hTp _ zsum, hTp _ zmin⟩
  have hcT : ∃ cd, PySem.W.clsIn K TE = some cd := by
    refine ⟨{ name := nmT, bases := bsT, mro := .ref TE :: mrT, ns := NT', qualname := qT, hasDict := hdT, slotNames := snT, subclasses := subT, abstract := abT, collection := colT, hasDel := false }, ?_⟩
    unfold PySem.W.clsIn
    rw [lTE] <;> rfl
  obtain ⟨cdT, hcT⟩ := hcT
  have GC : FnOk P w K mg base CX0 2 f1 _ ["thing"] (spCopy K) := ok_copy (k := 0) F1 NM F0 b0 g0
  have GCT : FnOk P w K mg base CX0 2 f1 _ ["thing"] (spCopyT K) := ok_copyT (k := 0) F1 NM F0 b0 g0
  have GW := ok_whole (P := P) (w := w) (base := base) F2 NM NK NB
  have GNn := ok_inner (P := P) (w := w) (base := base) F3 NM NK NB
  have GPl := ok_placesOf F4 NM NB NV GNn g3 k3 b3
  have GNp := ok_inNp (mg := mg) (C := NP) EP GC g1 k1 b1
  have GFo := ok_found F5 NM NB cNP aP tP nP GNp bP GW g2 k2 b2 GNn g3 k3 b3
  have GPt := ok_partT F6 GCT g1 k1 b1 GFo g5 k5 b5
  have GTo := ok_torn F7 NM NK GFo g5 k5 b5
  have GB : FnOk P w K mg base CX0 1 f8 _ ["_law_script", "_law_at"] (spBag K) := ok_bag (k := 0) F8 NB
  have GT : FnOk P w K mg base CX0 1 f9 _ ["_law_bag_here", "_law_many"] spTake := ok_take (k := 0) F9 NB
  have GX : FnOk P w K mg base CX0 2 f10 _ ["_law_bag_here", "_law_most"] spText := ok_text F10 NB NV F9 b9 g9
  have C1 : Vc P w K mg base f9 f10 f11 (PySem.W.fnOf "_law_take" "_law_take" (defArgs sTake) (defBody sTake) (defScope sTake) .none kV9 dc9 pm9 an9 cd9 ct9) (PySem.W.fnOf "_law_text" "_law_text" (defArgs sText) (defBody sText) (defScope sText) .none kV10 dc10 pm10 an10 cd10 ct10) (PySem.W.fnOf "_law_size" "_law_size" (defArgs sSize) (defBody sSize) (defScope sSize) .none kV11 dc11 pm11 an11 cd11 ct11) := ⟨GT, b9, g9, k9, GX, b10, g10, k10, fun N => ok_size F11 NM NB NV b11 g11 N, b11, g11, k11⟩
  have GVa := ok_values F12 b12 g12 NV C1
  have GG := ok_great F13 NV C1 (GVa 4) g12 k12 b12
  have GR := ok_rows (P := P) (w := w) (base := base) F14 NM NK NB b14 g14 13
  have GS := ok_spoil (P := P) (w := w) (base := base) F15 NM b15 g15 14
  have GA := ok_asked F16 NM cNP cBV nP (PySem.W.mg_of X G aTE) hcT tTE n1 n2 n3 GPt g6 k6 b6 GTo g7 k7 b7
  have GTh := ok_thing F17 NM NK NB GT g9 k9 b9
  exact ok_law F18 ⟨hTp _ zmax, hTp _ zrepr, hTp _ zsorted⟩ NM NB NV ⟨GB, GT, GG, GVa 5, GR, GPl, GA, GS, GTh, b8, b9, b13, b12, b14, b4, b16, b15, b17, g8, g9, g13, g12, g14, g4, g16, g15, g17, k8, k9, k13, k12, k14, k4, k16, k15, k17⟩
end TX
open PySem PySem.W PyProof.Rows
set_option maxRecDepth 100000 in
set_option maxHeartbeats 0 in
theorem PySem.Challenge.cw_textorlist_k03_places_and_parts_holds : PySem.Challenge.rw_textorlist_k03_places_and_parts.Holds := by
  w_on; o_law; k_head; (case hw => w_witness2)
  k_fill
  refine TX.walkG (l := PySem.Challenge.rw_textorlist_k03_places_and_parts) (n := 63) (k := 16) (x := "_law_script") (sp := fun w => TX.spLaw _) rfl (by decide) rfl ⟨rfl, by decide, by decide⟩ (fun w h Y => PySem.W.kIn_of Y) ?F (fun _ _ a ns hl _ hS => ⟨a, ns, rfl, hS, hl, fun _ => rfl⟩)
  case F =>
    intro w mg fa h KX G hmg
    refine' TX.all_mk KX G hmg ?a0 ?l0 ?c0 ?k0 ?a1 ?l1 ?c1 ?k1 ?a2 ?l2 ?c2 ?k2 ?a3 ?l3 ?c3 ?k3 ?a4 ?l4 ?c4 ?k4 ?a5 ?l5 ?c5 ?k5 ?a6 ?l6 ?c6 ?k6 ?a7 ?l7 ?c7 ?k7 ?a8 ?l8 ?c8 ?k8 ?a9 ?l9 ?c9 ?k9 ?a10 ?l10 ?c10 ?k10 ?a11 ?l11 ?c11 ?k11 ?a12 ?l12 ?c12 ?k12 ?a13 ?l13 ?c13 ?k13 ?a14 ?l14 ?c14 ?k14 ?a15 ?l15 ?c15 ?k15 ?a16 ?l16 ?c16 ?k16 ?a17 ?l17 ?c17 ?k17 ?a18 ?l18 ?c18 ?k18 ?aTE ?lTE ?tTE ?hn ?ht ?aCNP ?xNP ?saNP ?gaNP ?ggNP ?haNP ?kcNP ?aCBV ?xBV ?saBV ?gaBV ?ggBV ?haBV ?kcBV ?aP ?lP ?cP ?kP ?nP ?tP ?n1 ?n2 ?n3 ?zisinstance ?zlist ?ztuple ?zlen ?zabs ?zenumerate ?zint ?zrange ?zsum ?zmin ?zmax ?zrepr ?zstr ?zbool ?zsorted
    (case a0 => k_is)
    (case l0 => k_is)
    (case c0 => k_is)
    (case k0 => k_is)
    (case a1 => k_is)
    (case l1 => k_is)
    (case c1 => k_is)
    (case k1 => k_is)
    (case a2 => k_is)
    (case l2 => k_is)
    (case c2 => k_is)
    (case k2 => k_is)
    (case a3 => k_is)
    (case l3 => k_is)
    (case c3 => k_is)
    (case k3 => k_is)
    (case a4 => k_is)
    (case l4 => k_is)
    (case c4 => k_is)
    (case k4 => k_is)
    (case a5 => k_is)
    (case l5 => k_is)
    (case c5 => k_is)
    (case k5 => k_is)
    (case a6 => k_is)
    (case l6 => k_is)
    (case c6 => k_is)
    (case k6 => k_is)
    (case a7 => k_is)
    (case l7 => k_is)
    (case c7 => k_is)
    (case k7 => k_is)
    (case a8 => k_is)
    (case l8 => k_is)
    (case c8 => k_is)
    (case k8 => k_is)
    (case a9 => k_is)
    (case l9 => k_is)
    (case c9 => k_is)
    (case k9 => k_is)
    (case a10 => k_is)
    (case l10 => k_is)
    (case c10 => k_is)
    (case k10 => k_is)
    (case a11 => k_is)
    (case l11 => k_is)
    (case c11 => k_is)
    (case k11 => k_is)
    (case a12 => k_is)
    (case l12 => k_is)
    (case c12 => k_is)
    (case k12 => k_is)
    (case a13 => k_is)
    (case l13 => k_is)
    (case c13 => k_is)
    (case k13 => k_is)
    (case a14 => k_is)
    (case l14 => k_is)
    (case c14 => k_is)
    (case k14 => k_is)
    (case a15 => k_is)
    (case l15 => k_is)
    (case c15 => k_is)
    (case k15 => k_is)
    (case a16 => k_is)
    (case l16 => k_is)
    (case c16 => k_is)
    (case k16 => k_is)
    (case a17 => k_is)
    (case l17 => k_is)
    (case c17 => k_is)
    (case k17 => k_is)
    (case a18 => k_is)
    (case l18 => k_is)
    (case c18 => k_is)
    (case k18 => k_is)
    (case aTE => k_is)
    (case lTE => k_is)
    (case tTE => k_is)
    (case hn => k_is)
    (case ht => k_is)
    (case aCNP => k_is)
    (case xNP => k_is)
    (case saNP => k_is)
    (case gaNP => k_is)
    (case ggNP => k_is)
    (case haNP => k_is)
    (case kcNP => k_is)
    (case aCBV => k_is)
    (case xBV => k_is)
    (case saBV => k_is)
    (case gaBV => k_is)
    (case ggBV => k_is)
    (case haBV => k_is)
    (case kcBV => k_is)
    (case aP => k_is)
    (case lP => k_is)
    (case cP => k_is)
    (case kP => k_is)
    (case nP => k_is)
    (case tP => k_is)
    (case n1 => decide)
    (case n2 => decide)
    (case n3 => decide)
    (case zisinstance => k_is)
    (case zlist => k_is)
    (case ztuple => k_is)
    (case zlen => k_is)
    (case zabs => k_is)
    (case zenumerate => k_is)
    (case zint => k_is)
    (case zrange => k_is)
    (case zsum => k_is)
    (case zmin => k_is)
    (case zmax => k_is)
    (case zrepr => k_is)
    (case zstr => k_is)
    (case zbool => k_is)
    (case zsorted => k_is)
