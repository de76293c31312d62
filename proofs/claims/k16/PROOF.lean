import PyProof.Rows.All
import PyProof.ListStr
import HandS.Flow
import HandS.StrMore
import HandS.Iter
import HandS.Walk
import Wide.All
import OpenK.AllK
import Wide.FinOn
import HandS.ForMost
import HandS.Style
import HandS.IsInst
import HandS.ExcInit
import HandS.ExcIs
import HandS.ExcField
import HandS.ForExc
import HandS.TupAny
import PyProof.InstNe
import PyProof.MeetsIn
import PyProof.Rows.Range3
import HandS.OwnEq
import HandS.Small
import KE.KOpsOwn
import HandS.Codes
import PyProof.LongRange
import PyProof.ListMulRight
import HandS.TupLe
import HandS.Star
import HandS.ClsMeth
import HandS.Defaults
import KE.BitLaws
import OpenK.KMeth
import PyProof.WalkInts
import KE.KeyNested
import KE.GoesMore
import HandS.Iter
import HandS.Walk
import PyProof.Draws
import PyProof.EnumMake
import HandS.Dict
import PySem.Challenge.RW_textorlist_k16_shapes_by_operators
set_option Elab.async false
set_option linter.all false
set_option maxRecDepth 100000
set_option maxHeartbeats 8000000
set_option exponentiation.threshold 300
namespace TX
open PySem PySem.Spec PyProof.Rows L2

/-! ### either of two rules -/
section
variable {X : Cx}
theorem pe_alt {e : Expr} {t u : TE} (h1 : PE X e t) (h2 : PE X e u) : PE X e (fun σ H Q => t σ H Q ∨ u σ H Q) :=
  ⟨fun pins s σ H Q I h => h.elim (h1.run pins s σ H Q I) (h2.run pins s σ H Q I)⟩
theorem ps_alt {e : Stmt} {t u : TS} (h1 : PS X e t) (h2 : PS X e u) : PS X e (fun D σ H => t D σ H ∨ u D σ H) :=
  ⟨fun pins s σ H D I h => h.elim (h1.run pins s σ H D I) (h2.run pins s σ H D I)⟩
theorem pi_alt {tg e : Expr} {t u : TI} (h1 : PI X tg e t) (h2 : PI X tg e u) : PI X tg e (fun σ H R => t σ H R ∨ u σ H R) :=
  ⟨fun pins s σ H R I h => h.elim (h1.run pins s σ H R I) (h2.run pins s σ H R I)⟩
end

/-! ### data stays where the heap grows -/
theorem same_sqt {K : PySem.W.Frag} {H H' : Hp} {a : Addr} {xs : List V} (e : Same H H') (h : SqT K H a xs) : SqT K H' a xs := by
  rcases h with (h | ⟨o, h⟩) | h
  · exact .inl (.inl (e _ _ h))
  · exact .inl (.inr ⟨o, e _ _ h⟩)
  · exact .inr h
mutual
theorem dp_same {K : PySem.W.Frag} {H H' : Hp} (e : Same H H') : ∀ (d : PyData) (v : V), Dp K H v d → Dp K H' v d
  | .none, _, h => by cases h; exact .non
  | .bool b, _, h => by cases h; exact .bl b
  | .int i, _, h => by cases h; exact .int i
  | .str x, _, h => by cases h; exact .str x
  | .list xs, _, h => by
    cases h with
    | lst h1 h2 => exact .lst (e.seq h1) (dpAll_same e xs _ h2)
  | .tuple xs, _, h => by
    cases h with
    | tup h1 h2 => exact .tup (same_sqt e h1) (dpAll_same e xs _ h2)
  | .dict _, _, h => nomatch h
theorem dpAll_same {K : PySem.W.Frag} {H H' : Hp} (e : Same H H') : ∀ (ds : List PyData) (vs : List V), DpAll K H vs ds → DpAll K H' vs ds
  | [], _, h => by cases h; exact .nil
  | d :: ds, _, h => by
    cases h with
    | cons h1 h2 => exact .cons (dp_same e d _ h1) (dpAll_same e ds _ h2)
end
theorem DpAll.length {K : PySem.W.Frag} {H : Hp} : ∀ {ds : List PyData} {vs : List V}, DpAll K H vs ds → vs.length = ds.length
  | [], _, h => by cases h; rfl
  | _ :: _, _, h => by
    cases h with
    | cons _ h2 => exact congrArg (· + 1) (DpAll.length h2)
theorem DpAll.append {K : PySem.W.Frag} {H : Hp} : ∀ {ds es : List PyData} {vs ws : List V}, DpAll K H vs ds → DpAll K H ws es → DpAll K H (vs ++ ws) (ds ++ es)
  | [], _, _, _, h, g => by cases h; exact g
  | _ :: _, _, _, _, h, g => by
    cases h with
    | cons h1 h2 => exact .cons h1 (DpAll.append h2 g)
theorem DpAll.split {K : PySem.W.Frag} {H : Hp} : ∀ {ds es : List PyData} {vs : List V}, DpAll K H vs (ds ++ es) → ∃ a b, vs = a ++ b ∧ DpAll K H a ds ∧ DpAll K H b es
  | [], _, vs, h => ⟨[], vs, rfl, .nil, h⟩
  | d :: ds, es, _, h => by
    cases h with
    | cons h1 h2 =>
      obtain ⟨a, b, rfl, ha, hb⟩ := DpAll.split (ds := ds) (es := es) h2
      exact ⟨_ :: a, b, rfl, .cons h1 ha, hb⟩
theorem same_upd {H : Hp} {p : Addr} {o : HO} (h : H p = none) : Same H (upd H p o) := fun b x e => by
  rw [upd_ne (ne_of_none e h)]
  exact e
/-- a fresh place may be written again and again -/
theorem same_fresh {H0 H : Hp} {p : Addr} {o : HO} (h : H0 p = none) (e : Same H0 H) : Same H0 (upd H p o) := fun b x q => by
  rw [upd_ne (ne_of_none q h)]
  exact e b x q

/-! ### the number of parts -/
mutual
def nd : PyData → Nat
  | .list xs => ndAll xs + 1
  | .tuple xs => ndAll xs + 1
  | _ => 1
def ndAll : List PyData → Nat
  | [] => 0
  | d :: ds => nd d + ndAll ds
end
theorem ndAll_append : ∀ (a b : List PyData), ndAll (a ++ b) = ndAll a + ndAll b
  | [], b => by simp [ndAll]
  | d :: a, b => by
    rw [List.cons_append, ndAll, ndAll, ndAll_append a b]
    omega
theorem nd_pos : ∀ d : PyData, 1 ≤ nd d
  | .none => by simp [nd]
  | .bool _ => by simp [nd]
  | .int _ => by simp [nd]
  | .str _ => by simp [nd]
  | .list _ => by simp [nd]
  | .tuple _ => by simp [nd]
  | .dict _ => by simp [nd]
theorem ndAll_len : ∀ ds : List PyData, ds.length ≤ ndAll ds
  | [] => by simp
  | d :: ds => by
    have := ndAll_len ds
    have := nd_pos d
    rw [ndAll, List.length_cons]
    omega

/-! ### what a value's type is, for isinstance -/
/-- the type of a value that represents data -/
def tyD : PyData → String
  | .none => "NoneType"
  | .bool _ => "bool"
  | .int _ => "int"
  | .str _ => "str"
  | .list _ => "list"
  | .tuple _ => "tuple"
  | .dict _ => "dict"
theorem dp_ty {K : PySem.W.Frag} {H : Hp} {v : V} {d : PyData} (h : Dp K H v d) : TyX K H v (.type (tyD d)) := by
  cases h with
  | non => exact .base .non
  | bl b => exact .base (.bl b)
  | int i => exact .base (.int i)
  | str x => exact .base (.str x)
  | lst h1 _ =>
    rcases h1 with (h | ⟨o, h⟩) | ⟨o, its, n, hk, hc, _⟩
    · exact .base (.lst h)
    · exact .base (.frz h)
    · exact .kList hk hc
  | tup h1 _ =>
    rcases h1 with (h | ⟨o, h⟩) | ⟨o, its, n, hk, hc, _⟩
    · exact .base (.tup h)
    · exact .fTuple h
    · exact .kTuple hk hc

/-! ### repr of data -/
section
variable {X : Cx}
def rRepr (K : PySem.W.Frag) : List V → Hp → VK → Prop := fun xs H Q => ∃ v d, xs = [v] ∧ Dp K H v d ∧ d.showable = true ∧ d.hasDict = false ∧ d.depth ≤ 60 ∧ d.shown.length ≤ sizeLine ∧ Q (.str d.shown) H
theorem call_repr (hg : X.A.guards = some []) (hu : X.A.units + 64 < cLine) : CallR X (.builtin "repr") (rRepr X.K) := by
  intro pins s σ H xs us Q I r h
  obtain ⟨v, d, rfl, hd, hs, hn, hz, hl, q⟩ := h
  obtain ⟨u, rfl, rv⟩ := r.one
  have fin : ∀ tk t, EP X pins σ Q (.str d.shown t) { s with toks := tk } := fun tk t => ⟨.str _, H, I.tok tk, ⟨t, rfl⟩, q⟩
  obtain ⟨as, rd⟩ := Dp.reads I d v u hd rv
  cases hd with
  | non =>
    cases rv
    simp only [PyData.shown] at fin
    exact PySem.P.repr_of_none (fin _ _)
  | bl b =>
    cases rv
    simp only [PyData.shown] at fin
    exact PySem.P.repr_of_bool (fin _ _)
  | int i =>
    obtain ⟨t, rfl⟩ := rv
    simp only [PyData.shown] at fin
    exact PySem.P.repr_of_int (by simpa [PyData.showable] using hs) (fin _ _)
  | str x =>
    obtain ⟨t, rfl⟩ := rv
    simp only [PyData.shown] at fin hl
    exact PySem.P.repr_of_str (fin _ _) hl
  | lst h1 h2 =>
    cases rv
    exact repr_of_reads' rd hs (PyData.noDict_hsm hn) hg (by omega) (fun _ _ e => e) (fun h' t tk hk => ⟨.str _, H, I.kept hk, ⟨t, rfl⟩, q⟩) hl
  | tup h1 h2 =>
    cases rv
    exact repr_of_reads' rd hs (PyData.noDict_hsm hn) hg (by omega) (fun _ _ e => e) (fun h' t tk hk => ⟨.str _, H, I.kept hk, ⟨t, rfl⟩, q⟩) hl
end
end TX
namespace TX
open PySem PySem.Spec PyProof.Rows L2
/-! ### a def that is called where nothing is being shown (no repr under way) -/
structure FnG (P : Program) (w : World) (K : PySem.W.Frag) (mg : Str → Option Value) (base : Heap) (C : CXT) (k : Nat) (f : Addr) (fd : FuncData) (ps : List Str) (sp : Sp) : Prop where
  len : ∀ vs H Q E, sp vs H Q E → vs.length = ps.length
  go : ∀ (A : Around), A.guards = some [] → ∀ (outer : List Env) (s : Shared) (H : Hp) (args : Args) (us : List Value) (vs : List V) (Q : VK) (E : XK), Room k A → Env0 P w K mg base A outer s H →
    BindsTo s fd args (ps.zip us) → Vals vs us → sp vs H Q E → codeAny (model P w) A (.call (.ref f) args) (CR C outer P w H s Q E) s
section
variable {P : Program} {w : World} {K : PySem.W.Frag} {mg : Str → Option Value} {base : Heap} {C : CXT} {k : Nat} {f : Addr} {fd : FuncData} {N ps : List Str} {sp : Sp}
theorem fng_of {x qual : Str} {st : Stmt} (F : Fun K x qual st f fd) (S : FnScope N ps (defScope st)) (len : ∀ vs H Q E, sp vs H Q E → vs.length = ps.length)
    (hb : ∀ (cdv : Value) (A : Around) (outer : List Env) (s : Shared) (H : Hp) (vs : List V) (Q : VK) (E : XK), A.guards = some [] → Room k (A.deeper (envOfC qual (defScope st) s.heap.objs.size f cdv)) → sp vs H Q E →
      ∃ t, PSs (cxOf CX0 P w K mg base N qual (defScope st) f cdv A outer s H E).nox (defBody st) t ∧ t { nx := fun _ H' => Q .non H', rt := Q } (start N vs) H) : FnG P w K mg base CX0 (k + 1) f fd ps sp := by
  obtain ⟨oc, od, kV, doc, pm, an, cdv, ct, osl, rfl, lk, hcd⟩ := F.ex
  refine ⟨len, fun A hg outer s H args us vs Q E hr e0 hbd r hsp => ?_⟩
  have up : ∀ b o, base.get? b = some o → s.heap.get? b = some o := fun b o e => (e0.bs b o e).1
  have KX : K.In s.heap := e0.mod.kin.keeps up
  have par : ∀ y ∈ ps.zip us, (defScope st).names.lookup y.1 = some .local ∨ ((defScope st).names.lookup y.1 = some .cell ∧ ((cellsFrom (s.heap.objs.size + 1) (defScope st).names []).lookup y.1).isSome = true) := by
    rintro ⟨n, v⟩ hy
    exact (S.par n (List.of_mem_zip hy).1).imp id fun q => ⟨q, PySem.W.cellsFrom_some _ _ _ (.inl q)⟩
  refine codeAny_call_function hr.depth (KX _ _ lk) rfl S.co S.gen rfl (PySem.W.codeRec_of KX hcd) (hbd _ _ _ _ (wpAny_newFunctionEnv_cells S.kind par fun env he s1 x => ?_))
  cases he
  obtain ⟨t, ht, hq⟩ := hb cdv A outer s H vs Q E hg (hr.deeper _) hsp
  refine ⟨(e0.mod.nolimit.keeps up).keeps x.toInCall.keep, codeAny_func (wpAny_mono (ht.nox.run [] s1 (start N vs) H _ (inv_start S hr.hd e0 (len _ _ _ _ hsp) r x) hq) (fun fl s' hs => ?_) fun e s' hs => hs)⟩
  cases fl with
  | next => exact let ⟨σ', H', J, q⟩ := hs; ⟨.non, H', J.os, J.bare, J.base, J.hok, rfl, q⟩
  | ret u => exact let ⟨v, σ', H', J, rv, q⟩ := hs; ⟨v, H', J.os, J.bare, J.base, J.hok, rv, q⟩
  | brk => exact let ⟨_, _, _, q⟩ := hs; False.elim q
  | cont => exact let ⟨_, _, _, q⟩ := hs; False.elim q
theorem deeper_guards {A : Around} {env : Env} : (A.deeper env).guards = A.guards := rfl
end
section
variable {X : Cx} {C : CXT} {k : Nat} {f : Addr} {fd : FuncData} {ps : List Str} {sp : Sp} {dvs : List V} {ds : List Value} {E : XK} {x : Str} {p pos : Pos} {e : Expr} {es : List Expr} {t : TA}
theorem pe_callG (F : FnG X.prog X.w X.K X.mg X.base C k f fd ps sp) (hgd : X.A.guards = some []) (hr : Room k X.A) (hg : Gl X x) (hm : X.mg x = some (.ref f)) (hk : PySem.W.keepIn X.K (.ref f) = true) (hb : Binds X.K fd ps ds) (hd : Vals dvs ds)
    (hx : Passes C X E) (ha : PA X (e :: es) t) (hdb : (x == ("__debug__" : Str)) = false := by decide) (he : starEach (e :: es) X.env = (false, eval e X.env) :: starEach es X.env := by rfl)
    (hpl : (backTo pos (starEach es X.env)).any (·.1) = false := by rfl) : PE X (.Call (.Name x p) (e :: es) [] pos) (tCall sp dvs E t) := by
  refine ⟨fun pins s σ H Q I h => wpAny_Call_Name_kw (ld_glob I hg hm (PySem.W.callWith_K (h₀ := X.base) I.ok.mod.kin hk (thn (ha.run pos pins s σ H _ I h) fun us s1 h1 => ?_) he hpl) hdb)⟩
  obtain ⟨vs, H1, I1, r, q⟩ := h1
  have r2 := r.append hd
  have hl : (us ++ ds).length = ps.length := r2.length.symm.trans (F.len _ _ _ _ q)
  refine ⟨I1.kIn, wpAny_call (codeAny_mono (F.go X.A hgd X.stack s1 H1 ⟨us, []⟩ _ _ _ _ hr I1.env0 (hb s1 us I1.kIn hl) r2 q) fun r s' hq => ?_)⟩
  cases r with
  | error er => exact hx pins σ H1 s1 er s' I1 hq
  | ok fl => cases fl with
    | ret u => exact I1.after hq
    | next => exact hq.elim
    | brk => exact hq.elim
    | cont => exact hq.elim
end
/-- the law's def, called by the claim -/
theorem lawG {P : Program} {w : World} {K : PySem.W.Frag} {mg mb : Str → Option Value} {k : Nat} {fa a : Addr} {fd : FuncData} {x : Str} {sp : Sp} {s₁ : Shared} {vs : List Value} {ns : List Int}
    (KX : K.In s₁.heap) (hns : s₁.heap.Ns mainGlobals mg) (hb : s₁.heap.Ns builtinsNs mb) (hbb : ∀ x : Str, x ≠ "__name__" → mb x = bootBuiltins x) (hlim : s₁.heap.NoLimit) (hg : s₁.gens = #[])
    (ha : s₁.heap.get? a = some { cls := .type "list", data := .seq vs.toArray }) (hi : IntsAre vs ns) (hl : ns.length ≤ sizeLine) (hr : Room k callerA)
    (F : ∀ base : Heap, K.In base → base.Ns mainGlobals mg → FnG P w K mg base CX0 k fa fd [x] sp) (hbind : ∀ (s : Shared) (u : Value), BindsTo s fd ⟨[u], []⟩ [(x, u)])
    (hsp : ∀ H : Hp, Only H → SqL K H a (ns.map V.int) → sp [.ref a] H (fun v _ => v = .bl true) fun _ _ _ => False) :
    codeAny (model P w) callerA (.call (.ref fa) ⟨[.ref a], []⟩) (fun r s' => r = .ok (.ret (.bool true)) ∧ OldK s₁.heap s'.heap ∧ s'.os = s₁.os ∧ AllBare s'.gens) s₁ := by
  have rv := vals_ints hi
  have lenV := hi.length
  have main : ∀ H : Hp, Only H → SqL K H a (ns.map V.int) → HOk P w H s₁.heap → (∀ b, H b ≠ none → b = a) → (H a ≠ none → K.lookup a = none) →
      codeAny (model P w) callerA (.call (.ref fa) ⟨[.ref a], []⟩) (fun r s' => r = .ok (.ret (.bool true)) ∧ OldK s₁.heap s'.heap ∧ s'.os = s₁.os ∧ AllBare s'.gens) s₁ := by
    intro H hO hS hok hA hK
    have atA : ∀ {b : Addr} {u : HO}, H b = some u → b = a := fun q => hA _ (by rw [q]; exact fun z => nomatch z)
    have noD : ∀ {b : Addr} {o : Obj} {es : Array DictEntry} {ep : Nat}, s₁.heap.get? b = some o → o.data = .dict es ep → H b = none := by
      intro b o es ep e d
      cases q : H b with
      | none => rfl
      | some u =>
        cases atA q
        rw [ha] at e
        cases e
        exact absurd d (fun z => nomatch z)
    have nsK : ∀ {b : Addr} {m : Str → Option Value}, s₁.heap.Ns b m → (hidT s₁.heap H).Ns b m := fun ⟨o, es, ep, e, d, r⟩ => ⟨o, es, ep, hidT_get e (noD e d), d, r⟩
    have hKb : K.In (hidT s₁.heap H) := by
      intro b o e
      refine hidT_get (KX b o e) ?_
      cases q : H b with
      | none => rfl
      | some u =>
        cases atA q
        rw [hK (by rw [q]; exact fun z => nomatch z)] at e
        cases e
    have hM : Mod K mg (hidT s₁.heap H) := ⟨hKb, nsK hns, ⟨mb, nsK hb, hbb⟩, let ⟨mc, h1, h2⟩ := hlim; ⟨mc, nsK h1, h2⟩⟩
    have e0 : Env0 P w K mg (hidT s₁.heap H) callerA [] s₁ H := ⟨rfl, hM, fun b o e => of_hidT e, Nat.le_of_eq (hidT_size _ _), trivial, fun b hb => (nomatch hb), hok, .of_eq hg⟩
    refine codeAny_mono ((F _ hKb (nsK hns)).go callerA rfl [] s₁ H ⟨[.ref a], []⟩ [.ref a] [.ref a] _ _ hr e0 (hbind s₁ (.ref a)) (.cons rfl .nil) (hsp H hO hS)) fun r s' h => ?_
    cases r with
    | error e => exact (show False from h).elim
    | ok fl => cases fl with
      | next => exact h.elim
      | brk => exact h.elim
      | cont => exact h.elim
      | ret u =>
        obtain ⟨v, H', os, bare, un, hok', r', q⟩ := h
        cases (show v = .bl true from q)
        cases (show u = Value.bool true from r')
        refine ⟨rfl, OldK.of_keep fun b o e => ?_, os, bare⟩
        cases q : H b with
        | none => exact un.keep b o e q (fun z => nomatch z) (fun z => nomatch z)
        | some u =>
          rcases hO b with z | ⟨ob, xs, z⟩
          · rw [q] at z
            cases z
          · obtain ⟨e1, _⟩ := hok b _ z
            obtain ⟨e2, _⟩ := hok' b _ (un.frzs b ob _ z)
            rw [e] at e1
            cases e1
            exact e2
  cases hk : K.lookup a with
  | some o =>
    have e := KX a o hk
    rw [ha] at e
    cases e
    exact main (fun _ => none) (fun _ => .inl rfl) (.inr ⟨_, vs.toArray, _, hk, rfl, rfl, rfl, by rw [List.size_toArray, lenV]; exact hl, by simpa using rv⟩) (fun b u z => nomatch z) (fun b z => absurd rfl z) fun z => absurd rfl z
  | none =>
    refine main (fun b => if b = a then some (.frz { cls := .type "list", data := .seq vs.toArray } (.lst (ns.map V.int))) else none) (fun b => ?_) (.inl (.inr ⟨{ cls := .type "list", data := .seq vs.toArray }, if_pos rfl⟩)) (fun b u z => ?_) (fun b z => ?_) fun _ => hk
    · by_cases hb : b = a
      · exact .inr ⟨_, _, if_pos hb⟩
      · exact .inl (if_neg hb)
    · by_cases hb : b = a
      · cases hb
        cases (if_pos rfl).symm.trans z
        exact ⟨ha, by rw [List.length_map]; exact hl, vs, _, rv, ha⟩
      · cases (if_neg hb).symm.trans z
    · exact Classical.byContradiction fun hb => z (if_neg hb)
theorem walkG {l : PySem.W.OpenLaw} {n k : Nat} {q : Program} {loose : List Str} {XP : (Str → Option Value) → Heap → Prop} {YP : World → Heap → Prop} {d : DefRec} {K : Params → PySem.W.Frag} {sp : World → Sp} {x : Str}
    (hn : l.most = some n) (hn2 : n ≤ sizeLine) (hdf : d.params.defaults = []) (hr : Room k callerA) (hY : ∀ (w : World) (h : Heap), YP w h → (K w.params).In h)
    (F : ∀ (w : World) (mg : Str → Option Value) (fa : Addr) (h : Heap), (K w.params).In h → h.Ns mainGlobals mg → mg d.name = some (.ref fa) →
      ∃ fd : FuncData, (∀ (s : Shared) (u : Value), BindsTo s fd ⟨[u], []⟩ [(x, u)]) ∧ ∀ base : Heap, (K w.params).In base → base.Ns mainGlobals mg → FnG l.prog w (K w.params) mg base CX0 k fa fd [x] (sp w))
    (hsp : ∀ (w : World) (H : Hp) (a : Addr) (ns : List Int), ns.length ≤ n → Only H → SqL (K w.params) H a (ns.map V.int) → sp w [.ref a] H (fun v _ => v = .bl true) fun _ _ _ => False) :
    PySem.W.WalkO q loose XP YP l.row.toRowW d [] (fun f vs => PySem.call f vs) := by
  refine Att.attach_call hn hdf fun w s₀ s₁ mg mb fa o pm cd doc a vs ns G Y ho hd hcd hmg hobj hints hlen hg => ?_
  obtain ⟨fd, hb, hF⟩ := F w mg fa _ (hY w _ Y) G.T.g hmg
  exact lawG (hY w _ Y) G.T.g G.T.b G.T.builtins G.T.nolimit hg hobj hints (Nat.le_trans hlen hn2) hr hF hb fun H hO hS => hsp w H a ns hlen hO hS
end TX
namespace TX
open PySem PySem.Spec PyProof.Rows L2
section
variable {prog : Program} {w : World} {A : Around} {E : Value → Shared → Prop} {s : Shared}
theorem slAdj_back (n : Nat) : Builtin.Slice.sliceAdjust none none (-1) (n : Int) = ((n : Int) - 1, -1) := rfl
theorem slPl_back (n : Nat) : Builtin.Slice.slicePlaces ((n : Int) - 1) (-1) (-1) = n := by
  unfold Builtin.Slice.slicePlaces
  rw [if_neg (by decide)]
  split
  · have e : -(-1 : Int) = 1 := by decide
    rw [e, Int.ediv_one]
    omega
  · omega
theorem slApp_back {sl : Addr} {n : Nat} {u : Tok} {Q : Int × Int × Nat → Shared → Prop} (hs : s.heap.IsSliceOf sl .none .none (.int (-1) u)) (h : Q ((n : Int) - 1, -1, n) s) :
    wpAny (model prog w) A (Builtin.Slice.sliceApplied (.ref sl) (pure (n : Int))) Q E s := by
  obtain ⟨os, g1, g2, g3⟩ := hs
  unfold Builtin.Slice.sliceApplied Builtin.Slice.sliceFields
  refine wpAny_bind (wpAny_bind (wpAny_field g1 g3 (x := .none) rfl (wpAny_bind (wpAny_field g1 g3 (x := .none) rfl (wpAny_bind (wpAny_field g1 g3 (x := .int (-1) u) rfl (wpAny_pure ?_)))))))
  refine wpAny_bind (slicePart_int ?_)
  show wpAny _ _ (if ((-1 : Int) == 0) = true then _ else _) _ _ s
  rw [if_neg (by decide)]
  refine wpAny_bind (slicePart_none (wpAny_bind (slicePart_none (wpAny_bind (wpAny_pure ?_)))))
  show wpAny _ _ (match Builtin.Slice.sliceAdjust none none (-1) (n : Int) with | (lo, hi) => pure (lo, (-1 : Int), Builtin.Slice.slicePlaces lo hi (-1))) _ _ s
  rw [slAdj_back]
  show wpAny _ _ (pure ((n : Int) - 1, (-1 : Int), Builtin.Slice.slicePlaces ((n : Int) - 1) (-1) (-1))) _ _ s
  rw [slPl_back]
  exact wpAny_pure h
theorem fm_congr {f g : Nat → Option Value} : ∀ l : List Nat, (∀ k ∈ l, f k = g k) → l.filterMap f = l.filterMap g
  | [], _ => rfl
  | k :: l, h => by
    rw [List.filterMap_cons, List.filterMap_cons, h k List.mem_cons_self, fm_congr l fun j hj => h j (List.mem_cons_of_mem _ hj)]
theorem pick_back (l : List Value) : ((List.range l.length).filterMap fun (k : Nat) => l.toArray[(((l.length : Nat) : Int) - 1 + (k : Int) * (-1)).toNat]?) = l.reverse := by
  have e : ∀ k ∈ List.range l.length, (fun (k : Nat) => l.toArray[(((l.length : Nat) : Int) - 1 + (k : Int) * (-1)).toNat]?) k = (some ∘ fun k => (l.reverse[k]?).getD .none) k := by
    intro k hk
    have hk' := List.mem_range.mp hk
    have e1 : (((l.length : Nat) : Int) - 1 + (k : Int) * (-1)).toNat = l.length - 1 - k := by omega
    show l.toArray[(((l.length : Nat) : Int) - 1 + (k : Int) * (-1)).toNat]? = some ((l.reverse[k]?).getD .none)
    rw [e1, List.getElem?_toArray, List.getElem?_reverse (by omega), List.getElem?_eq_getElem (by omega)]
    rfl
  rw [fm_congr _ e, List.filterMap_eq_map]
  apply List.ext_getElem?
  intro i
  rw [List.getElem?_map]
  by_cases h : i < l.length
  · rw [List.getElem?_range h, List.getElem?_eq_getElem (by simpa using h)]
    simp [List.getElem?_eq_getElem, h]
  · rw [List.getElem?_eq_none (by simpa using h), List.getElem?_eq_none (by simpa using h)]
    rfl
/-- t[::-1] of a tuple -/
theorem getItem_tuple_back {t sl : Addr} {items : List Value} {u : Tok} {Q : Value → Shared → Prop} (ht : IsTup s.heap t items.toArray) (hs : s.heap.IsSliceOf sl .none .none (.int (-1) u))
    (h : Q (.ref s.heap.objs.size) { s with heap := s.heap.push { cls := .type "tuple", data := .seq items.reverse.toArray } }) (hsz : items.length ≤ sizeLine) : wpAny (model prog w) A (getItem (.ref t) (.ref sl)) Q E s := by
  have hTs : s.TypeIs (.ref sl) "slice" := let ⟨os, g1, g2, _⟩ := hs; ⟨os, g1, g2⟩
  have hfit : sizeOk (.seq items.reverse.toArray) := by
    show items.reverse.toArray.size ≤ sizeLine
    rw [List.size_toArray, List.length_reverse]
    exact hsz
  unfold getItem
  try with_reducible refine wpAny_holding ?_
  first | refine wpAny_bind (wpAny_pure ?_) | skip
  refine wpAny_bind (wpAny_sequenceKey ht.typeIs (by decide) ?_)
  refine wpAny_bind (wpAny_callSpecial?_slot (name := Str.ofString "__getitem__") ht.typeIs PyProof.Rows.slot_tuple_getitem (wpAny_call_entry PyProof.Rows.slot_tuple_getitem ht.typeIs entry_tuple_getitem ?_ (args_tuple_getitem _ _)))
  show wpAny _ _ (Builtin.Tuple.tupleItemsOf (.ref t) >>= _) _ _ s
  refine wpAny_bind (tupleItemsOf_ ht (wpAny_bind (wpAny_typeOf hTs ?_)))
  rw [if_pos (by decide)]
  refine wpAny_bind (slApp_back hs ?_)
  have no : ¬ ((((items.toArray.size : Nat) : Int) - 1 == 0 && (-1 : Int) == 1 && items.toArray.size == items.toArray.size) = true) := by
    intro q
    rw [Bool.and_eq_true, Bool.and_eq_true] at q
    exact absurd (eq_of_beq q.1.2) (by decide)
  show wpAny _ _ (if (((items.toArray.size : Nat) : Int) - 1 == 0 && (-1 : Int) == 1 && items.toArray.size == items.toArray.size) = true then _ else _) _ _ s
  rw [if_neg no]
  have e : ((List.range items.toArray.size).filterMap fun (k : Nat) => items.toArray[(((items.toArray.size : Nat) : Int) - 1 + (k : Int) * (-1)).toNat]?) = items.reverse := by
    rw [List.size_toArray]
    exact pick_back items
  rw [e]
  first
    | exact wpAny_bind (m := Builtin.Tuple.tupleExact _) (wpAny_newObj_type (wpAny_pure ⟨_, rfl, wpAny_pure h⟩) hfit)
    | exact wpAny_bind (m := Builtin.Tuple.tupleExact _) (wpAny_newObj_type (wpAny_bind (wpAny_pure (wpAny_pure ⟨_, rfl, wpAny_pure h⟩))) hfit)
    | exact wpAny_bind (wpAny_bind (m := Builtin.Tuple.tupleExact _) (wpAny_newObj_type (wpAny_pure (wpAny_pure ⟨_, rfl, wpAny_pure h⟩)) hfit))
    | exact wpAny_bind (wpAny_bind (m := Builtin.Tuple.tupleExact _) (wpAny_newObj_type (wpAny_pure ⟨_, rfl, wpAny_pure h⟩) hfit))
end
section
variable {X : Cx}
def tRevT (K : PySem.W.Frag) (te : TE) : TE := fun σ H Q => te σ H fun x H1 => ∃ a xs, x = .ref a ∧ SqT K H1 a xs ∧ ∀ p, H1 p = none → Q (.ref p) (upd H1 p (.tup xs.reverse))
theorem pe_revT {e : Expr} {te : TE} {k : Nat} {p1 p2 p3 pos : Pos} (he : PE X e te) : PE X (.Subscript e (.Slice none none (some (.UnaryOp .USub (.Constant (.int 1) k p1) p2)) p3) pos) (tRevT X.K te) := by
  refine ⟨fun pins s σ H Q I h => Subscript_ (thn (he.run pins s σ H _ I h) fun v s1 ⟨x, H1, I1, r1, a, xs, ex, hx, q⟩ => ?_)⟩
  subst ex
  cases r1
  have hst : PO X (some (.UnaryOp .USub (.Constant (.int 1) k p1) p2)) (tPart (tUn (rU fun i => .int (-i)) (tC (.int 1)))) := po_some (pe_un un_neg pe_int)
  refine wpAny_Slice (thn (po_none.run pins s1 σ H1 (fun o H2 => o = none ∧ H2 = H1) I1 ⟨rfl, rfl⟩) fun vl s2 ⟨l, H2, I2, pl, el, e2⟩ => ?_)
  subst el e2
  refine thn (po_none.run pins s2 σ H2 (fun o H3 => o = none ∧ H3 = H2) I2 ⟨rfl, rfl⟩) fun vu s3 ⟨u, H3, I3, pu, eu, e3⟩ => ?_
  subst eu e3
  refine thn (hst.run pins s3 σ H3 (fun o H4 => o = some (-1) ∧ H4 = H3) I3 ⟨1, rfl, -1, rfl, rfl, rfl⟩) fun vs s4 ⟨o, H4, I4, ps, eo, e4⟩ => ?_
  subst eo e4
  have I5 : Inv X pins σ H4 { s4 with heap := s4.heap.push { cls := .type "slice", data := .fields #[vl, vu, vs] } } := I4.kept (t' := s4.toks) fun b ob q => Heap.get?_push_of_some _ q
  obtain ⟨its, r, ht, hz⟩ := I5.tuple hx
  have hlen := r.length
  cases pl
  cases pu
  obtain ⟨tk, rfl⟩ : ∃ tk, vs = .int (-1) tk := by
    cases ps
    exact ⟨_, rfl⟩
  show wpAny (model X.prog X.w) X.A (subscriptTail e (.Slice none none (some (.UnaryOp .USub (.Constant (.int 1) k p1) p2)) p3) (.ref a) (.ref s4.heap.objs.size)) (EP X pins σ Q) X.xe { s4 with heap := s4.heap.push { cls := .type "slice", data := .fields #[.none, .none, .int (-1) tk] } }
  refine tail_any (ops := [.ref a, .ref s4.heap.objs.size]) ht.typeIs PyProof.Rows.slot_tuple_getitem.lookup ?_ (by with_unfolding_all rfl)
  refine getItem_tuple_back ht (Heap.IsSliceOf.new _ _ _ _) ?_ (by omega)
  refine ⟨.ref _, _, I5.laid (t' := s4.toks) (o := .tup xs.reverse) (fun b ob q => Heap.get?_push_of_some _ q) (Nat.le_refl _) ?_, rfl, q _ (I5.hok.fresh (Nat.le_refl _))⟩
  exact ⟨by rw [List.length_reverse]; exact hz, _, r.reverse, ⟨_, Heap.get?_push_size _ rfl, rfl, _, rfl⟩⟩
end
theorem ext_tup (l : Addr) (items : Array Value) (n : Nat) (b : Addr) (items2 : Array Value) (n2 : Nat) (dd : Option Addr) (sl : Array (Option Value)) (hs0 : ¬(!items.isEmpty && Builtin.List.listTooLong (items.size + items2.size)) = true)
    (hs1 : items.size ≤ sizeLine) (hs2 : items.size + items2.size ≤ sizeLine + 1) :
    Meets (Builtin.«list.extend» ⟨[.ref l, .ref b], []⟩) (fun _ R s => s.heap.get? l = some { cls := .type "list", dict := none, data := .seq items n, slots := #[] } ∧ s.heap.get? b = some { cls := .type "tuple", dict := dd, data := .seq items2 n2, slots := sl } ∧
      R (.ok (.ret Value.none)) { s with heap := s.heap.update l (Obj.mapSeq fun x => x ++ items2), toks := s.toks }) :=
  .of_wp fun prog w A R s h => by
    obtain ⟨hp, g, d, tk, os⟩ := s
    obtain ⟨hl, hb, h⟩ := h
    have f1 := AutoSeq1.idx_int
    have f2 := AutoSeq1.sub_tuple_tuple
    have f3 := AutoSeq1.sub_list_list
    have f4 := AutoSeq1.sub_tuple_list
    have f5 := AutoSeq1.sub_list_tuple
    have hz' : (items ++ items2).size ≤ sizeLine + 1 := by
      rw [Array.size_append]
      exact hs2
    wp_walk using (wpAny_updateSeq hl rfl (hz := hs1) (_hz' := hz')), AutoSeq1.wpAny_loadPart' hl, AutoSeq1.wpAny_loadPart' hb
    exact ⟨_, rfl, h⟩
section
variable {X : Cx}
def rExtT (K : PySem.W.Frag) : V → List V → Hp → VK → Prop := fun x vs H Q => ∃ l b xs zs, x = .ref l ∧ vs = [.ref b] ∧ H l = some (.lst xs) ∧ SqT K H b zs ∧ xs.length + zs.length ≤ sizeLine ∧ Q .non (upd H l (.lst (xs ++ zs)))
theorem mt_extT : MtM X "list.extend" (rExtT X.K) := by
  intro pins s σ H x vs v us Q I rx rv h
  obtain ⟨l, b, xs, zs, rfl, rfl, hH, hB, hz, q⟩ := h
  cases rx
  obtain ⟨u, rfl, ru⟩ := rv.one
  cases ru
  obtain ⟨z, its, n, r, hl, e⟩ := I.lstM hH
  obtain ⟨its2, r2, ⟨⟨cls, dd, data, sl⟩, e2, hc, n2, hd⟩, hz2⟩ := I.tuple hB
  simp only at hc hd
  subst hc hd
  have hl2 := r2.length
  have hsz : its.toArray.size + its2.toArray.size ≤ sizeLine := by
    rw [List.size_toArray, List.size_toArray]
    omega
  have hlong : ¬ (!its.toArray.isEmpty && Builtin.List.listTooLong (its.toArray.size + its2.toArray.size)) = true := by
    rw [notLongL hsz, Bool.and_false]
    exact Bool.false_ne_true
  refine call_meets F.slot_list_extend ⟨_, e, rfl⟩ F.entry_list_extend (F.args_list_extend_2 _ _) (ext_tup l its.toArray n b its2.toArray n2 dd sl hlong (by rw [List.size_toArray]; omega) (by omega)) ⟨e, e2, ?_⟩
  refine ⟨.non, _, I.lset (its' := its ++ its2) hH e (by simp) (r.append r2) ?_, rfl, q⟩
  rw [List.length_append]
  omega
end
end TX
namespace TX
open PySem PySem.Spec PySem.Calls PyProof.Rows L2
open PySem.W (Frag InstAt findIn subIn hasDictIn specialIn takesIn mroIn clsIn Looks looks_findIn looks_find looks_subIn KitX)
section
variable {prog : Program} {w : World} {A : Around} {E : Value → Shared → Prop} {s : Shared} {K : Frag} {x D : Addr} {ox : Obj} {od : Option Obj}
theorem clsSome {D : Addr} (h : hasDictIn K D = true) : (clsIn K D).isSome = true := by
  unfold hasDictIn at h
  cases e : clsIn K D with
  | none => rw [e] at h; cases h
  | some c => rfl
theorem findData {C : Addr} {name : Str} {a g : Value} (hc : (clsIn K C).isSome = true) (ha : findIn K (.ref C) name = some (some a)) (hg : specialIn K a "__get__" = some (some g)) (ht : takesIn K a = some true) :
    PySem.W.findObj K C od name = some (.bind g a) := by
  obtain ⟨cd, hc⟩ := Option.isSome_iff_exists.mp hc
  simp [PySem.W.findObj, hc, ha, hg, ht]
/-- e.__class__ of an exception of an own class, with or without a dict of its own -/
theorem classOf {Q : Option Value → Shared → Prop} (T : ExcC K D) (X : K.In s.heap) (I : InstAt s.heap x ox D od) (h : Q (some (.ref D)) { s with toks := s.toks + 1 }) : wpAny (model prog w) A (getAttr? (.ref x) "__class__") Q E s := by
  have hf : PySem.W.findObj K D od "__class__" = some (.bind (.builtin "getset_descriptor.__get__") (.builtin "object.__class__")) := findData (clsSome T.hd) T.ha T.hn T.ht
  obtain ⟨hp, g, d, t, os⟩ := s
  have L0 := I.type (M := model prog w)
  have L1 := looks_findIn (M := model prog w) X T.hg
  have L2 := looks_findIn (M := model prog w) X T.hk
  have L3 := looks_find (M := model prog w) X I hf
  have sub : Looks (model prog w) hp (isInstance (.ref x) (.type "BaseException")) true := L0.andThen (looks_subIn X T.hs)
  have n0 : (false && onTheHeap (Value.builtin "BaseException.__getattribute__")) = false := rfl
  have n2 : (Value.builtin "BaseException.__getattribute__" == Value.builtin "object.__getattribute__") = false := by decide +kernel
  have n1 : (onTheHeap (Value.ref D) && Value.builtin "BaseException.__getattribute__" == Value.builtin "object.__getattribute__") = false := by
    rw [n2]
    rfl
  unfold getAttr? getAttrBy? getAttrBy
  refine wpAny_bind (wpAny_mkText (wpAny_bind (wpAny_attempt (wpAny_holding (wpAny_bind (L0.at (wpAny_bind (L1.at ?_))))))))
  show wpAny _ _ (if (onTheHeap (Value.ref D) && Value.builtin "BaseException.__getattribute__" == Value.builtin "object.__getattribute__") = true then _ else _) _ _ _
  rw [n1, if_neg Bool.false_ne_true]
  unfold getAttrByItsOwn hookBefore
  refine wpAny_bind ?_
  rw [if_pos (show onTheHeap (Value.ref D) = true from rfl)]
  refine L2.at (wpAny_bind (wpAny_attempt (wpAny_holding ?_)))
  unfold callGetattribute
  rw [n0, if_neg Bool.false_ne_true]
  unfold boundAndCalled
  rw [PySem.F.excAttr_ValueError.ga.bind (.ref x)]
  refine wpAny_bind (wpAny_pure ?_)
  show wpAny _ _ (call (.builtin "BaseException.__getattribute__") [.ref x, .str "__class__" t]) _ _ _
  refine wpAny_call (codeAny_call_builtin PySem.F.excAttr_ValueError.ga.plain PySem.F.entry_bexc_ga ?_)
  refine @PySem.W.check_slot (model prog w) _ _ ⟨hp, g, d, t + 1, os⟩ "BaseException.__getattribute__" "BaseException" "__getattribute__" (.ref x) [.str "__class__" t] [] _ (by decide +kernel) (by decide +kernel) sub (PySem.F.args_bexc_ga (.ref x) (.str "__class__" t)) ?_
  unfold Builtin.«object.__getattribute__»
  refine wpAny_bind (wpAny_of_eq (a := ((Value.ref x : Value), [Value.str "__class__" t])) (by first | rfl | (simp only [slotArgs]; rfl)) ?_)
  refine wpAny_bind (wpAny_pure (wpAny_bind (L0.at (wpAny_bind (L3.at ?_)))))
  show wpAny _ _ (holding [Value.builtin "object.__class__"] (call (.builtin "getset_descriptor.__get__") [.builtin "object.__class__", .ref x, .ref D]) >>= ret) _ _ _
  refine wpAny_bind (wpAny_holding (wpAny_call (PySem.W.class_get (s := ⟨hp, g, d, t + 1, os⟩) (ox := ox) (od := od) X I T.hm (wpAny_pure ?_))))
  show wpAny _ _ (handedOut (.ref D)) _ _ _
  rw [PySem.W.handedOut_of (v := .ref D) rfl]
  first
    | exact wpAny_pure (wpAny_pure h)
    | exact wpAny_pure h
    | exact wpAny_pure (wpAny_bind (wpAny_pure (wpAny_pure h)))
theorem kitE (T : ExcC K D) : KitX K (.ref x) (.ref D) (fun h => InstAt h x ox D od) where
  ty := fun _ _ _ I => I.type
  it := fun _ _ X _ => by
    obtain ⟨cd, hc⟩ := Option.isSome_iff_exists.mp (clsSome T.hd)
    unfold clsIn at hc
    split at hc
    · rename_i c' d' cd' sl' ho
      intro A' Q' E' s' k q
      unfold isType loadHead
      exact wpAny_bind (wpAny_loadPart (k _ _ (X _ _ ho)) (wpAny_pure q))
    · cases hc
  ne := fun h tp dd its n sl X htp => by
    obtain ⟨cd, hc⟩ := Option.isSome_iff_exists.mp (clsSome T.hd)
    refine Bool.eq_false_iff.mpr fun q => ?_
    have e : D = tp := Value.ref.inj (beq_iff_eq.mp q)
    subst e
    unfold clsIn at hc
    split at hc
    · rename_i c' d' cd' sl' ho
      have z := (X _ _ ho).symm.trans htp
      cases z
    · cases hc
  ca := fun X I k => classOf T X I k
end
/-- the exception that the suite holds, as the state has it -/
theorem atE {X : Cx} {pins : List (Addr × Obj)} {σ : L2.St} {H : Hp} {s : Shared} {a D : Addr} {oe : Obj} {d : Option Addr} {pn : List (Addr × Obj)} (I : Inv (X.suite a ((a, oe) :: pn)) pins σ H s) (hz : Zc (.ref D) d oe) (hf : ∃ vs, oe.data = .fields vs)
    (hd : ∀ dd, d = some dd → ∃ fs, H dd = some (.xd fs)) : ∃ od, InstAt s.heap a oe D od := by
  obtain ⟨hget, _⟩ := I.pin (a, oe) (List.mem_append.mpr (.inl List.mem_cons_self))
  obtain ⟨vs, hv⟩ := hf
  obtain ⟨oc, odd, oda, osl⟩ := oe
  obtain ⟨h1, h2⟩ := hz
  dsimp only at h1 h2 hv
  subst h1 h2 hv
  cases odd with
  | none => exact ⟨none, hget, rfl, rfl, trivial⟩
  | some dd =>
    obtain ⟨fs, hx⟩ := hd dd rfl
    have ob : ObjOk X.prog X.w H s.heap dd (.xd fs) := I.hok dd _ hx
    obtain ⟨mA, ⟨o, es, ep, ho, _⟩, _⟩ := ob
    exact ⟨some o, hget, rfl, rfl, ho⟩
/-- isinstance(e, c) -/
def rIsE2 (K : Frag) (D a : Addr) (d : Option Addr) : List V → Hp → VK → Prop := fun xs H Q => ∃ (c : V) (cv : Value) (b : Bool), xs = [.ref a, c] ∧ ClsV c cv ∧ PySem.W.kitOne K (.ref D) cv = some b ∧ (∀ dd, d = some dd → ∃ fs, H dd = some (.xd fs)) ∧ Q (.bl b) H
theorem call_isE2 {X : Cx} {a D : Addr} {oe : Obj} {d : Option Addr} {pn : List (Addr × Obj)} (C : ExcC X.K D) (hz : Zc (.ref D) d oe) (hf : ∃ vs, oe.data = .fields vs) : CallR (X.suite a ((a, oe) :: pn)) (.builtin "isinstance") (rIsE2 X.K D a d) := by
  intro pins s σ H xs us Q I r h
  obtain ⟨c, cv, b, rfl, hcv, e, hd, q⟩ := h
  obtain ⟨u1, u2, rfl, r1, r2⟩ := vals2 r
  cases (show u1 = Value.ref a from r1)
  cases hcv.eq r2
  obtain ⟨od, J⟩ := atE I hz hf hd
  exact PySem.W.kia_one (kitE C) I.kIn J e (fun z => nomatch z) fun tk => ⟨.bl b, H, I.tok tk, rfl, q⟩
/-- isinstance(e, (c1, c2, ..)) -/
def rIsET (K : Frag) (D a : Addr) (d : Option Addr) : List V → Hp → VK → Prop := fun xs H Q => ∃ (tp : Addr) (cs : List V) (us : List Value) (b : Bool), xs = [.ref a, .ref tp] ∧ H tp = some (.tup cs) ∧ Paired ClsV cs us ∧ PySem.W.kitAny K (.ref D) us = some b ∧
  (∀ dd, d = some dd → ∃ fs, H dd = some (.xd fs)) ∧ Q (.bl b) H
theorem call_isET {X : Cx} {a D : Addr} {oe : Obj} {d : Option Addr} {pn : List (Addr × Obj)} (C : ExcC X.K D) (hz : Zc (.ref D) d oe) (hf : ∃ vs, oe.data = .fields vs) : CallR (X.suite a ((a, oe) :: pn)) (.builtin "isinstance") (rIsET X.K D a d) := by
  intro pins s σ H xs us Q I r h
  obtain ⟨tp, cs, ws, b, rfl, hT, k, e, hd, q⟩ := h
  obtain ⟨u1, u2, rfl, r1, r2⟩ := vals2 r
  cases (show u1 = Value.ref a from r1)
  cases (show u2 = Value.ref tp from r2)
  obtain ⟨_, its, rv, o, h1, h2, n, h3⟩ := (show ObjOk X.prog X.w H s.heap tp (.tup cs) from I.hok tp _ hT)
  cases ClsV.all k rv
  obtain ⟨oc, odd, dt, sl⟩ := o
  simp only at h2 h3
  subst h2 h3
  obtain ⟨od, J⟩ := atE I hz hf hd
  exact PySem.W.kia_tup (kitE C) I.kIn J h1 e (fun z => nomatch z) fun tk => ⟨.bl b, H, I.tok tk, rfl, q⟩
/-! ### X(), an own exception class whose __init__ stores nothing -/
def tMkN (C : Addr) (sp : Sp) : L2.St → Hp → XK → Prop := fun _ H Q => ∀ a, H a = none → sp [.ref a] (upd H a (exo a C none)) (fun v H2 => v = .non ∧ H2 a = some (exo a C none) ∧ Q (.ref C) none (del H2 a)) (fun _ _ _ => False)
theorem pmk_oexN {X : Cx} {CX : CXT} {x : Str} {C fI : Addr} {k : Nat} {fd : FuncData} {ps : List Str} {sp : Sp} {p pos : Pos} (T : OexC X.K C) (iC : findIn X.K (.ref C) "__init__" = some (some (.ref fI))) (tI : PySem.W.typeIn X.K (.ref fI) = some (.type "function"))
    (F1 : FnOk X.prog X.w X.K X.mg X.base CX k fI fd ps sp) (hr : Room (k + 1) X.A) (hb : Binds X.K fd ps []) (hx : Passes CX X (fun _ _ _ => False)) (hg : Gl X x) (hm : X.mg x = some (.ref C)) (hdb : (x == ("__debug__" : Str)) = false := by decide) :
    PMk X (.Call (.Name x p) [] [] pos) (tMkN C sp) := by
  intro pins s σ H Q I h
  obtain ⟨nm, q, N, bs, bm, sn, sub, ab, col, dd, k0, k1, k2, k3, k5, hC, hbm⟩ := T.cls
  refine wpAny_Call_Name_kw (ld_glob I hg hm (PySem.W.callWith_K0 I.kIn T.kC ?_) hdb)
  obtain ⟨hp, g, dr, tk, os⟩ := s
  have hsz : hp.objs.size ≤ hp.objs.size + 1 := Nat.le_succ _
  have hn : H (hp.objs.size + 1) = none := I.hok.fresh hsz
  have hq := h (hp.objs.size + 1) hn
  have kk : ∀ b o, hp.get? b = some o → ((hp.push (PySem.W.kdv_tup [])).push (PySem.HandSPX.excO C hp.objs.size)).get? b = some o := fun b o e => Heap.get?_push_of_some _ (Heap.get?_push_of_some _ e)
  have hget : ((hp.push (PySem.W.kdv_tup [])).push (PySem.HandSPX.excO C hp.objs.size)).get? (hp.objs.size + 1) = some (PySem.HandSPX.excO C hp.objs.size) := by heap_get
  have I2 : Inv X pins σ (upd H (hp.objs.size + 1) (exo (hp.objs.size + 1) C none)) ⟨(hp.push (PySem.W.kdv_tup [])).push (PySem.HandSPX.excO C hp.objs.size), g, dr, tk, os⟩ :=
    I.laid (t' := tk) (a := hp.objs.size + 1) (o := exo (hp.objs.size + 1) C none) (h' := (hp.push (PySem.W.kdv_tup [])).push (PySem.HandSPX.excO C hp.objs.size)) kk hsz (exo_ok hget)
  have r2 : Vals [V.ref (hp.objs.size + 1)] [Value.ref (hp.objs.size + 1)] := .cons rfl .nil
  have hl : ([Value.ref (hp.objs.size + 1)] ++ ([] : List Value)).length = ps.length := (F1.len _ _ _ _ hq).symm ▸ rfl
  refine wpAny_call (PySem.HandSPX.call_own F.excBase_ValueError (fun Y => PySem.HandSPX.refsVE_contains Y bm hbm) (I.kIn _ _ hC) (looks_findIn I.kIn iC) (fun self => PySem.W.bind_fn I.kIn self tI) (by show 0 ≤ sizeLine; exact Nat.zero_le _)
    (codeAny_mono (F1.run _ X.stack _ _ ⟨[Value.ref (hp.objs.size + 1)], []⟩ [Value.ref (hp.objs.size + 1)] _ _ (fun _ _ _ => False) (hr.make C [] []) (I2.env0.make C [] []) (hb _ [Value.ref (hp.objs.size + 1)] I2.kIn hl) r2 hq) fun r s' hq' => ?_))
  cases r with
  | error er => exact hx pins σ _ _ er s' I2 hq'
  | ok fl => cases fl with
    | next => exact False.elim hq'
    | brk => exact False.elim hq'
    | cont => exact False.elim hq'
    | ret u =>
      obtain ⟨v, H2, os2, bare2, un2, hok2, rv, ev, ea, q2⟩ := hq'
      subst ev
      refine ⟨rv, ?_⟩
      obtain ⟨h2, g2, d2, t2, os'⟩ := s'
      generalize hA : hp.objs.size + 1 = a at *
      obtain ⟨t0, hoe⟩ := exo_at hok2 ea
      obtain ⟨G, g1', g2'⟩ := restrict h2 fun b => decide (b ≠ a)
      have gk : ∀ b, b ≠ a → G.get? b = h2.get? b := fun b hb => g1' b (decide_eq_true hb)
      have ge : G.get? a = none := g2' a (by simp)
      have nha : ∀ {b : Addr} {o : Obj}, hp.get? b = some o → b ≠ a := fun {b o} z => Nat.ne_of_lt (Nat.lt_of_lt_of_le (Heap.lt_size z) hsz)
      have up : ∀ {b : Addr}, b ≠ a → H b = none → upd H a (exo a C none) b = none := fun {b} hb n => by
        rw [upd_ne hb]
        exact n
      have U : Un (frs X.stack) [] H (del H2 a) hp G := {
        keep := fun b o z n hf hx => (gk b (nha z)).trans (un2.keep b o (kk b o z) (up (nha z) n) hf hx)
        slot := fun b o z n hf hx => by
          rw [gk b (nha z)]
          exact un2.slot b o (kk b o z) (up (nha z) n) hf hx
        free := fun b o z n hx => by
          rw [del_ne (nha z)]
          exact un2.free b o (kk b o z) (up (nha z) n) hx
        there := fun b o z hx => by
          rw [gk b (nha z)]
          exact un2.there b o (kk b o z) hx
        tups := fun b xs z => by
          rw [del_ne (ne_of_none z hn)]
          exact un2.tups b xs (by rw [upd_ne (ne_of_none z hn)]; exact z)
        frzs := fun b o v z => by
          rw [del_ne (ne_of_none z hn)]
          exact un2.frzs b o v (by rw [upd_ne (ne_of_none z hn)]; exact z)
        tbls := fun b ps z => by
          rw [del_ne (ne_of_none z hn)]
          exact un2.tbls b ps (by rw [upd_ne (ne_of_none z hn)]; exact z) }
      have hok3 : HOk X.prog X.w (del H2 a) G := fun b o z => by
        have hba : b ≠ a := fun e => by
          rw [e, del_same] at z
          cases z
        rw [del_ne hba] at z
        have noa : ∀ {c : Addr}, H2 c = some (.own b) → c ≠ a := fun {c} hc => at_ne ea hc exo_own
        refine (hok2 b o z).stay (fun c v hc y => ?_) (fun c hc => by rw [del_ne (noa hc)]; exact hc) (fun c xs hc => by rw [del_ne (at_ne ea hc exo_tup)]; exact hc)
        have hca : c ≠ a := hc.elim (fun e => e ▸ hba) noa
        exact (gk c hca).trans y
      have J : Inv X pins σ (del H2 a) ⟨G, g2, d2, t2, os'⟩ := I.call' (ch := []) os2 U hok3 bare2 (fun b z => absurd z (by simp))
      refine ⟨a, _, _, ⟨G, g2, d2, t2, os'⟩, _, .ref C, none, rfl, J, fun b o z => ?_, ge, hoe, ⟨rfl, rfl⟩, rfl, rfl, del_same, rfl, bare2, raises_own T.exC T.tyC, q2⟩
      by_cases hba : b = a
      · rw [hba] at z
        have z' : G.get? a = some o := z
        rw [ge] at z'
        cases z'
      · exact (gk b hba).symm.trans z
end TX
namespace TX
open PySem PySem.Spec PyProof.Rows L2
def top (i : Nat) : Stmt := PySem.Challenge.pw_textorlist_k16_shapes_by_operators.main.body.getD i (.Pass ⟨0, 0, 0, 0⟩)
abbrev s__wall : Stmt := top 0
abbrev sParts : Stmt := top 2
abbrev sCopy : Stmt := top 3
abbrev s_is_text : Stmt := top 6
abbrev s_place_of_last : Stmt := top 7
abbrev s_first_fault : Stmt := top 8
abbrev s_is_value : Stmt := top 9
abbrev s_row_of_texts : Stmt := top 20
abbrev s_row_of_step : Stmt := top 21
abbrev s_step_asked : Stmt := top 22
abbrev s_has_row : Stmt := top 23
abbrev s_told_by : Stmt := top 24
abbrev s_longer_plan : Stmt := top 25
abbrev s_leaf_number : Stmt := top 26
abbrev s_list_look : Stmt := top 27
abbrev s_is_member : Stmt := top 28
abbrev s_first_step : Stmt := top 30
abbrev s_step_above : Stmt := top 31
abbrev s_step_over_both : Stmt := top 32
abbrev s_combined : Stmt := top 33
abbrev s_is_in_step : Stmt := top 34
abbrev s_answers_to : Stmt := top 35
abbrev s_asked_steps : Stmt := top 36
abbrev s_letters_told_apart : Stmt := top 37
abbrev s_look_of_text : Stmt := top 38
abbrev s_answers_for : Stmt := top 39
abbrev s_least_leaves : Stmt := top 40
abbrev s_list_rows : Stmt := top 41
abbrev s_least_rows : Stmt := top 42
abbrev s_least_value : Stmt := top 43
abbrev cShape : Stmt := top 45
abbrev mShape_init : Stmt := inClass (top 45) 1
abbrev mShape_every : Stmt := inClass (top 45) 2
abbrev mShape_never : Stmt := inClass (top 45) 3
abbrev mShape_nothing : Stmt := inClass (top 45) 4
abbrev mShape_texts : Stmt := inClass (top 45) 5
abbrev mShape_lists : Stmt := inClass (top 45) 6
abbrev mShape_nested : Stmt := inClass (top 45) 7
abbrev mShape_or : Stmt := inClass (top 45) 8
abbrev mShape_and : Stmt := inClass (top 45) 9
abbrev mShape_sub : Stmt := inClass (top 45) 10
abbrev mShape_invert : Stmt := inClass (top 45) 11
abbrev mShape_ior : Stmt := inClass (top 45) 12
abbrev mShape_iand : Stmt := inClass (top 45) 13
abbrev mShape_contains : Stmt := inClass (top 45) 14
abbrev mShape_eq : Stmt := inClass (top 45) 15
abbrev mShape_bool : Stmt := inClass (top 45) 16
abbrev mShape_least : Stmt := inClass (top 45) 17
abbrev mShape_least_beyond : Stmt := inClass (top 45) 18
abbrev mShape_within : Stmt := inClass (top 45) 19
abbrev sBag : Stmt := top 47
abbrev sTake : Stmt := top 48
abbrev sText : Stmt := top 49
abbrev sSize : Stmt := top 50
abbrev sValue : Stmt := top 51
abbrev sGreat : Stmt := top 52
abbrev s__law_leaf : Stmt := top 53
abbrev s__law_shape : Stmt := top 54
abbrev s__law_has : Stmt := top 55
abbrev s__law_all : Stmt := top 56
abbrev sLaw : Stmt := top 57
end TX
namespace TX
open PySem PySem.Spec PyProof.Rows L2
/-! ### the walk over data: a step takes the first of the parts that wait -/
inductive Stp (K : PySem.W.Frag) (H : Hp) : List V × List PyData → V → List V × List PyData → Prop
  | leaf {v : V} {d : PyData} {r : List V} {rd : List PyData} : Dp K H v d → (tyD d == "list" || tyD d == "tuple") = false → Stp K H (v :: r, d :: rd) v (r, rd)
  | lst {a : Addr} {xs r : List V} {es rd : List PyData} : SqL K H a xs → DpAll K H xs es → Stp K H (.ref a :: r, .list es :: rd) (.ref a) (xs ++ r, es ++ rd)
  | tup {a : Addr} {xs r : List V} {es rd : List PyData} : SqT K H a xs → DpAll K H xs es → Stp K H (.ref a :: r, .tuple es :: rd) (.ref a) (xs ++ r, es ++ rd)
/-- the parts so far, the last one first -/
inductive Path (K : PySem.W.Frag) (H : Hp) (S0 : List V × List PyData) : List V → List V × List PyData → Prop
  | nil : Path K H S0 [] S0
  | cons {rs : List V} {S S' : List V × List PyData} {p : V} : Path K H S0 rs S → Stp K H S p S' → Path K H S0 (p :: rs) S'
theorem isLT (d : PyData) (K : PySem.W.Frag) : PySem.W.kitAny K (.type (tyD d)) [.type "list", .type "tuple"] = some (tyD d == "list" || tyD d == "tuple") := by
  cases d with
  | none => exact kitAny_cons (b := false) (kit_ty (a := "NoneType") (b := "list") (by decide +kernel)) (fun _ => kitAny_cons (b := false) (kit_ty (a := "NoneType") (b := "tuple") (by decide +kernel)) (fun _ => kitAny_nil) (fun z => nomatch z)) (fun z => nomatch z)
  | bool _ => exact kitAny_cons (b := false) (kit_ty (a := "bool") (b := "list") (by decide +kernel)) (fun _ => kitAny_cons (b := false) (kit_ty (a := "bool") (b := "tuple") (by decide +kernel)) (fun _ => kitAny_nil) (fun z => nomatch z)) (fun z => nomatch z)
  | int _ => exact kitAny_cons (b := false) (kit_ty (a := "int") (b := "list") (by decide +kernel)) (fun _ => kitAny_cons (b := false) (kit_ty (a := "int") (b := "tuple") (by decide +kernel)) (fun _ => kitAny_nil) (fun z => nomatch z)) (fun z => nomatch z)
  | str _ => exact kitAny_cons (b := false) (kit_ty (a := "str") (b := "list") (by decide +kernel)) (fun _ => kitAny_cons (b := false) (kit_ty (a := "str") (b := "tuple") (by decide +kernel)) (fun _ => kitAny_nil) (fun z => nomatch z)) (fun z => nomatch z)
  | dict _ => exact kitAny_cons (b := false) (kit_ty (a := "dict") (b := "list") (by decide +kernel)) (fun _ => kitAny_cons (b := false) (kit_ty (a := "dict") (b := "tuple") (by decide +kernel)) (fun _ => kitAny_nil) (fun z => nomatch z)) (fun z => nomatch z)
  | list _ => exact kitAny_cons (b := true) (kit_ty (a := "list") (b := "list") (by decide +kernel)) (fun z => nomatch z) (fun _ => rfl)
  | tuple _ => exact kitAny_cons (b := false) (kit_ty (a := "tuple") (b := "list") (by decide +kernel)) (fun _ => kitAny_cons (b := true) (kit_ty (a := "tuple") (b := "tuple") (by decide +kernel)) (fun z => nomatch z) (fun _ => rfl)) (fun z => nomatch z)
/-- what the walk asks of the names of the top -/
structure Nm (mg : Str → Option Value) : Prop where
  isi : mg "isinstance" = none
  lst : mg "list" = none
  tpl : mg "tuple" = none
def spParts (K : PySem.W.Frag) : Sp := fun vs H Q _ => ∃ (v : V) (d : PyData) (Hv : Hp), vs = [v] ∧ Same Hv H ∧ Dp K Hv v d ∧ nd d ≤ 1000000 ∧
  ∀ (H' : Hp) (p : Addr) (rs : List V), Same H H' → H p = none → H' p = some (.lst rs.reverse) → Path K Hv ([v], [d]) rs ([], []) → rs.length = nd d → Q (.ref p) H'
section
variable {P : Program} {w : World} {K : PySem.W.Frag} {mg : Str → Option Value} {base : Heap}
theorem scParts : FnScope ["thing", "waiting", "parts", "part"] ["thing"] (defScope sParts) := ⟨rfl, rfl, rfl, by decide +kernel, rfl, by decide +kernel, by decide +kernel⟩
theorem ok_parts {f : Addr} {fd : FuncData} {k : Nat} (F : Fun K "all_parts" "all_parts" sParts f fd) (T : Nm mg) : FnOk P w K mg base CX0 (k + 1) f fd ["thing"] (spParts K) := by
  refine F.ok scParts (fun vs H Q E h => ?_) (fun cdv A outer s H vs Q E hr h => ?_)
  · obtain ⟨v, d, Hv, rfl, _⟩ := h
    rfl
  · obtain ⟨v, d, Hv, rfl, sv, hd, hn, q⟩ := h
    refine ⟨_, pss_cons (ps_set (i := 1) scParts.nd rfl (.inl rfl) (pe_lst (pa_cons (pv 0) pa_nil)))
      (pss_cons (ps_set (i := 2) scParts.nd rfl (.inl rfl) (pe_lst pa_nil))
      (pss_cons (ps_while PassesOwn.never (pt_truth (pv 1) (by intro _; rfl))
        (pss_cons (ps_set (i := 3) scParts.nd rfl (.inl rfl) (pe_bm0 PySem.F.plainAttrs_list PySem.F.slot_list_pop PySem.F.type_list_pop mt_pop (pv 1)))
        (pss_cons (ps_expr (pe_bm PySem.F.plainAttrs_list PySem.F.slot_list_append PySem.F.type_list_append mt_append (pv 2) (pa_cons (pv 3) pa_nil)))
        (pss_one (ps_if (pt_val (pe_callB call_isiT (by rfl) T.isi (by decide +kernel) (pa_cons (pv 3) (pa_cons (pe_tup (pa_cons (pe_bltn (v := .ty "list") (by rfl) T.lst (by decide +kernel) rfl) (pa_cons (pe_bltn (v := .ty "tuple") (by rfl) T.tpl (by decide +kernel) rfl) pa_nil))) pa_nil))))
          (pss_one (ps_alt (ps_expr (pe_bm PySem.F.plainAttrs_list PySem.F.slot_list_extend PySem.F.type_list_extend mt_extend (pv 1) (pa_cons (pe_revL (pv 3)) pa_nil)))
            (ps_expr (pe_bm PySem.F.plainAttrs_list PySem.F.slot_list_extend PySem.F.type_list_extend mt_extT (pv 1) (pa_cons (pe_revT (pv 3)) pa_nil)))))
          pss_nil)))))
      (pss_one (ps_ret (pv 2))))), ?_⟩
    refine ⟨_, rfl, (by show 1 ≤ sizeLine; decide), fun wa nwa => ⟨by decide, fun pa npa => ?_⟩⟩
    have nwa' : pa ≠ wa := fun e => by
      rw [e, upd_same] at npa
      cases npa
    have npa0 : H pa = none := by
      rw [upd_ne nwa'] at npa
      exact npa
    -- the invariant
    refine ⟨fun m σ H1 => ∃ (rs : List V) (S : List V × List PyData) (y : Option V), σ = [some v, some (.ref wa), some (.ref pa), y] ∧ Same H H1 ∧ H1 wa = some (.lst S.1.reverse) ∧ H1 pa = some (.lst rs.reverse) ∧
      DpAll K Hv S.1 S.2 ∧ Path K Hv ([v], [d]) rs S ∧ rs.length + ndAll S.2 = nd d ∧ m = ndAll S.2, ⟨_, [], ([v], [d]), none, rfl, (same_upd nwa).trans (same_upd npa), ?_, upd_same, .cons hd .nil, .nil, ?_, rfl⟩, ?_⟩
    · rw [upd_ne nwa'.symm, upd_same]
      rfl
    · simp [ndAll]
    rintro m σ H1 ⟨rs, ⟨vs, ds⟩, y, rfl, sm, hw, hp, hS, hP, hc, rfl⟩
    refine ⟨_, rfl, _, .inl ⟨_, SqL.of hw, rfl⟩, ?_⟩
    cases hS with
    | nil =>
      -- nothing waits any more
      refine iteF ?_
      refine ⟨_, rfl, q H1 pa rs sm npa0 hp hP ?_⟩
      simpa [ndAll] using hc
    | @cons v1 r1 d1 rd1 h1 h2 =>
      have hne : (!((v1 :: r1, d1 :: rd1) : List V × List PyData).1.reverse.isEmpty) = true := by simp
      rw [hne]
      refine iteT ?_
      have hlen : rs.length + (nd d1 + ndAll rd1) = nd d := by simpa [ndAll] using hc
      have hrl : rs.length ≤ 1000000 := by omega
      have hvl : r1.length ≤ ndAll rd1 := by
        have e := DpAll.length h2
        have e2 := ndAll_len rd1
        omega
      refine ⟨fun σ' H2 => ∃ (S' : List V × List PyData), σ' = [some v, some (.ref wa), some (.ref pa), some v1] ∧ Same H H2 ∧ H2 wa = some (.lst S'.1.reverse) ∧ H2 pa = some (.lst (v1 :: rs).reverse) ∧ DpAll K Hv S'.1 S'.2 ∧ Stp K Hv (v1 :: r1, d1 :: rd1) v1 S' ∧ ndAll S'.2 + 1 = nd d1 + ndAll rd1, ?_, ?_⟩
      · rintro σ' H2 ⟨S', rfl, g1, g2, g3, g4, g5, g6⟩
        exact ⟨_, by simp only [ndAll]; omega, v1 :: rs, S', _, rfl, g1, g2, g3, g4, .cons hP g5, by rw [List.length_cons]; omega, rfl⟩
      -- part = waiting.pop()
      have ep : ((v1 :: r1, d1 :: rd1) : List V × List PyData).1.reverse = r1.reverse ++ [v1] := by simp
      rw [ep] at hw
      refine ⟨_, rfl, .inl ⟨rfl, _, SqL.of hw⟩, wa, _, v1, rfl, rfl, hw, by simp, ?_⟩
      rw [List.dropLast_concat]
      have sm1 : Same H (upd H1 wa (.lst r1.reverse)) := same_fresh nwa sm
      have hp1 : (upd H1 wa (.lst r1.reverse)) pa = some (.lst rs.reverse) := by
        rw [upd_ne nwa']
        exact hp
      -- parts.append(part)
      refine ⟨_, rfl, .inl ⟨rfl, _, SqL.of hp1⟩, _, rfl, pa, _, _, rfl, rfl, hp1, Nat.lt_of_le_of_lt (by simpa using hrl) (by decide), ?_⟩
      have sm2 := same_fresh (o := .lst (rs.reverse ++ [v1])) npa0 sm1
      have hw2 : (upd (upd H1 wa (.lst r1.reverse)) pa (.lst (rs.reverse ++ [v1]))) wa = some (.lst r1.reverse) := by
        rw [upd_ne nwa'.symm, upd_same]
      have hp2 : (upd (upd H1 wa (.lst r1.reverse)) pa (.lst (rs.reverse ++ [v1]))) pa = some (.lst (rs.reverse ++ [v1])) := upd_same
      -- if isinstance(part, (list, tuple))
      refine ⟨_, rfl, by decide, fun tp ntp => ?_⟩
      have t1 : wa ≠ tp := ne_of_none hw2 ntp
      have t2 : pa ≠ tp := ne_of_none hp2 ntp
      have sm3 : Same H (upd (upd (upd H1 wa (.lst r1.reverse)) pa (.lst (rs.reverse ++ [v1]))) tp (.tup [.ty "list", .ty "tuple"])) := sm2.trans (same_upd ntp)
      have hw3 : (upd (upd (upd H1 wa (.lst r1.reverse)) pa (.lst (rs.reverse ++ [v1]))) tp (.tup [.ty "list", .ty "tuple"])) wa = some (.lst r1.reverse) := by
        rw [upd_ne t1]
        exact hw2
      have hp3 : (upd (upd (upd H1 wa (.lst r1.reverse)) pa (.lst (rs.reverse ++ [v1]))) tp (.tup [.ty "list", .ty "tuple"])) pa = some (.lst (rs.reverse ++ [v1])) := by
        rw [upd_ne t2]
        exact hp2
      refine ⟨v1, tp, _, .type (tyD d1), [.type "list", .type "tuple"], _, rfl, upd_same, .cons (.ty _) (.cons (.ty _) .nil), dp_ty (dp_same (sv.trans sm3) _ _ h1), isLT d1 K, _, rfl, ?_⟩
      have er : (v1 :: rs).reverse = rs.reverse ++ [v1] := by simp
      generalize hG : upd (upd (upd H1 wa (.lst r1.reverse)) pa (.lst (rs.reverse ++ [v1]))) tp (.tup [.ty "list", .ty "tuple"]) = G at sm3 hw3 hp3
      -- what the reversed part puts behind
      have go : ∀ (rp : Addr) (o : HO) (xs : List V) (es : List PyData), G rp = none → DpAll K Hv xs es → nd d1 = ndAll es + 1 → Stp K Hv (v1 :: r1, d1 :: rd1) v1 (xs ++ r1, es ++ rd1) →
          ∃ S' : List V × List PyData, Same H (upd (upd G rp o) wa (.lst (r1.reverse ++ xs.reverse))) ∧ (upd (upd G rp o) wa (.lst (r1.reverse ++ xs.reverse))) wa = some (.lst S'.1.reverse) ∧
            (upd (upd G rp o) wa (.lst (r1.reverse ++ xs.reverse))) pa = some (.lst (v1 :: rs).reverse) ∧ DpAll K Hv S'.1 S'.2 ∧ Stp K Hv (v1 :: r1, d1 :: rd1) v1 S' ∧ ndAll S'.2 + 1 = nd d1 + ndAll rd1 := by
        intro rp o xs es nrp hxs hnd hst
        refine ⟨(xs ++ r1, es ++ rd1), same_fresh nwa (sm3.trans (same_upd nrp)), ?_, ?_, DpAll.append hxs h2, hst, ?_⟩
        · rw [upd_same]
          simp
        · rw [upd_ne nwa', upd_ne (ne_of_none hp3 nrp), er]
          exact hp3
        · show ndAll (es ++ rd1) + 1 = _
          rw [ndAll_append]
          omega
      have fit : ∀ (xs : List V) (es : List PyData), DpAll K Hv xs es → nd d1 = ndAll es + 1 → r1.reverse.length + xs.reverse.length ≤ sizeLine := by
        intro xs es hxs hnd
        have e1 := DpAll.length hxs
        have e2 := ndAll_len es
        rw [List.length_reverse, List.length_reverse]
        exact Nat.le_trans (show r1.length + xs.length ≤ 1000000 by omega) (by decide)
      have wne : ∀ {rp : Addr}, G rp = none → wa ≠ rp := fun h => ne_of_none hw3 h
      have leafy : (tyD d1 == "list" || tyD d1 == "tuple") = false → nd d1 = 1 → if (tyD d1 == "list" || tyD d1 == "tuple") = true then False else ∃ S' : List V × List PyData, Same H G ∧ G wa = some (.lst S'.1.reverse) ∧ G pa = some (.lst (v1 :: rs).reverse) ∧ DpAll K Hv S'.1 S'.2 ∧ Stp K Hv (v1 :: r1, d1 :: rd1) v1 S' ∧ ndAll S'.2 + 1 = nd d1 + ndAll rd1 := by
        intro e1 e2
        rw [e1]
        refine iteF ⟨(r1, rd1), sm3, hw3, by rw [er]; exact hp3, h2, .leaf h1 e1, ?_⟩
        show ndAll rd1 + 1 = _
        omega
      cases h1 with
      | non => exact let ⟨S', g⟩ := leafy rfl rfl; ⟨S', rfl, g⟩
      | bl b => exact let ⟨S', g⟩ := leafy rfl rfl; ⟨S', rfl, g⟩
      | int i => exact let ⟨S', g⟩ := leafy rfl rfl; ⟨S', rfl, g⟩
      | str x => exact let ⟨S', g⟩ := leafy rfl rfl; ⟨S', rfl, g⟩
      | @lst a xs es g1 g2 =>
        refine iteT (.inl ?_)
        refine ⟨_, rfl, .inl ⟨rfl, _, SqL.of hw3⟩, _, rfl, a, xs, rfl, (sv.trans sm3).seq g1, fun rp nrp => ?_⟩
        obtain ⟨S', g⟩ := go rp (.lst xs.reverse) xs es nrp g2 rfl (.lst g1 g2)
        exact ⟨wa, rp, _, _, rfl, rfl, by rw [upd_ne (wne nrp)]; exact hw3, upd_same, fit xs es g2 rfl, S', rfl, g⟩
      | @tup a xs es g1 g2 =>
        refine iteT (.inr ?_)
        refine ⟨_, rfl, .inl ⟨rfl, _, SqL.of hw3⟩, _, rfl, a, xs, rfl, same_sqt (sv.trans sm3) g1, fun rp nrp => ?_⟩
        obtain ⟨S', g⟩ := go rp (.tup xs.reverse) xs es nrp g2 rfl (.tup g1 g2)
        exact ⟨wa, rp, _, _, rfl, rfl, by rw [upd_ne (wne nrp)]; exact hw3, .inl (.inl upd_same), fit xs es g2 rfl, S', rfl, g⟩
end
end TX
namespace TX
open PySem PySem.Spec PyProof.Rows L2
/-- what is new behind H, but the place x -/
def newB (H : Hp) (x : Addr) (H' : Hp) : Hp := fun b => if b = x then none else match H b with
  | none => H' b
  | some _ => none
def newp (H H' : Hp) : Hp := fun b => match H b with
  | none => H' b
  | some _ => none
theorem newp_at {H H' : Hp} {b : Addr} (h : H b = none) : newp H H' b = H' b := by
  unfold newp
  rw [h]
theorem newp_old {H H' : Hp} {b : Addr} {o : HO} (h : H b = some o) : newp H H' b = none := by
  unfold newp
  rw [h]
theorem newp_less {H H1 H2 : Hp} (h : Same H H1) : Same (newp H1 H2) (newp H H2) := fun b o e => by
  cases h1 : H1 b with
  | some u =>
    rw [newp_old h1] at e
    cases e
  | none =>
    rw [newp_at h1] at e
    rw [newp_at (h.free h1)]
    exact e
theorem newB_newp {H H' : Hp} {x : Addr} : Same (newB H x H') (newp H H') := fun b o e => by
  unfold newB at e
  by_cases hb : b = x
  · rw [if_pos hb] at e
    cases e
  · rw [if_neg hb] at e
    exact e
theorem newp_same {H H' : Hp} : Same (newp H H') H' := fun b o e => by
  cases h : H b with
  | none =>
    rw [newp_at h] at e
    exact e
  | some u =>
    rw [newp_old h] at e
    cases e
theorem newB_at {H H' : Hp} {x b : Addr} (h : H b = none) (hx : b ≠ x) : newB H x H' b = H' b := by
  unfold newB
  rw [if_neg hx, h]
theorem newB_mono {H H1 H2 : Hp} {x : Addr} (h : ∀ b o, b ≠ x → H1 b = some o → H2 b = some o) : Same (newB H x H1) (newB H x H2) := fun b o e => by
  by_cases hb : b = x
  · unfold newB at e
    rw [if_pos hb] at e
    cases e
  · cases hh : H b with
    | none =>
      rw [newB_at hh hb] at e ⊢
      exact h b o hb e
    | some u =>
      unfold newB at e
      rw [if_neg hb, hh] at e
      cases e
/-- a leaf is data in any heap -/
theorem dp_leaf {K : PySem.W.Frag} {H H' : Hp} {v : V} {d : PyData} (h : Dp K H v d) (e : (tyD d == "list" || tyD d == "tuple") = false) : Dp K H' v d := by
  cases h with
  | non => exact .non
  | bl b => exact .bl b
  | int i => exact .int i
  | str x => exact .str x
  | lst _ _ => simp [tyD] at e
  | tup _ _ => simp [tyD] at e
def spCopy (K : PySem.W.Frag) : Sp := fun vs H Q _ => ∃ (v : V) (d : PyData) (Hv : Hp), vs = [v] ∧ Same Hv H ∧ Dp K Hv v d ∧ nd d ≤ 1000000 ∧
  ∀ (H' : Hp) (v' : V), Same H H' → Dp K (newp H H') v' d → Q v' H'
theorem kit1 (d : PyData) (K : PySem.W.Frag) : PySem.W.kitOne K (.type (tyD d)) (.type "tuple") = some (tyD d == "tuple") := by
  cases d with
  | none => exact (kit_ty (a := "NoneType") (b := "tuple") (r := false) (by decide +kernel)).trans (by simp [tyD])
  | bool _ => exact (kit_ty (a := "bool") (b := "tuple") (r := false) (by decide +kernel)).trans (by simp [tyD])
  | int _ => exact (kit_ty (a := "int") (b := "tuple") (r := false) (by decide +kernel)).trans (by simp [tyD])
  | str _ => exact (kit_ty (a := "str") (b := "tuple") (r := false) (by decide +kernel)).trans (by simp [tyD])
  | list _ => exact (kit_ty (a := "list") (b := "tuple") (r := false) (by decide +kernel)).trans (by simp [tyD])
  | tuple _ => exact (kit_ty (a := "tuple") (b := "tuple") (r := true) (by decide +kernel)).trans (by simp [tyD])
  | dict _ => exact (kit_ty (a := "dict") (b := "tuple") (r := false) (by decide +kernel)).trans (by simp [tyD])
theorem rev_drop {c : List V} {j : Nat} {y : V} (h : c[j]? = some y) : (c.drop j).reverse = (c.drop (j + 1)).reverse ++ [y] := by
  obtain ⟨hj, e⟩ := List.getElem?_eq_some_iff.mp h
  rw [List.drop_eq_getElem_cons hj, e]
  simp
theorem path_count {K : PySem.W.Frag} {Hv : Hp} {S0 : List V × List PyData} : ∀ {rs : List V} {S : List V × List PyData}, Path K Hv S0 rs S → rs.length + ndAll S.2 = ndAll S0.2
  | _, _, .nil => by simp
  | _, _, .cons hP hs => by
    have ih := path_count hP
    cases hs with
    | @leaf v0 d0 r0 rd0 h e =>
      have one : nd d0 = 1 := by
        cases h with
        | non => rfl
        | bl b => rfl
        | int i => rfl
        | str x => rfl
        | lst _ _ => simp [tyD] at e
        | tup _ _ => simp [tyD] at e
      simp only [ndAll, one] at ih
      rw [List.length_cons]
      dsimp only
      omega
    | lst h g =>
      simp only [ndAll, nd] at ih
      rw [List.length_cons, ndAll_append]
      omega
    | tup h g =>
      simp only [ndAll, nd] at ih
      rw [List.length_cons, ndAll_append]
      omega
section
variable {P : Program} {w : World} {K : PySem.W.Frag} {mg : Str → Option Value} {base : Heap}
theorem scCopy : FnScope ["thing", "done", "part", "made", "_"] ["thing"] (defScope sCopy) := ⟨rfl, rfl, rfl, by decide +kernel, rfl, by decide +kernel, by decide +kernel⟩
theorem ok_copy {f fP : Addr} {fd fdP : FuncData} {k : Nat} (F : Fun K "copy_of" "copy_of" sCopy f fd) (T : Nm mg) (FP : Fun K "all_parts" "all_parts" sParts fP fdP) (bP : Binds K fdP ["thing"] []) (gP : mg "all_parts" = some (.ref fP)) :
    FnOk P w K mg base CX0 (k + 2) f fd ["thing"] (spCopy K) := by
  have GP : FnOk P w K mg base CX0 (k + 1) fP fdP ["thing"] (spParts K) := ok_parts FP T
  refine F.ok scCopy (fun vs H Q E h => ?_) (fun cdv A outer s H vs Q E hr h => ?_)
  · obtain ⟨v, d, Hv, rfl, _⟩ := h
    rfl
  · obtain ⟨v, d, Hv, rfl, sv, hd, hn, q⟩ := h
    refine ⟨_, pss_cons (ps_if (pt_not (pt_val (pe_callB call_isiT (by rfl) T.isi (by decide +kernel) (pa_cons (pv 0) (pa_cons (pe_tup (pa_cons (pe_bltn (v := .ty "list") (by rfl) T.lst (by decide +kernel) rfl) (pa_cons (pe_bltn (v := .ty "tuple") (by rfl) T.tpl (by decide +kernel) rfl) pa_nil))) pa_nil))))) (pss_one (ps_ret (pv 0))) pss_nil) <| pss_cons (ps_set (i := 1) scCopy.nd rfl (.inr rfl) (pe_lst pa_nil))
      (pss_cons (ps_for PassesOwn.never rfl (pi_list (pe_revL (pe_call GP hr (by rfl) gP FP.kp bP .nil pass0 (pa_cons (pv 0) pa_nil)))) (pg_name (i := 2) scCopy.nd rfl (.inl rfl))
        (pss_cons (ps_set (i := 3) scCopy.nd rfl (.inl rfl) (pv 2))
        (pss_cons (ps_if (pt_val (pe_callB call_isiT (by rfl) T.isi (by decide +kernel) (pa_cons (pv 2) (pa_cons (pe_tup (pa_cons (pe_bltn (v := .ty "list") (by rfl) T.lst (by decide +kernel) rfl) (pa_cons (pe_bltn (v := .ty "tuple") (by rfl) T.tpl (by decide +kernel) rfl) pa_nil))) pa_nil))))
          (pss_one (ps_alt
            (ps_setLc (i := 3) (own := [("_", 4)]) (g := gName 4) (tt := tYes) (te := tBM0 K "list" rPop (tVar 1)) rfl scCopy.nd rfl rfl (sw_true rfl rfl rfl (by decide +kernel)) (pi_list (pv 2)) (blkOk_by (N := ["thing", "done", "part", "made", "_"]) (sc := defScope sCopy) (by decide +kernel))
              (fun _ _ _ _ _ => pg_name (i := 4) scCopy.nd rfl (Or.inl rfl)) (fun _ _ _ _ _ => pts_nil) (fun _ _ _ _ _ => pe_bm0 PySem.F.plainAttrs_list PySem.F.slot_list_pop PySem.F.type_list_pop mt_pop (pv 1)))
            (ps_setLc (i := 3) (own := [("_", 4)]) (g := gName 4) (tt := tYes) (te := tBM0 K "list" rPop (tVar 1)) rfl scCopy.nd rfl rfl (sw_true rfl rfl rfl (by decide +kernel)) (pi_tup (pv 2)) (blkOk_by (N := ["thing", "done", "part", "made", "_"]) (sc := defScope sCopy) (by decide +kernel))
              (fun _ _ _ _ _ => pg_name (i := 4) scCopy.nd rfl (Or.inl rfl)) (fun _ _ _ _ _ => pts_nil) (fun _ _ _ _ _ => pe_bm0 PySem.F.plainAttrs_list PySem.F.slot_list_pop PySem.F.type_list_pop mt_pop (pv 1)))))
          pss_nil)
        (pss_cons (ps_if (pt_val (pe_callB call_isi (by rfl) T.isi (by decide +kernel) (pa_cons (pv 2) (pa_cons (pe_bltn (v := .ty "tuple") (by rfl) T.tpl (by decide +kernel) rfl) pa_nil))))
          (pss_one (ps_set (i := 3) scCopy.nd rfl (.inl rfl) (pe_callTy call_tuple_of (by rfl) T.tpl (by decide +kernel) (pa_cons (pv 3) pa_nil))))
          pss_nil)
        (pss_one (ps_expr (pe_bm PySem.F.plainAttrs_list PySem.F.slot_list_append PySem.F.type_list_append mt_append (pv 1) (pa_cons (pv 3) pa_nil))))))))
      (pss_one (ps_ret (pe_ix ix_list (pv 1) pe_int (fun _ _ => rfl))))), ?_⟩
    refine ⟨_, rfl, by decide, fun tp0 ntp0 => ?_⟩
    refine ⟨v, tp0, _, .type (tyD d), [.type "list", .type "tuple"], _, rfl, upd_same, .cons (.ty _) (.cons (.ty _) .nil), dp_ty (dp_same (sv.trans (same_upd ntp0)) _ _ hd), isLT d K, _, rfl, ?_⟩
    have q2 : ∀ (H' : Hp) (v' : V), Same (upd H tp0 (.tup [.ty "list", .ty "tuple"])) H' → Dp K (newp (upd H tp0 (.tup [.ty "list", .ty "tuple"])) H') v' d → Q v' H' := fun H' v' e1 e2 => q H' v' ((same_upd ntp0).trans e1) (dp_same (newp_less (same_upd ntp0)) _ _ e2)
    have sv2 : Same Hv (upd H tp0 (.tup [.ty "list", .ty "tuple"])) := sv.trans (same_upd ntp0)
    cases hlt : (tyD d == "list" || tyD d == "tuple") with
    | false =>
      exact iteT ⟨_, rfl, q2 _ _ (fun _ _ e => e) (dp_leaf hd hlt)⟩
    | true =>
    refine iteF ?_
    generalize upd H tp0 (.tup [.ty "list", .ty "tuple"]) = H at sv2 q2
    clear q sv ntp0 tp0
    have sv := sv2
    have q := q2
    refine ⟨by decide, fun da nda => ?_⟩
    -- all_parts(thing)[::-1]
    refine ⟨_, rfl, v, d, Hv, rfl, sv.trans (same_upd nda), hd, hn, fun H1 p rs sm1 np hp hP hlen => ?_⟩
    have hda1 : H1 da = some (.lst []) := sm1 _ _ upd_same
    refine ⟨p, _, rfl, SqL.of hp, fun r nr => ?_⟩
    rw [List.reverse_reverse]
    have rda : da ≠ r := ne_of_none hda1 nr
    have s0 : Same H (upd H1 r (.lst rs)) := ((same_upd nda).trans sm1).trans (same_upd nr)
    have hr0 : H r = none := ((same_upd nda).trans sm1).free nr
    have nda0 : H da = none := nda
    refine ⟨r, rfl, ⟨_, SqL.of upd_same⟩, for_list (K := K) (a := r) (xs := rs) (fun i σ H2 => ∃ (S : List V × List PyData) (cs : List V) (y2 y3 : Option V), σ = [some v, some (.ref da), y2, y3, none] ∧ Same H H2 ∧ H2 r = some (.lst rs) ∧
      Path K Hv ([v], [d]) (rs.drop i) S ∧ H2 da = some (.lst cs.reverse) ∧ DpAll K (newB H da H2) cs S.2) ?_ ?_ ?_ ?_⟩
    · exact ⟨([], []), [], none, none, rfl, s0, upd_same, hP, by rw [upd_ne rda]; exact hda1, .nil⟩
    · rintro i σ H2 hi ⟨S, cs, y2, y3, rfl, _, g, _⟩
      exact SqL.of g
    · rintro i x σ H2 hx ⟨S, cs, y2, y3, rfl, sm, hrs, hPi, hda, hcs⟩
      have edrop : rs.drop i = x :: rs.drop (i + 1) := by
        obtain ⟨hj, e⟩ := List.getElem?_eq_some_iff.mp hx
        rw [List.drop_eq_getElem_cons hj, e]
      rw [edrop] at hPi
      cases hPi with
      | @cons _ S1 _ _ hP1 hst =>
      have cnt := path_count (.cons hP1 hst)
      have cnt0 : ndAll ([d] : List PyData) = nd d := by simp [ndAll]
      have lcs : cs.length ≤ 1000000 := by
        have e1 := DpAll.length hcs
        have e2 := ndAll_len S.2
        have e3 : ndAll (([v], [d]) : List V × List PyData).2 = nd d := cnt0
        omega
      -- the part's data
      obtain ⟨dx, hdx⟩ : ∃ dx, Dp K Hv x dx ∧ ((∃ r1 rd1, S1 = (x :: r1, dx :: rd1) ∧ S = (r1, rd1) ∧ (tyD dx == "list" || tyD dx == "tuple") = false) ∨
          (∃ a xs es r1 rd1, x = .ref a ∧ dx = .list es ∧ SqL K Hv a xs ∧ DpAll K Hv xs es ∧ S1 = (x :: r1, .list es :: rd1) ∧ S = (xs ++ r1, es ++ rd1)) ∨
          (∃ a xs es r1 rd1, x = .ref a ∧ dx = .tuple es ∧ SqT K Hv a xs ∧ DpAll K Hv xs es ∧ S1 = (x :: r1, .tuple es :: rd1) ∧ S = (xs ++ r1, es ++ rd1))) := by
        cases hst with
        | leaf h e => exact ⟨_, h, .inl ⟨_, _, rfl, rfl, e⟩⟩
        | lst h g => exact ⟨_, .lst h g, .inr (.inl ⟨_, _, _, _, _, rfl, rfl, h, g, rfl, rfl⟩)⟩
        | tup h g => exact ⟨_, .tup h g, .inr (.inr ⟨_, _, _, _, _, rfl, rfl, h, g, rfl, rfl⟩)⟩
      obtain ⟨hx1, hcase⟩ := hdx
      -- made = part; isinstance(part, (list, tuple))
      refine ⟨_, rfl, _, rfl, by decide, fun tp ntp => ?_⟩
      have sm3 : Same H (upd H2 tp (.tup [.ty "list", .ty "tuple"])) := sm.trans (same_upd ntp)
      have hda3 : (upd H2 tp (.tup [.ty "list", .ty "tuple"])) da = some (.lst cs.reverse) := same_upd ntp _ _ hda
      have hrs3 : (upd H2 tp (.tup [.ty "list", .ty "tuple"])) r = some (.lst rs) := same_upd ntp _ _ hrs
      have hcs3 : DpAll K (newB H da (upd H2 tp (.tup [.ty "list", .ty "tuple"]))) cs S.2 := dpAll_same (newB_mono fun b o _ e => same_upd ntp b o e) _ _ hcs
      refine ⟨x, tp, _, .type (tyD dx), [.type "list", .type "tuple"], _, rfl, upd_same, .cons (.ty _) (.cons (.ty _) .nil), dp_ty (dp_same (sv.trans sm3) _ _ hx1), isLT dx K, _, rfl, ?_⟩
      generalize upd H2 tp (.tup [.ty "list", .ty "tuple"]) = G at sm3 hda3 hrs3 hcs3
      rcases hcase with ⟨r1, rd1, rfl, rfl, e⟩ | ⟨a, xs, es, r1, rd1, rfl, rfl, g1, g2, rfl, rfl⟩ | ⟨a, xs, es, r1, rd1, rfl, rfl, g1, g2, rfl, rfl⟩
      · rw [e]
        refine iteF ?_
        have e2 : (tyD dx == "tuple") = false := (Bool.or_eq_false_iff.mp e).2
        refine ⟨_, rfl, x, .ty "tuple", .type (tyD dx), .type "tuple", _, rfl, .ty _, dp_ty (dp_leaf hx1 e), kit1 dx K, _, rfl, ?_⟩
        rw [e2]
        refine iteF ?_
        refine ⟨_, rfl, .inl ⟨rfl, _, SqL.of hda3⟩, _, rfl, da, _, _, rfl, rfl, hda3, Nat.lt_of_le_of_lt (by simpa using lcs) (by decide), ?_⟩
        refine ⟨_, x :: cs, _, _, rfl, same_fresh nda0 sm3, by rw [upd_ne rda.symm]; exact hrs3, hP1, ?_, ?_⟩
        · rw [upd_same]
          simp
        · exact .cons (dp_leaf hx1 e) (dpAll_same (newB_mono fun b o hb e => by rw [upd_ne hb]; exact e) _ _ hcs3)
      · obtain ⟨c1, c2, rfl, hc1, hc2⟩ := DpAll.split hcs3
        have hxl : xs.length = c1.length := (DpAll.length g2).trans (DpAll.length hc1).symm
        refine iteT (.inl ?_)
        refine ⟨_, rfl, a, rfl, ⟨_, (sv.trans sm3).seq g1⟩, fun D nD => lc_list (K := K) (a := a) (xs := xs) (fun j H4 => H4 da = some (.lst (c2.reverse ++ (c1.drop j).reverse)) ∧ H4 D = some (.lst (c1.take j)) ∧ ∀ b o, b ≠ da → b ≠ D → G b = some o → H4 b = some o) ?_ ?_ ?_ ?_⟩
        · have ne : da ≠ D := ne_of_none hda3 nD
          refine ⟨?_, upd_same, fun b o _ hb e => by rw [upd_ne hb]; exact e⟩
          rw [upd_ne ne, hda3]
          simp
        · rintro j H4 hj ⟨_, _, kp⟩
          have nDH : H D = none := sm3.free nD
          exact Same.seq (fun b o e => kp b o (ne_of_none e nda0) (ne_of_none e nDH) (sm3 b o e)) (sv.seq g1)
        · rintro j y H4 hy ⟨k1, k2, kp⟩
          have ne : da ≠ D := ne_of_none hda3 nD
          have hjl : j < c1.length := by
            have := (List.getElem?_eq_some_iff.mp hy).1
            omega
          have hcj : c1[j]? = some c1[j] := List.getElem?_eq_getElem hjl
          rw [rev_drop hcj, ← List.append_assoc] at k1
          refine ⟨rfl, .ref da, rfl, .inl ⟨rfl, _, SqL.of k1⟩, da, _, c1[j], rfl, rfl, k1, by simp, ?_⟩
          rw [List.dropLast_concat]
          refine ⟨c1.take j, by rw [upd_ne ne.symm]; exact k2, ?_, ?_, ?_, fun b o h1 h2 e => ?_⟩
          · refine Nat.lt_of_le_of_lt (show (c1.take j).length ≤ 1000000 from ?_) (by decide)
            rw [List.length_append] at lcs
            have := List.length_take_le j c1
            omega
          · rw [upd_ne ne, upd_same]
          · rw [upd_same, List.take_add_one, hcj]
            rfl
          · rw [upd_ne h2, upd_ne h1]
            exact kp b o h1 h2 e
        · rintro H4 ⟨k1, k2, kp⟩
          have ne : da ≠ D := ne_of_none hda3 nD
          have nDH : H D = none := sm3.free nD
          have sm4 : Same H H4 := fun b o e => kp b o (ne_of_none e nda0) (ne_of_none e nDH) (sm3 b o e)
          have rD : r ≠ D := ne_of_none hrs3 nD
          have hr4 : H4 r = some (.lst rs) := kp r _ rda.symm rD hrs3
          rw [hxl] at k1 k2
          rw [List.drop_length, List.reverse_nil, List.append_nil] at k1
          rw [List.take_length] at k2
          have mono4 : Same (newB H da G) (newB H da H4) := fun b o e => by
            by_cases hb : b = da
            · unfold newB at e
              rw [if_pos hb] at e
              cases e
            · cases hh : H b with
              | some u =>
                unfold newB at e
                rw [if_neg hb, hh] at e
                cases e
              | none =>
                rw [newB_at hh hb] at e ⊢
                exact kp b o hb (ne_of_none e nD) e
          have hd4 : DpAll K (newB H da H4) c1 es := dpAll_same mono4 _ _ hc1
          have hd5 : DpAll K (newB H da H4) c2 rd1 := dpAll_same mono4 _ _ hc2
          have hD4 : (newB H da H4) D = some (.lst c1) := by
            rw [newB_at nDH ne.symm]
            exact k2
          have hc1l : c1.length ≤ 1000000 ∧ c2.length ≤ 1000000 := by
            rw [List.length_append] at lcs
            omega
          refine ⟨_, rfl, .ref a, .ty "tuple", .type "list", .type "tuple", _, rfl, .ty _, dp_ty (d := .list es) (.lst (Same.seq sm4 (sv.seq g1)) (dpAll_same (sv.trans sm4) _ _ g2)), kit1 (.list es) K, _, rfl, ?_⟩
          refine iteF ?_
          refine ⟨_, rfl, .inl ⟨rfl, _, SqL.of k1⟩, _, rfl, da, _, _, rfl, rfl, k1, Nat.lt_of_le_of_lt (by simpa using hc1l.2) (by decide), ?_⟩
          refine ⟨_, .ref D :: c2, _, _, rfl, same_fresh nda0 sm4, by rw [upd_ne rda.symm]; exact hr4, hP1, ?_, ?_⟩
          · rw [upd_same]
            simp
          · have up : Same (newB H da H4) (newB H da (upd H4 da (.lst (c2.reverse ++ [.ref D])))) := newB_mono fun b o hb e => by
              rw [upd_ne hb]
              exact e
            exact .cons (.lst (SqL.of (up _ _ hD4)) (dpAll_same up _ _ hd4)) (dpAll_same up _ _ hd5)
      · obtain ⟨c1, c2, rfl, hc1, hc2⟩ := DpAll.split hcs3
        have hxl : xs.length = c1.length := (DpAll.length g2).trans (DpAll.length hc1).symm
        refine iteT (.inr ?_)
        refine ⟨_, rfl, a, rfl, ⟨_, same_sqt (sv.trans sm3) g1⟩, fun D nD => lc_tup (K := K) (a := a) (xs := xs) (fun j H4 => H4 da = some (.lst (c2.reverse ++ (c1.drop j).reverse)) ∧ H4 D = some (.lst (c1.take j)) ∧ ∀ b o, b ≠ da → b ≠ D → G b = some o → H4 b = some o) ?_ ?_ ?_ ?_⟩
        · have ne : da ≠ D := ne_of_none hda3 nD
          refine ⟨?_, upd_same, fun b o _ hb e => by rw [upd_ne hb]; exact e⟩
          rw [upd_ne ne, hda3]
          simp
        · rintro j H4 hj ⟨_, _, kp⟩
          have nDH : H D = none := sm3.free nD
          exact same_sqt (fun b o e => kp b o (ne_of_none e nda0) (ne_of_none e nDH) (sm3 b o e)) (same_sqt sv g1)
        · rintro j y H4 hy ⟨k1, k2, kp⟩
          have ne : da ≠ D := ne_of_none hda3 nD
          have hjl : j < c1.length := by
            have := (List.getElem?_eq_some_iff.mp hy).1
            omega
          have hcj : c1[j]? = some c1[j] := List.getElem?_eq_getElem hjl
          rw [rev_drop hcj, ← List.append_assoc] at k1
          refine ⟨rfl, .ref da, rfl, .inl ⟨rfl, _, SqL.of k1⟩, da, _, c1[j], rfl, rfl, k1, by simp, ?_⟩
          rw [List.dropLast_concat]
          refine ⟨c1.take j, by rw [upd_ne ne.symm]; exact k2, ?_, ?_, ?_, fun b o h1 h2 e => ?_⟩
          · refine Nat.lt_of_le_of_lt (show (c1.take j).length ≤ 1000000 from ?_) (by decide)
            rw [List.length_append] at lcs
            have := List.length_take_le j c1
            omega
          · rw [upd_ne ne, upd_same]
          · rw [upd_same, List.take_add_one, hcj]
            rfl
          · rw [upd_ne h2, upd_ne h1]
            exact kp b o h1 h2 e
        · rintro H4 ⟨k1, k2, kp⟩
          have ne : da ≠ D := ne_of_none hda3 nD
          have nDH : H D = none := sm3.free nD
          have sm4 : Same H H4 := fun b o e => kp b o (ne_of_none e nda0) (ne_of_none e nDH) (sm3 b o e)
          have rD : r ≠ D := ne_of_none hrs3 nD
          have hr4 : H4 r = some (.lst rs) := kp r _ rda.symm rD hrs3
          rw [hxl] at k1 k2
          rw [List.drop_length, List.reverse_nil, List.append_nil] at k1
          rw [List.take_length] at k2
          have mono4 : Same (newB H da G) (newB H da H4) := fun b o e => by
            by_cases hb : b = da
            · unfold newB at e
              rw [if_pos hb] at e
              cases e
            · cases hh : H b with
              | some u =>
                unfold newB at e
                rw [if_neg hb, hh] at e
                cases e
              | none =>
                rw [newB_at hh hb] at e ⊢
                exact kp b o hb (ne_of_none e nD) e
          have hd4 : DpAll K (newB H da H4) c1 es := dpAll_same mono4 _ _ hc1
          have hd5 : DpAll K (newB H da H4) c2 rd1 := dpAll_same mono4 _ _ hc2
          have hD4 : (newB H da H4) D = some (.lst c1) := by
            rw [newB_at nDH ne.symm]
            exact k2
          have hc1l : c1.length ≤ 1000000 ∧ c2.length ≤ 1000000 := by
            rw [List.length_append] at lcs
            omega
          refine ⟨_, rfl, .ref a, .ty "tuple", .type "tuple", .type "tuple", _, rfl, .ty _, dp_ty (d := .tuple es) (.tup (same_sqt sm4 (same_sqt sv g1)) (dpAll_same (sv.trans sm4) _ _ g2)), kit1 (.tuple es) K, _, rfl, ?_⟩
          refine iteT ?_
          -- made = tuple(made)
          refine ⟨_, rfl, D, c1, rfl, .inl ⟨SqL.of k2, fun tq ntq => ?_⟩⟩
          have nq : H tq = none := sm4.free ntq
          have dq : da ≠ tq := ne_of_none k1 ntq
          have rq : r ≠ tq := ne_of_none hr4 ntq
          have k5 : (upd H4 tq (.tup c1)) da = some (.lst c2.reverse) := by
            rw [upd_ne dq]
            exact k1
          refine ⟨_, rfl, .inl ⟨rfl, _, SqL.of k5⟩, _, rfl, da, _, _, rfl, rfl, k5, Nat.lt_of_le_of_lt (by simpa using hc1l.2) (by decide), ?_⟩
          refine ⟨_, .ref tq :: c2, _, _, rfl, same_fresh nda0 (sm4.trans (same_upd ntq)), by rw [upd_ne rda.symm, upd_ne rq]; exact hr4, hP1, ?_, ?_⟩
          · rw [upd_same]
            simp
          · have up : Same (newB H da H4) (newB H da (upd (upd H4 tq (.tup c1)) da (.lst (c2.reverse ++ [.ref tq])))) := newB_mono fun b o hb e => by
              rw [upd_ne hb, upd_ne (ne_of_none e ntq)]
              exact e
            have at_ : (newB H da (upd (upd H4 tq (.tup c1)) da (.lst (c2.reverse ++ [.ref tq])))) tq = some (.tup c1) := by
              rw [newB_at nq dq.symm, upd_ne dq.symm, upd_same]
            exact .cons (.tup (SqT.of at_) (dpAll_same up _ _ hd4)) (dpAll_same up _ _ hd5)
    · rintro σ H2 ⟨S, cs, y2, y3, rfl, sm, hrs, hPi, hda, hcs⟩
      rw [List.drop_length] at hPi
      cases hPi
      cases hcs with
      | @cons c1 _ _ _ h1 h2 =>
        cases h2
        refine ⟨_, rfl, da, [c1], 0, c1, rfl, rfl, SqL.of hda, atI_nat (j := 0) rfl, ?_⟩
        exact q H2 c1 sm (dp_same newB_newp _ _ h1)
end
end TX
namespace TX
open PySem PySem.Spec PyProof.Rows L2
structure Nb (mg : Str → Option Value) : Prop where
  len : mg "len" = none
  abs : mg "abs" = none
  enum : mg "enumerate" = none
  int : mg "int" = none
/-- a bag of draws: two ints -/
def BagAt (H : Hp) (p : Addr) : Prop := ∃ x y : Int, H p = some (.lst [.int x, .int y])
def spBag (K : PySem.W.Frag) : Sp := fun vs H Q _ => ∃ (a : Addr) (ns : List Int) (at_ : Nat), vs = [.ref a, .int at_] ∧ SqL K H a (ns.map V.int) ∧ ns.length ≤ 63 ∧
  ∀ (H' : Hp) (p : Addr), Same H H' → H p = none → BagAt H' p → Q (.ref p) H'
def spTake : Sp := fun vs H Q _ => ∃ (p : Addr) (m : Int), vs = [.ref p, .int m] ∧ BagAt H p ∧ 0 < m ∧ m ≤ 1000000 ∧
  ∀ (x y d : Int), 0 ≤ d → d < m → Q (.int d) (upd H p (.lst [.int x, .int y]))
section
variable {P : Program} {w : World} {K : PySem.W.Frag} {mg : Str → Option Value} {base : Heap}
theorem scBag : FnScope ["_law_script", "_law_at", "_law_cell", "_law_mixed", "_law_place", "_law_each"] ["_law_script", "_law_at"] (defScope sBag) := ⟨rfl, rfl, rfl, by decide +kernel, rfl, by decide +kernel, by decide +kernel⟩
theorem ok_bag {f : Addr} {fd : FuncData} {k : Nat} (F : Fun K "_law_bag" "_law_bag" sBag f fd) (T : Nb mg) : FnOk P w K mg base CX0 (k + 1) f fd ["_law_script", "_law_at"] (spBag K) := by
  refine F.ok scBag (fun vs H Q E h => ?_) (fun cdv A outer s H vs Q E hr h => ?_)
  · obtain ⟨a, ns, i, rfl, _⟩ := h
    rfl
  · obtain ⟨a, ns, i, rfl, hS, hn, q⟩ := h
    refine ⟨_, pss_cons (ps_par (i := 2) (j := 3) rfl scBag.nd rfl rfl (by decide) rfl rfl
        (pa_cons (pe_ifExp (pt_cmpR op_lt (pv 1) (pe_callB call_len_seq (by rfl) T.len PySem.boot_len (pa_cons (pv 0) pa_nil)) (nomark _)) (pe_callB call_abs (by rfl) T.abs (by decide +kernel) (pa_cons (pe_ix ix_list (pv 0) (pv 1) (fun _ _ => rfl)) pa_nil)) pe_int)
          (pa_cons (pe_op op_add (pe_op op_mul pe_int (pv 1)) pe_int) pa_nil)) (by rfl))
      (pss_cons (ps_for PassesOwn.never rfl (pi_enum (by rfl) T.enum (pa_cons (pe_slice sl_list (pv 0) po_none (po_some pe_int)) pa_nil))
          (pg_tup rfl (pgs_cons (pg_name (i := 4) scBag.nd rfl (.inl rfl)) (pgs_cons (pg_name (i := 5) scBag.nd rfl (.inl rfl)) pgs_nil)))
        (pss_one (ps_set (i := 3) scBag.nd rfl (.inl rfl) (pe_op op_mod (pe_callTy call_int1 (by rfl) T.int (by decide +kernel)
          (pa_cons (pe_op op_add (pe_op op_add (pe_op op_mul (pv 3) pe_int) (pe_op op_mod (pe_callTy call_int1 (by rfl) T.int (by decide +kernel) (pa_cons (pv 5) pa_nil)) pe_int)) (pe_op op_mul pe_int (pv 4))) pa_nil)) pe_int))))
      (pss_one (ps_ret (pe_lst (pa_cons (pe_ifExp (pt_cmpR op_ge (pv 2) (pe_op op_pow pe_int pe_int) (nomark _)) (pv 2) pe_int) (pa_cons (pv 3) pa_nil)))))), ?_⟩
    refine ⟨_, rfl, _, rfl, a, _, rfl, .inl hS, _, _, rfl, rfl, _, rfl, ?_⟩
    have cut63 : ∀ x ∈ cutV (ns.map V.int) none (some 63), ∃ z, x = V.int z := by
      intro x hx
      unfold cutV at hx
      obtain ⟨z, _, e⟩ := List.mem_map.mp (List.mem_of_mem_drop (List.mem_of_mem_take hx))
      exact ⟨z, e.symm⟩
    generalize hC : cutV (ns.map V.int) none (some 63) = C at *
    refine ite2 (fun hlt => ?_) (fun hge => ?_)
    · have hlt' : i < ns.length := by
        have e := of_decide_eq_true hlt
        rw [List.length_map] at e
        omega
      refine ⟨_, rfl, _, rfl, a, _, _, .int ns[i], rfl, rfl, hS, atI_nat (by rw [List.getElem?_map, List.getElem?_eq_getElem hlt']; rfl), _, rfl, ?_⟩
      refine ⟨_, rfl, _, _, rfl, rfl, .inl ⟨by decide, by decide⟩, _, _, rfl, rfl, _, _, rfl, ?_⟩
      refine ⟨_, rfl, 63, rfl, a, _, rfl, hS, fun c nc => ?_⟩
      have nc0 : H c = none := nc
      refine ⟨c, C, rfl, SqL.of (by rw [upd_same, hC]), fun j m σ H3 => ∃ (y3 : Int) (y4 y5 : Option V), σ = [some (.ref a), some (.int i), some (.int (if ns[i] < 0 then -ns[i] else ns[i])), some (.int y3), y4, y5] ∧ j + m = C.length ∧ Same H H3 ∧ H3 c = some (.lst C),
        ⟨C.length, _, none, none, rfl, by omega, same_upd nc, by rw [upd_same, hC]⟩, fun j m σ H3 hW => ?_⟩
      obtain ⟨y3, y4, y5, rfl, ejm, sm, hc⟩ := hW
      by_cases hj : j < C.length
      · refine .inr ⟨⟨_, _, SqL.of hc, List.getElem?_eq_getElem hj⟩, fun σ' H' => ∃ (y3 : Int) (y4 y5 : Option V), σ' = [some (.ref a), some (.int i), some (.int (if ns[i] < 0 then -ns[i] else ns[i])), some (.int y3), y4, y5] ∧ Same H H' ∧ H' c = some (.lst C), fun σ' H' hN => ?_, fun x H' hy => ?_⟩
        · obtain ⟨z3, z4, z5, e, sm', hc'⟩ := hN
          exact ⟨m - 1, by omega, z3, z4, z5, e, by omega, sm', hc'⟩
        · obtain ⟨tp, x1, rfl, nT, rfl, f1⟩ := hy
          have g1 := f1 _ (SqL.of hc)
          obtain ⟨z, rfl⟩ := cut63 x1 (List.mem_of_getElem? g1)
          have hcT : (upd H3 tp (.tup [.int (j : Nat), .int z])) c = some (.lst C) := same_upd nT _ _ hc
          refine ⟨tp, _, rfl, SqT.of upd_same, rfl, _, _, rfl, _, _, rfl, rfl, ?_⟩
          refine ⟨_, rfl, _, _, rfl, rfl, .inr ⟨by decide, by decide⟩, _, rfl, .inl ⟨_, rfl, _, _, rfl, rfl, (by show (0 : Int) < 2147483629; decide), _, _, rfl, rfl, _, rfl, _, _, rfl, rfl, .inl ⟨by decide, by decide⟩, _, _, rfl, rfl, ?_⟩⟩
          refine .inl ⟨_, rfl, _, _, rfl, rfl, (by show (0 : Int) < 2147483647; decide), ?_⟩
          exact ⟨_, _, _, rfl, sm.trans (same_upd nT), hcT⟩
      · refine .inl ⟨⟨_, SqL.of hc, by omega⟩, ?_⟩
        refine ⟨_, rfl, _, _, rfl, rfl, ⟨by decide, by decide, by decide⟩, _, _, rfl, rfl, _, rfl, ?_⟩
        refine ite2 (fun _ => ?_) (fun _ => ?_)
        all_goals
          first
            | refine ⟨_, rfl, _, rfl, (by show 2 ≤ sizeLine; decide), fun p np => ?_⟩
            | refine ⟨_, rfl, (by show 2 ≤ sizeLine; decide), fun p np => ?_⟩
          exact q _ p (sm.trans (same_upd np)) (sm.free np) ⟨_, _, upd_same⟩
    · refine ⟨_, rfl, _, _, rfl, rfl, .inl ⟨by decide, by decide⟩, _, _, rfl, rfl, _, _, rfl, ?_⟩
      refine ⟨_, rfl, 63, rfl, a, _, rfl, hS, fun c nc => ?_⟩
      have nc0 : H c = none := nc
      refine ⟨c, C, rfl, SqL.of (by rw [upd_same, hC]), fun j m σ H3 => ∃ (y3 : Int) (y4 y5 : Option V), σ = [some (.ref a), some (.int i), some (.int 0), some (.int y3), y4, y5] ∧ j + m = C.length ∧ Same H H3 ∧ H3 c = some (.lst C),
        ⟨C.length, _, none, none, rfl, by omega, same_upd nc, by rw [upd_same, hC]⟩, fun j m σ H3 hW => ?_⟩
      obtain ⟨y3, y4, y5, rfl, ejm, sm, hc⟩ := hW
      by_cases hj : j < C.length
      · refine .inr ⟨⟨_, _, SqL.of hc, List.getElem?_eq_getElem hj⟩, fun σ' H' => ∃ (y3 : Int) (y4 y5 : Option V), σ' = [some (.ref a), some (.int i), some (.int 0), some (.int y3), y4, y5] ∧ Same H H' ∧ H' c = some (.lst C), fun σ' H' hN => ?_, fun x H' hy => ?_⟩
        · obtain ⟨z3, z4, z5, e, sm', hc'⟩ := hN
          exact ⟨m - 1, by omega, z3, z4, z5, e, by omega, sm', hc'⟩
        · obtain ⟨tp, x1, rfl, nT, rfl, f1⟩ := hy
          have g1 := f1 _ (SqL.of hc)
          obtain ⟨z, rfl⟩ := cut63 x1 (List.mem_of_getElem? g1)
          have hcT : (upd H3 tp (.tup [.int (j : Nat), .int z])) c = some (.lst C) := same_upd nT _ _ hc
          refine ⟨tp, _, rfl, SqT.of upd_same, rfl, _, _, rfl, _, _, rfl, rfl, ?_⟩
          refine ⟨_, rfl, _, _, rfl, rfl, .inr ⟨by decide, by decide⟩, _, rfl, .inl ⟨_, rfl, _, _, rfl, rfl, (by show (0 : Int) < 2147483629; decide), _, _, rfl, rfl, _, rfl, _, _, rfl, rfl, .inl ⟨by decide, by decide⟩, _, _, rfl, rfl, ?_⟩⟩
          refine .inl ⟨_, rfl, _, _, rfl, rfl, (by show (0 : Int) < 2147483647; decide), ?_⟩
          exact ⟨_, _, _, rfl, sm.trans (same_upd nT), hcT⟩
      · refine .inl ⟨⟨_, SqL.of hc, by omega⟩, ?_⟩
        refine ⟨_, rfl, _, _, rfl, rfl, ⟨by decide, by decide, by decide⟩, _, _, rfl, rfl, _, rfl, ?_⟩
        refine ite2 (fun _ => ?_) (fun _ => ?_)
        all_goals
          first
            | refine ⟨_, rfl, _, rfl, (by show 2 ≤ sizeLine; decide), fun p np => ?_⟩
            | refine ⟨_, rfl, (by show 2 ≤ sizeLine; decide), fun p np => ?_⟩
          exact q _ p (sm.trans (same_upd np)) (sm.free np) ⟨_, _, upd_same⟩
theorem scTake : FnScope ["_law_bag_here", "_law_many", "_law_digit"] ["_law_bag_here", "_law_many"] (defScope sTake) := ⟨rfl, rfl, rfl, by decide +kernel, rfl, by decide +kernel, by decide +kernel⟩
theorem ok_take {f : Addr} {fd : FuncData} {k : Nat} (F : Fun K "_law_take" "_law_take" sTake f fd) (T : Nb mg) : FnOk P w K mg base CX0 (k + 1) f fd ["_law_bag_here", "_law_many"] spTake := by
  refine F.ok scTake (fun vs H Q E h => ?_) (fun cdv A outer s H vs Q E hr h => ?_)
  · obtain ⟨p, m, rfl, _⟩ := h
    rfl
  · obtain ⟨p, m, rfl, ⟨x, y, hp⟩, hm, hm2, q⟩ := h
    refine ⟨_, pss_cons (ps_if (pt_cmpR op_gt (pe_ix ix_list (pv 0) pe_int (fun _ _ => rfl)) pe_int (nomark _))
        (pss_cons (ps_set (i := 2) scTake.nd rfl (.inl rfl) (pe_op op_mod (pe_callTy call_int1 (by rfl) T.int (by decide +kernel) (pa_cons (pe_ix ix_list (pv 0) pe_int (fun _ _ => rfl)) pa_nil)) (pv 1)))
        (pss_cons (ps_asg (pe_op op_fdiv (pe_ix ix_list (pv 0) pe_int (fun _ _ => rfl)) (pv 1)) (pg_sub (pv 0) pe_int set_list))
        (pss_one (ps_ret (pv 2))))) pss_nil)
      (pss_cons (ps_asg (pe_op op_mod (pe_callTy call_int1 (by rfl) T.int (by decide +kernel) (pa_cons (pe_op op_add (pe_op op_mul (pe_ix ix_list (pv 0) pe_int (fun _ _ => rfl)) pe_int) pe_int) pa_nil)) pe_int) (pg_sub (pv 0) pe_int set_list))
      (pss_one (ps_ret (pe_op op_mod (pe_op op_fdiv (pe_op op_mod (pe_callTy call_int1 (by rfl) T.int (by decide +kernel) (pa_cons (pe_op op_mul (pe_op op_fdiv (pe_ix ix_list (pv 0) pe_int (fun _ _ => rfl)) pe_int) pe_int) pa_nil)) pe_int) pe_int) (pv 1))))), ?_⟩
    have i0 : atI [V.int x, V.int y] 0 = some (.int x) := atI_nat (j := 0) rfl
    have i1 : atI [V.int x, V.int y] 1 = some (.int y) := atI_nat (j := 1) rfl
    refine ⟨_, rfl, p, _, 0, _, rfl, rfl, SqL.of hp, i0, _, _, rfl, rfl, _, rfl, ?_⟩
    refine ite2 (fun hx => ?_) (fun hx => ?_)
    · refine ⟨_, rfl, p, _, 0, _, rfl, rfl, SqL.of hp, i0, .inl ⟨_, rfl, _, rfl, _, _, rfl, rfl, hm, ?_⟩⟩
      refine ⟨_, rfl, p, _, 0, _, rfl, rfl, SqL.of hp, i0, _, rfl, _, _, rfl, rfl, ⟨hm, by omega⟩, ?_⟩
      refine ⟨_, rfl, p, _, 0, 0, rfl, rfl, hp, rfl, ?_⟩
      refine ⟨_, rfl, ?_⟩
      exact q _ _ _ (Int.emod_nonneg _ (by omega)) (Int.emod_lt_of_pos _ hm)
    · refine ⟨_, rfl, p, _, 1, _, rfl, rfl, SqL.of hp, i1, _, _, rfl, rfl, .inr ⟨by decide, by decide⟩, _, _, rfl, rfl, .inl ⟨_, rfl, _, _, rfl, rfl, (by show (0 : Int) < 2147483629; decide), ?_⟩⟩
      refine ⟨_, rfl, p, _, 1, 1, rfl, rfl, hp, rfl, ?_⟩
      refine ⟨_, rfl, p, _, 1, _, rfl, rfl, SqL.of upd_same, atI_nat (j := 1) rfl, _, _, rfl, rfl, ⟨by decide, by decide⟩, _, _, rfl, rfl, .inr ⟨by decide, by decide⟩, .inl ⟨_, rfl, _, _, rfl, rfl, (by show (0 : Int) < 2147483587; decide), ?_⟩⟩
      refine ⟨_, _, rfl, rfl, ⟨by decide, by decide⟩, _, rfl, _, _, rfl, rfl, hm, ?_⟩
      exact q _ _ _ (Int.emod_nonneg _ (by omega)) (Int.emod_lt_of_pos _ hm)
end
end TX
namespace TX
open PySem PySem.Spec PyProof.Rows L2
/-! ### values as data -/
def Lt (z : Str) : Prop := ∀ c ∈ z.cps.toList, 97 ≤ c ∧ c ≤ 122
mutual
def valD : PyData → Prop
  | .none => True
  | .str x => Lt x
  | .list xs => valAll xs
  | _ => False
def valAll : List PyData → Prop
  | [] => True
  | d :: ds => valD d ∧ valAll ds
end
mutual
def sz : PyData → Nat
  | .str x => x.length + 1
  | .list xs => szAll xs + 1
  | _ => 1
def szAll : List PyData → Nat
  | [] => 0
  | d :: ds => sz d + szAll ds
end
theorem szAll_append : ∀ (a b : List PyData), szAll (a ++ b) = szAll a + szAll b
  | [], b => by simp [szAll]
  | d :: a, b => by
    rw [List.cons_append, szAll, szAll, szAll_append a b]
    omega
theorem valAll_append : ∀ (a b : List PyData), valAll (a ++ b) ↔ valAll a ∧ valAll b
  | [], b => by simp [valAll]
  | d :: a, b => by
    rw [List.cons_append, valAll, valAll, valAll_append a b]
    exact ⟨fun ⟨x, y, z⟩ => ⟨⟨x, y⟩, z⟩, fun ⟨⟨x, y⟩, z⟩ => ⟨x, y, z⟩⟩
theorem depthAll_append : ∀ (a b : List PyData), PyData.depthAll (a ++ b) = max (PyData.depthAll a) (PyData.depthAll b)
  | [], b => by simp [PyData.depthAll]
  | d :: a, b => by
    rw [List.cons_append, PyData.depthAll, PyData.depthAll, depthAll_append a b]
    omega
theorem DpAll.get {K : PySem.W.Frag} {H : Hp} : ∀ {ds : List PyData} {vs : List V} {i : Nat} {v : V}, DpAll K H vs ds → vs[i]? = some v → ∃ d, ds[i]? = some d ∧ Dp K H v d
  | [], _, i, v, h, e => by
    cases h
    simp at e
  | d :: ds, _, 0, v, h, e => by
    cases h with
    | cons h1 h2 =>
      simp at e
      subst e
      exact ⟨d, rfl, h1⟩
  | d :: ds, _, i + 1, v, h, e => by
    cases h with
    | cons h1 h2 =>
      obtain ⟨d', e1, e2⟩ := DpAll.get (ds := ds) (i := i) h2 (by simpa using e)
      exact ⟨d', by simpa using e1, e2⟩
theorem val_get : ∀ {ds : List PyData} {i : Nat} {d : PyData}, valAll ds → ds[i]? = some d → valD d
  | [], i, d, h, e => by simp at e
  | x :: ds, 0, d, h, e => by
    simp at e
    subst e
    exact h.1
  | x :: ds, i + 1, d, h, e => val_get h.2 (by simpa using e)
theorem depth_get : ∀ {ds : List PyData} {i : Nat} {d : PyData}, ds[i]? = some d → d.depth ≤ PyData.depthAll ds
  | [], i, d, e => by simp at e
  | x :: ds, 0, d, e => by
    simp at e
    subst e
    simp only [PyData.depthAll]
    omega
  | x :: ds, i + 1, d, e => by
    have := depth_get (ds := ds) (i := i) (d := d) (by simpa using e)
    simp only [PyData.depthAll]
    omega
theorem sz_get : ∀ {ds : List PyData} {i : Nat} {d : PyData}, ds[i]? = some d → sz d ≤ szAll ds
  | [], i, d, e => by simp at e
  | x :: ds, 0, d, e => by
    simp at e
    subst e
    simp only [szAll]
    omega
  | x :: ds, i + 1, d, e => by
    have := sz_get (ds := ds) (i := i) (d := d) (by simpa using e)
    simp only [szAll]
    omega
theorem szAll_sum : ∀ ds : List PyData, ((ds.map fun d => ((sz d : Nat) : Int)).sum : Int) = ((szAll ds : Nat) : Int)
  | [] => rfl
  | d :: ds => by
    rw [List.map_cons, List.sum_cons, szAll_sum ds, szAll]
    omega
theorem szAll_len : ∀ ds : List PyData, ds.length ≤ szAll ds
  | [] => by simp
  | d :: ds => by
    have := szAll_len ds
    have h1 : 1 ≤ sz d := by cases d <;> simp [sz]
    rw [szAll, List.length_cons]
    omega
/-! ### isinstance against one built-in type -/
theorem kitL (d : PyData) (K : PySem.W.Frag) : PySem.W.kitOne K (.type (tyD d)) (.type "list") = some (tyD d == "list") := by
  cases d with
  | none => exact (kit_ty (a := "NoneType") (b := "list") (r := false) (by decide +kernel)).trans (by simp [tyD])
  | bool _ => exact (kit_ty (a := "bool") (b := "list") (r := false) (by decide +kernel)).trans (by simp [tyD])
  | int _ => exact (kit_ty (a := "int") (b := "list") (r := false) (by decide +kernel)).trans (by simp [tyD])
  | str _ => exact (kit_ty (a := "str") (b := "list") (r := false) (by decide +kernel)).trans (by simp [tyD])
  | list _ => exact (kit_ty (a := "list") (b := "list") (r := true) (by decide +kernel)).trans (by simp [tyD])
  | tuple _ => exact (kit_ty (a := "tuple") (b := "list") (r := false) (by decide +kernel)).trans (by simp [tyD])
  | dict _ => exact (kit_ty (a := "dict") (b := "list") (r := false) (by decide +kernel)).trans (by simp [tyD])
theorem kitS (d : PyData) (K : PySem.W.Frag) : PySem.W.kitOne K (.type (tyD d)) (.type "str") = some (tyD d == "str") := by
  cases d with
  | none => exact (kit_ty (a := "NoneType") (b := "str") (r := false) (by decide +kernel)).trans (by simp [tyD])
  | bool _ => exact (kit_ty (a := "bool") (b := "str") (r := false) (by decide +kernel)).trans (by simp [tyD])
  | int _ => exact (kit_ty (a := "int") (b := "str") (r := false) (by decide +kernel)).trans (by simp [tyD])
  | str _ => exact (kit_ty (a := "str") (b := "str") (r := true) (by decide +kernel)).trans (by simp [tyD])
  | list _ => exact (kit_ty (a := "list") (b := "str") (r := false) (by decide +kernel)).trans (by simp [tyD])
  | tuple _ => exact (kit_ty (a := "tuple") (b := "str") (r := false) (by decide +kernel)).trans (by simp [tyD])
  | dict _ => exact (kit_ty (a := "dict") (b := "str") (r := false) (by decide +kernel)).trans (by simp [tyD])
structure Nv (mg : Str → Option Value) : Prop where
  range : mg "range" = none
  sum : mg "sum" = none
  min : mg "min" = none
/-! ### _law_text -/
def spText : Sp := fun vs H Q _ => ∃ (p : Addr) (m : Int), vs = [.ref p, .int m] ∧ BagAt H p ∧ 0 ≤ m ∧ m ≤ 1000 ∧
  ∀ (H' : Hp) (z : Str), (∀ b o, b ≠ p → H b = some o → H' b = some o) → BagAt H' p → Lt z → (z.length : Int) ≤ m → Q (.str z) H'
theorem lt_append {a b : Str} (h : Lt a) (g : Lt b) : Lt (a ++ b) := by
  intro c hc
  have e : (a ++ b).cps.toList = a.cps.toList ++ b.cps.toList := by
    show (a.cps ++ b.cps).toList = _
    simp
  rw [e] at hc
  rcases List.mem_append.mp hc with x | x
  · exact h c x
  · exact g c x
section
variable {P : Program} {w : World} {K : PySem.W.Frag} {mg : Str → Option Value} {base : Heap}
theorem scText : FnScope ["_law_bag_here", "_law_most", "_law_word", "_law_signs", "_law_turn"] ["_law_bag_here", "_law_most"] (defScope sText) := ⟨rfl, rfl, rfl, by decide +kernel, rfl, by decide +kernel, by decide +kernel⟩
theorem ok_text {f fT : Addr} {fd fdT : FuncData} (F : Fun K "_law_text" "_law_text" sText f fd) (B : Nb mg) (N : Nv mg) (FT : Fun K "_law_take" "_law_take" sTake fT fdT) (bT : Binds K fdT ["_law_bag_here", "_law_many"] []) (gT : mg "_law_take" = some (.ref fT)) :
    FnOk P w K mg base CX0 2 f fd ["_law_bag_here", "_law_most"] spText := by
  have GT : FnOk P w K mg base CX0 1 fT fdT ["_law_bag_here", "_law_many"] spTake := ok_take FT B
  refine F.ok scText (fun vs H Q E h => ?_) (fun cdv A outer s H vs Q E hr h => ?_)
  · obtain ⟨p, m, rfl, _⟩ := h
    rfl
  · obtain ⟨p, m, rfl, bag, hm0, hm1, q⟩ := h
    refine ⟨_, pss_cons (ps_par (i := 2) (j := 3) rfl scText.nd rfl rfl (by decide) rfl rfl (pa_cons pe_str (pa_cons (pe_ix ix_list (pe_lst (pa_cons pe_str (pa_cons pe_str (pa_cons pe_str pa_nil)))) (pe_call GT hr (by rfl) gT FT.kp bT .nil pass0 (pa_cons (pv 0) (pa_cons pe_int pa_nil))) (fun _ _ => rfl)) pa_nil)) (by rfl))
      (pss_cons (ps_for PassesOwn.never rfl (pi_range1 (by rfl) N.range (pa_cons (pe_call GT hr (by rfl) gT FT.kp bT .nil pass0 (pa_cons (pv 0) (pa_cons (pe_op op_add (pv 1) pe_int) pa_nil))) pa_nil)) (pg_name (i := 4) scText.nd rfl (.inl rfl))
        (pss_one (ps_set (i := 2) scText.nd rfl (.inl rfl) (pe_op op_add_str (pv 2) (pe_ix ix_str (pv 3) (pe_call GT hr (by rfl) gT FT.kp bT .nil pass0 (pa_cons (pv 0) (pa_cons (pe_callB call_len_str (by rfl) B.len PySem.boot_len (pa_cons (pv 3) pa_nil)) pa_nil))) (fun _ _ => rfl))))))
      (pss_one (ps_ret (pv 2)))), ?_⟩
    refine ⟨(by show 3 ≤ sizeLine; decide), fun l nl => ?_⟩
    have bag1 : BagAt (upd H l (.lst [.str "abcdefghijklmnopqrstuvwxyz", .str "ab", .str "za"])) p := let ⟨x, y, e⟩ := bag; ⟨x, y, same_upd nl _ _ e⟩
    have lp : l ≠ p := fun e => by
      obtain ⟨x, y, e2⟩ := bag
      rw [e, e2] at nl
      cases nl
    refine ⟨_, rfl, p, 3, rfl, bag1, by decide, by decide, fun x1 y1 k hk0 hk1 => ?_⟩
    have hl : (upd (upd H l (.lst [.str "abcdefghijklmnopqrstuvwxyz", .str "ab", .str "za"])) p (.lst [.int x1, .int y1])) l = some (.lst [.str "abcdefghijklmnopqrstuvwxyz", .str "ab", .str "za"]) := by
      rw [upd_ne lp, upd_same]
    have kp : ∀ b o, b ≠ p → H b = some o → (upd (upd H l (.lst [.str "abcdefghijklmnopqrstuvwxyz", .str "ab", .str "za"])) p (.lst [.int x1, .int y1])) b = some o := fun b o hb e => by
      rw [upd_ne hb]
      exact same_upd nl _ _ e
    have bag2 : BagAt (upd (upd H l (.lst [.str "abcdefghijklmnopqrstuvwxyz", .str "ab", .str "za"])) p (.lst [.int x1, .int y1])) p := ⟨_, _, upd_same⟩
    generalize upd (upd H l (.lst [.str "abcdefghijklmnopqrstuvwxyz", .str "ab", .str "za"])) p (.lst [.int x1, .int y1]) = G at hl kp bag2
    obtain ⟨sg, hsg, hat⟩ : ∃ sg : Str, (0 < sg.length ∧ sg.length ≤ 26 ∧ Lt sg) ∧ atI ([.str "abcdefghijklmnopqrstuvwxyz", .str "ab", .str "za"] : List V) k = some (.str sg) := by
      obtain rfl | rfl | rfl : k = 0 ∨ k = 1 ∨ k = 2 := by omega
      · exact ⟨"abcdefghijklmnopqrstuvwxyz", ⟨by decide +kernel, by decide +kernel, by unfold Lt; decide +kernel⟩, atI_nat (j := 0) rfl⟩
      · exact ⟨"ab", ⟨by decide +kernel, by decide +kernel, by unfold Lt; decide +kernel⟩, atI_nat (j := 1) rfl⟩
      · exact ⟨"za", ⟨by decide +kernel, by decide +kernel, by unfold Lt; decide +kernel⟩, atI_nat (j := 2) rfl⟩
    refine ⟨l, _, k, _, rfl, rfl, SqL.of hl, hat, _, _, rfl, ?_⟩
    refine ⟨_, rfl, _, rfl, _, _, rfl, rfl, p, m + 1, rfl, bag2, by omega, by omega, fun x2 y2 t ht0 ht1 => ?_⟩
    refine ⟨t, rfl, by omega, by omega, for_range (lo := 0) (n := t.toNat) (fun i σ H2 => ∃ (z : Str) (y4 : Option V), σ = [some (.ref p), some (.int m), some (.str z), some (.str sg), y4] ∧ (∀ b o, b ≠ p → H b = some o → H2 b = some o) ∧ BagAt H2 p ∧ Lt z ∧ z.length = i) ?_ ?_ ?_⟩
    · refine ⟨"", none, rfl, fun b o hb e => by rw [upd_ne hb]; exact kp b o hb e, ⟨_, _, upd_same⟩, by unfold Lt; decide +kernel, by decide +kernel⟩
    · rintro i σ H2 hi ⟨z, y4, rfl, k2, b2, lz, ez⟩
      have hsl : sg.length ≤ sizeLine := Nat.le_trans hsg.2.1 (by decide)
      refine ⟨_, rfl, _, rfl, _, rfl, _, rfl, sg, rfl, hsl, p, (sg.length : Int), rfl, b2, by omega, by omega, fun x3 y3 c hc0 hc1 => ?_⟩
      obtain ⟨j, rfl⟩ : ∃ j : Nat, c = j := ⟨c.toNat, by omega⟩
      have hjl : j < sg.cps.toList.length := by
        have e : sg.cps.toList.length = sg.length := by simp [Str.length]
        omega
      have hcj : sg.cps.toList[j]? = some sg.cps.toList[j] := List.getElem?_eq_getElem hjl
      have lone : Lt ⟨#[sg.cps.toList[j]]⟩ := by
        intro c hc
        have e : c = sg.cps.toList[j] := by simpa using hc
        rw [e]
        exact hsg.2.2 _ (List.getElem_mem hjl)
      have one : (⟨#[sg.cps.toList[j]]⟩ : Str).length = 1 := rfl
      refine ⟨sg, _, _, rfl, rfl, hsl, atI_nat hcj, _, _, rfl, rfl, ?_, ?_⟩
      · rw [one, ez]
        exact Nat.le_trans (show i + 1 ≤ 2000 by omega) (by decide)
      · refine ⟨_, _, rfl, fun b o hb e => by rw [upd_ne hb]; exact k2 b o hb e, ⟨_, _, upd_same⟩, lt_append lz lone, ?_⟩
        rw [strLen_append, one, ez]
    · rintro σ H2 ⟨z, y4, rfl, k2, b2, lz, ez⟩
      exact ⟨_, rfl, q H2 z k2 b2 lz (by omega)⟩
/-! ### _law_size: one level more for each depth -/
def spSize (K : PySem.W.Frag) (N : Nat) : Sp := fun vs H Q _ => ∃ (v : V) (d : PyData) (Hv : Hp), vs = [v] ∧ Same Hv H ∧ Dp K Hv v d ∧ valD d ∧ d.depth ≤ N ∧ sz d ≤ 1000000 ∧ ∀ H', Same H H' → Q (.int (sz d : Nat)) H'
theorem scSize : FnScope ["_law_value_here", "_law_one"] ["_law_value_here"] (defScope sSize) := ⟨rfl, rfl, rfl, by decide +kernel, rfl, by decide +kernel, by decide +kernel⟩
/-- what is no list: one, or one more than the letters -/
theorem val_leaf {K : PySem.W.Frag} {H : Hp} {v : V} {d : PyData} (h : Dp K H v d) (hv : valD d) (e : (tyD d == "list") = false) : (v = .non ∧ d = .none) ∨ ∃ x, v = .str x ∧ d = .str x := by
  cases h with
  | non => exact .inl ⟨rfl, rfl⟩
  | str x => exact .inr ⟨x, rfl, rfl⟩
  | bl _ => exact hv.elim
  | int _ => exact hv.elim
  | lst _ _ => simp [tyD] at e
  | tup _ _ => exact hv.elim
theorem ok_size {f : Addr} {fd : FuncData} (F : Fun K "_law_size" "_law_size" sSize f fd) (T : Nm mg) (B : Nb mg) (Y : Nv mg) (b : Binds K fd ["_law_value_here"] []) (g : mg "_law_size" = some (.ref f)) : ∀ N : Nat, FnOk P w K mg base CX0 (N + 1) f fd ["_law_value_here"] (spSize K N)
  | 0 => by
    refine F.ok scSize (fun vs H Q E h => ?_) (fun cdv A outer s H vs Q E hr h => ?_)
    · obtain ⟨v, d, Hv, rfl, _⟩ := h
      rfl
    · obtain ⟨v, d, Hv, rfl, sv, hd, hv, hz, hn, q⟩ := h
      refine ⟨_, pss_cons (ps_if (pt_val (pe_callB call_isi (by rfl) T.isi (by decide +kernel) (pa_cons (pv 0) (pa_cons (pe_bltn (v := .ty "list") (by rfl) T.lst (by decide +kernel) rfl) pa_nil)))) pss_never pss_nil)
        (pss_one (ps_ret (pe_ifExp (pt_cmp (pc_isN (pv 0))) pe_int (pe_op op_add pe_int (pe_callB call_len_str (by rfl) B.len PySem.boot_len (pa_cons (pv 0) pa_nil)))))), ?_⟩
      refine ⟨_, rfl, v, .ty "list", .type (tyD d), .type "list", _, rfl, .ty _, dp_ty (dp_same sv _ _ hd), kitL d K, _, rfl, ?_⟩
      have e : (tyD d == "list") = false := by
        cases hd with
        | lst _ _ => simp [PyData.depth] at hz
        | _ => simp [tyD]
      rw [e]
      refine iteF ?_
      rcases val_leaf hd hv e with ⟨rfl, rfl⟩ | ⟨x, rfl, rfl⟩
      · exact ⟨_, rfl, _, rfl, iteT (q H (Same.refl _))⟩
      · refine ⟨_, rfl, _, rfl, iteF ⟨_, rfl, x, rfl, Nat.le_trans (show x.length ≤ 1000000 by simp only [sz] at hn; omega) (by decide), _, _, rfl, rfl, ?_⟩⟩
        have e2 : (1 : Int) + ((x.length : Nat) : Int) = ((sz (.str x) : Nat) : Int) := by simp only [sz]; omega
        show Q (.int (1 + ((x.length : Nat) : Int))) H
        rw [e2]
        exact q H (Same.refl _)
  | N + 1 => by
    have G := ok_size F T B Y b g N
    refine F.ok scSize (fun vs H Q E h => ?_) (fun cdv A outer s H vs Q E hr h => ?_)
    · obtain ⟨v, d, Hv, rfl, _⟩ := h
      rfl
    · obtain ⟨v, d, Hv, rfl, sv, hd, hv, hz, hn, q⟩ := h
      refine ⟨_, pss_cons (ps_if (pt_val (pe_callB call_isi (by rfl) T.isi (by decide +kernel) (pa_cons (pv 0) (pa_cons (pe_bltn (v := .ty "list") (by rfl) T.lst (by decide +kernel) rfl) pa_nil))))
          (pss_one (ps_ret (pe_op op_add pe_int (pe_callB (cr_sum rfl) (by rfl) Y.sum (by decide +kernel) (pa_cons (pe_lc (own := [("_law_one", 1)]) (g := gName 1) (tt := tYes) (te := tCall (spSize K N) [] E0 (tCons (tVar 1) tNil)) rfl scSize.nd (pi_list (pv 0))
            (blkOk_by (own := [("_law_one", 1)]) (N := ["_law_value_here", "_law_one"]) (sc := defScope sSize) (by decide +kernel)) (fun _ _ _ _ _ => pg_name (i := 1) scSize.nd rfl (Or.inl rfl)) (fun _ _ _ _ _ => pts_nil)
            (fun _ _ _ _ _ => pe_call G hr (by rfl) g F.kp b .nil pass0 (pa_cons (pv 1) pa_nil))) pa_nil))))) pss_nil)
        (pss_one (ps_ret (pe_ifExp (pt_cmp (pc_isN (pv 0))) pe_int (pe_op op_add pe_int (pe_callB call_len_str (by rfl) B.len PySem.boot_len (pa_cons (pv 0) pa_nil)))))), ?_⟩
      refine ⟨_, rfl, v, .ty "list", .type (tyD d), .type "list", _, rfl, .ty _, dp_ty (dp_same sv _ _ hd), kitL d K, _, rfl, ?_⟩
      by_cases e : (tyD d == "list") = true
      · rw [e]
        refine iteT ?_
        cases hd with
        | @lst a xs es h1 h2 =>
          have hl : xs.length = es.length := DpAll.length h2
          have hvs : valAll es := hv
          have hz2 : PyData.depthAll es ≤ N := by
            simp only [PyData.depth] at hz
            omega
          have hn2 : szAll es + 1 ≤ 1000000 := by simpa only [sz] using hn
          refine ⟨_, rfl, a, rfl, ⟨_, sv.seq h1⟩, fun D nD => lc_list (K := K) (a := a) (xs := xs) (fun i H' => H' D = some (.lst ((es.take i).map fun e => V.int ((sz e : Nat) : Int))) ∧ Same H H') ⟨upd_same, same_upd nD⟩ (fun i H' hi ⟨_, sm⟩ => sm.seq (sv.seq h1)) ?_ ?_⟩
          · rintro i x H' hx ⟨k1, k2⟩
            obtain ⟨ei, hei, dei⟩ := DpAll.get h2 hx
            refine ⟨rfl, x, rfl, x, ei, Hv, rfl, sv.trans k2, dei, val_get hvs hei, Nat.le_trans (depth_get hei) hz2, Nat.le_trans (sz_get hei) (by omega), fun H'' s2 => ?_⟩
            have il := (List.getElem?_eq_some_iff.mp hei).1
            have el := szAll_len es
            refine ⟨_, s2 _ _ k1, Nat.lt_of_le_of_lt (show ((es.take i).map fun e => V.int ((sz e : Nat) : Int)).length ≤ 1000000 by rw [List.length_map, List.length_take]; omega) (by decide), ?_, same_fresh nD (k2.trans s2)⟩
            rw [upd_same, List.take_add_one, hei, List.map_append]
            rfl
          · rintro H' ⟨k1, k2⟩
            rw [hl, List.take_length] at k1
            have k1' : H' D = some (.lst ((es.map fun e => ((sz e : Nat) : Int)).map V.int)) := by
              rw [k1, List.map_map]
              rfl
            refine ⟨D, _, rfl, SqL.of k1', _, _, rfl, rfl, ?_⟩
            have e2 : (1 : Int) + (es.map fun e => ((sz e : Nat) : Int)).sum = ((sz (.list es) : Nat) : Int) := by
              rw [szAll_sum, sz]
              omega
            show Q (.int (1 + (es.map fun e => ((sz e : Nat) : Int)).sum)) H'
            rw [e2]
            exact q H' k2
        | _ => simp [tyD] at e
      · have e' : (tyD d == "list") = false := by simpa using e
        rw [e']
        refine iteF ?_
        rcases val_leaf hd hv e' with ⟨rfl, rfl⟩ | ⟨x, rfl, rfl⟩
        · exact ⟨_, rfl, _, rfl, iteT (q H (Same.refl _))⟩
        · refine ⟨_, rfl, _, rfl, iteF ⟨_, rfl, x, rfl, Nat.le_trans (show x.length ≤ 1000000 by simp only [sz] at hn; omega) (by decide), _, _, rfl, rfl, ?_⟩⟩
          have e2 : (1 : Int) + ((x.length : Nat) : Int) = ((sz (.str x) : Nat) : Int) := by simp only [sz]; omega
          show Q (.int (1 + ((x.length : Nat) : Int))) H
          rw [e2]
          exact q H (Same.refl _)
end
end TX
namespace TX
open PySem PySem.Spec PyProof.Rows L2
theorem eqT {n m : Int} {A B : Prop} (h : n = m) (a : A) : if decide (V.int n = V.int m) = true then A else B := by
  rw [h, decide_eq_true rfl]
  exact iteT a
theorem eqF {n m : Int} {A B : Prop} (h : n ≠ m) (b : B) : if decide (V.int n = V.int m) = true then A else B := by
  rw [decide_eq_false fun e => h (V.int.inj e)]
  exact iteF b
theorem ltT {n m : Int} {A B : Prop} (h : n < m) (a : A) : if decide (n < m) = true then A else B := by
  rw [decide_eq_true h]
  exact iteT a
theorem ltF {n m : Int} {A B : Prop} (h : ¬ n < m) (b : B) : if decide (n < m) = true then A else B := by
  rw [decide_eq_false h]
  exact iteF b
/-! ### _law_value -/
def spValue (K : PySem.W.Frag) (N : Nat) : Sp := fun vs H Q _ => ∃ (p : Addr) (deep room : Nat), vs = [.ref p, .int deep, .int room] ∧ BagAt H p ∧ deep ≤ N ∧ 1 ≤ room ∧ room ≤ 1000 ∧
  ∀ (H' : Hp) (v : V) (d : PyData), (∀ b o, b ≠ p → H b = some o → H' b = some o) → BagAt H' p → Dp K (newp H H') v d → valD d → d.depth ≤ deep → sz d ≤ room → Q v H'
theorem szAll_snoc (ds : List PyData) (d : PyData) : szAll (ds ++ [d]) = szAll ds + sz d := by
  rw [szAll_append]
  simp [szAll]
section
variable {P : Program} {w : World} {K : PySem.W.Frag} {mg : Str → Option Value} {base : Heap}
theorem scValue : FnScope ["_law_bag_here", "_law_deep", "_law_room", "_law_pick", "_law_made", "_law_left", "_law_turn"] ["_law_bag_here", "_law_deep", "_law_room"] (defScope sValue) := ⟨rfl, rfl, rfl, by decide +kernel, rfl, by decide +kernel, by decide +kernel⟩
/-- what value calls -/
structure Vc (P : Program) (w : World) (K : PySem.W.Frag) (mg : Str → Option Value) (base : Heap) (fT fX fS : Addr) (dT dX dS : FuncData) : Prop where
  GT : FnOk P w K mg base CX0 1 fT dT ["_law_bag_here", "_law_many"] spTake
  bT : Binds K dT ["_law_bag_here", "_law_many"] []
  gT : mg "_law_take" = some (.ref fT)
  kT : PySem.W.keepIn K (.ref fT) = true
  GX : FnOk P w K mg base CX0 2 fX dX ["_law_bag_here", "_law_most"] spText
  bX : Binds K dX ["_law_bag_here", "_law_most"] []
  gX : mg "_law_text" = some (.ref fX)
  kX : PySem.W.keepIn K (.ref fX) = true
  GS : ∀ N : Nat, FnOk P w K mg base CX0 (N + 1) fS dS ["_law_value_here"] (spSize K N)
  bS : Binds K dS ["_law_value_here"] []
  gS : mg "_law_size" = some (.ref fS)
  kS : PySem.W.keepIn K (.ref fS) = true
theorem pe_ex {X : Cx} {i : Type} {e : Expr} {t : i → TE} (h : ∀ j, PE X e (t j)) : PE X e (fun σ H Q => ∃ j, t j σ H Q) := ⟨fun pins s σ H Q I ⟨j, q⟩ => (h j).run pins s σ H Q I q⟩
theorem ok_value {f fT fX fS : Addr} {fd dT dX dS : FuncData} (F : Fun K "_law_value" "_law_value" sValue f fd) (b : Binds K fd ["_law_bag_here", "_law_deep", "_law_room"] []) (g : mg "_law_value" = some (.ref f)) (Y : Nv mg) (C : Vc P w K mg base fT fX fS dT dX dS) (N : Nat)
    (G : ∀ j : { M : Nat // M + 1 = N }, FnOk P w K mg base CX0 (j.1 + 3) f fd ["_law_bag_here", "_law_deep", "_law_room"] (spValue K j.1)) : FnOk P w K mg base CX0 (N + 3) f fd ["_law_bag_here", "_law_deep", "_law_room"] (spValue K N) := by
  refine F.ok scValue (fun vs H Q E h => ?_) (fun cdv A outer s H vs Q E hr h => ?_)
  · obtain ⟨p, deep, room, rfl, _⟩ := h
    rfl
  · obtain ⟨p, deep, room, rfl, bag, hdN, hr1, hr2, q⟩ := h
    have hrT : Room 1 _ := hr.mono (by omega)
    have hrX : Room 2 _ := hr.mono (by omega)
    have hrS : Room (N + 1) _ := hr.mono (by omega)
    have hrR : ∀ j : { M : Nat // M + 1 = N }, Room (j.1 + 3) _ := fun j => hr.mono (by have := j.2; omega)
    refine ⟨_, pss_cons (ps_set (i := 3) scValue.nd rfl (.inl rfl) (pe_call C.GT hrT (by rfl) C.gT C.kT C.bT .nil pass0 (pa_cons (pv 0) (pa_cons pe_int pa_nil))))
      (pss_cons (ps_if (PW.pt (pw_or (pt_cmpR op_eq (pv 3) pe_int (nomark _)) (pw_or1 (pt_cmpR op_eq (pv 2) pe_int (nomark _)))))
        (pss_one (ps_ret (pe_ix ix_list (pe_lst (pa_cons pe_non (pa_cons pe_str (pa_cons (pe_lst pa_nil) pa_nil)))) (pe_call C.GT hrT (by rfl) C.gT C.kT C.bT .nil pass0 (pa_cons (pv 0) (pa_cons (pe_ifExp (pt_cmpR op_gt (pv 1) pe_int (nomark _)) pe_int pe_int) pa_nil))) (fun _ _ => rfl)))) pss_nil)
      (pss_cons (ps_if (PW.pt (pw_or (pt_cmpR op_eq (pv 3) pe_int (nomark _)) (pw_or1 (pt_cmpR op_eq (pv 1) pe_int (nomark _)))))
        (pss_one (ps_ret (pe_call C.GX hrX (by rfl) C.gX C.kX C.bX .nil pass0 (pa_cons (pv 0) (pa_cons (pe_callB (call_min2 rfl) (by rfl) Y.min (by decide +kernel) (pa_cons pe_int (pa_cons (pe_op op_sub (pv 2) pe_int) pa_nil))) pa_nil))))) pss_nil)
      (pss_cons (ps_par (i := 4) (j := 5) rfl scValue.nd rfl rfl (by decide) rfl rfl (pa_cons (pe_lst pa_nil) (pa_cons (pe_op op_sub (pv 2) pe_int) pa_nil)) (by rfl))
      (pss_cons (ps_for PassesOwn.never rfl (pi_range1 (by rfl) Y.range (pa_cons (pe_call C.GT hrT (by rfl) C.gT C.kT C.bT .nil pass0 (pa_cons (pv 0) (pa_cons pe_int pa_nil))) pa_nil)) (pg_name (i := 6) scValue.nd rfl (.inl rfl))
        (pss_one (ps_if (pt_cmpR op_gt (pv 5) pe_int (nomark _))
          (pss_cons (ps_expr (pe_bm PySem.F.plainAttrs_list PySem.F.slot_list_append PySem.F.type_list_append mt_append (pv 4) (pa_cons (pe_ex fun j => pe_call (G j) (hrR j) (by rfl) g F.kp b .nil pass0 (pa_cons (pv 0) (pa_cons (pe_op op_sub (pv 1) pe_int) (pa_cons (pv 5) pa_nil)))) pa_nil)))
          (pss_one (ps_set (i := 5) scValue.nd rfl (.inl rfl) (pe_op op_sub (pv 5) (pe_call (C.GS N) hrS (by rfl) C.gS C.kS C.bS .nil pass0 (pa_cons (pe_ix ix_list (pv 4) (pe_un un_neg pe_int) (fun _ _ => rfl)) pa_nil)))))) pss_nil)))
      (pss_one (ps_ret (pv 4))))))), ?_⟩
    refine ⟨_, rfl, p, 5, rfl, bag, by decide, by decide, fun x1 y1 k hk0 hk1 => ?_⟩
    have kp : ∀ b o, b ≠ p → H b = some o → upd H p (.lst [.int x1, .int y1]) b = some o := fun b o hb e => by
      rw [upd_ne hb]
      exact e
    have bag1 : BagAt (upd H p (.lst [.int x1, .int y1])) p := ⟨_, _, upd_same⟩
    have keepAll : ∀ b, H b ≠ none → upd H p (.lst [.int x1, .int y1]) b ≠ none := fun b hb => by
      by_cases e : b = p
      · rw [e, upd_same]
        exact fun z => nomatch z
      · rw [upd_ne e]
        exact hb
    have pH : H p ≠ none := by
      obtain ⟨x, y, e⟩ := bag
      rw [e]
      exact fun z => nomatch z
    generalize upd H p (.lst [.int x1, .int y1]) = G1 at kp bag1 keepAll
    have newOf : ∀ {b : Addr}, G1 b = none → H b = none := fun {b} e => Classical.byContradiction fun hb => keepAll b hb e
    -- the first return: one of three small things
    have small : (tRet (tOp (rIxL K) (tLst (tCons (tC .non) (tCons (tC (.str "")) (tCons (tLst tNil) tNil)))) (tCall spTake [] E0 (tCons (tVar 0) (tCons (tIf (tTest (tOp (rI0 fun i j => .bl (decide (j < i))) (tVar 1) (tC (.int 0)))) (tC (.int 3)) (tC (.int 2))) tNil))))) { nx := fun _ H' => Q .non H', rt := Q } [some (.ref p), some (.int deep), some (.int room), some (.int k), none, none, none] G1 := by
      refine ⟨Nat.zero_le _, fun l0 n0 => ⟨(by show 3 ≤ sizeLine; decide), fun l n => ?_⟩⟩
      have b2 : BagAt (upd (upd G1 l0 (.lst [])) l (.lst [.non, .str "", .ref l0])) p := let ⟨x, y, e⟩ := bag1; ⟨x, y, same_upd n _ _ (same_upd n0 _ _ e)⟩
      have p0 : p ≠ l0 := fun e => by
        obtain ⟨x, y, e2⟩ := bag1
        rw [← e, e2] at n0
        cases n0
      have p1 : p ≠ l := fun e => by
        obtain ⟨x, y, e2⟩ := bag1
        have e3 := same_upd n0 (o := .lst []) _ _ e2
        rw [e, n] at e3
        cases e3
      have l01 : l0 ≠ l := fun e => by
        rw [← e, upd_same] at n
        cases n
      refine ⟨_, rfl, _, rfl, _, _, rfl, rfl, _, rfl, ?_⟩
      by_cases hd0 : (0 : Int) < (deep : Int)
      · refine ltT hd0 ?_
        refine ⟨p, 3, rfl, b2, by decide, by decide, fun x2 y2 c hc0 hc1 => ?_⟩
        have hl : (upd (upd (upd G1 l0 (.lst [])) l (.lst [.non, .str "", .ref l0])) p (.lst [.int x2, .int y2])) l = some (.lst [.non, .str "", .ref l0]) := by
          rw [upd_ne p1.symm, upd_same]
        have hl0 : (upd (upd (upd G1 l0 (.lst [])) l (.lst [.non, .str "", .ref l0])) p (.lst [.int x2, .int y2])) l0 = some (.lst []) := by
          rw [upd_ne p0.symm, upd_ne l01, upd_same]
        have k2 : ∀ b o, b ≠ p → H b = some o → (upd (upd (upd G1 l0 (.lst [])) l (.lst [.non, .str "", .ref l0])) p (.lst [.int x2, .int y2])) b = some o := fun b o hb e => by
          rw [upd_ne hb]
          exact same_upd n _ _ (same_upd n0 _ _ (kp b o hb e))
        have b3 : BagAt (upd (upd (upd G1 l0 (.lst [])) l (.lst [.non, .str "", .ref l0])) p (.lst [.int x2, .int y2])) p := ⟨_, _, upd_same⟩
        obtain rfl | rfl | rfl : c = 0 ∨ c = 1 ∨ c = 2 := by omega
        · exact ⟨l, _, 0, _, rfl, rfl, SqL.of hl, atI_nat (j := 0) rfl, q _ _ .none k2 b3 .non trivial (by simp [PyData.depth]) (by simpa [sz] using hr1)⟩
        · exact ⟨l, _, 1, _, rfl, rfl, SqL.of hl, atI_nat (j := 1) rfl, q _ _ (.str "") k2 b3 (.str _) (by show Lt ""; unfold Lt; decide +kernel) (by simp [PyData.depth]) (by simp only [sz]; exact hr1)⟩
        · refine ⟨l, _, 2, _, rfl, rfl, SqL.of hl, atI_nat (j := 2) rfl, q _ _ (.list []) k2 b3 (.lst (SqL.of ?_) .nil) trivial (by simp [PyData.depth, PyData.depthAll]; omega) (by simp [sz, szAll]; exact hr1)⟩
          rw [newp_at (newOf n0)]
          exact hl0
      · refine ltF hd0 ?_
        refine ⟨p, 2, rfl, b2, by decide, by decide, fun x2 y2 c hc0 hc1 => ?_⟩
        have hl : (upd (upd (upd G1 l0 (.lst [])) l (.lst [.non, .str "", .ref l0])) p (.lst [.int x2, .int y2])) l = some (.lst [.non, .str "", .ref l0]) := by
          rw [upd_ne p1.symm, upd_same]
        have hl0 : (upd (upd (upd G1 l0 (.lst [])) l (.lst [.non, .str "", .ref l0])) p (.lst [.int x2, .int y2])) l0 = some (.lst []) := by
          rw [upd_ne p0.symm, upd_ne l01, upd_same]
        have k2 : ∀ b o, b ≠ p → H b = some o → (upd (upd (upd G1 l0 (.lst [])) l (.lst [.non, .str "", .ref l0])) p (.lst [.int x2, .int y2])) b = some o := fun b o hb e => by
          rw [upd_ne hb]
          exact same_upd n _ _ (same_upd n0 _ _ (kp b o hb e))
        have b3 : BagAt (upd (upd (upd G1 l0 (.lst [])) l (.lst [.non, .str "", .ref l0])) p (.lst [.int x2, .int y2])) p := ⟨_, _, upd_same⟩
        obtain rfl | rfl : c = 0 ∨ c = 1 := by omega
        · exact ⟨l, _, 0, _, rfl, rfl, SqL.of hl, atI_nat (j := 0) rfl, q _ _ .none k2 b3 .non trivial (by simp [PyData.depth]) (by simpa [sz] using hr1)⟩
        · exact ⟨l, _, 1, _, rfl, rfl, SqL.of hl, atI_nat (j := 1) rfl, q _ _ (.str "") k2 b3 (.str _) (by show Lt ""; unfold Lt; decide +kernel) (by simp [PyData.depth]) (by simp only [sz]; exact hr1)⟩
    refine ⟨_, rfl, rfl, _, rfl, ?_⟩
    by_cases e0 : k = 0
    · exact eqT e0 (iteT small)
    refine eqF e0 ⟨_, rfl, rfl, _, rfl, ?_⟩
    by_cases er : (room : Int) = 1
    · exact eqT er small
    refine eqF er ?_
    -- a text
    have text : (tRet (tCall spText [] E0 (tCons (tVar 0) (tCons (tCB (fun xs H Q => ∃ i j, xs = [.int i, .int j] ∧ Q (.int (if j < i then j else i)) H) (tCons (tC (.int 4)) (tCons (tOp (rI0 fun i j => .int (i - j)) (tVar 2) (tC (.int 1))) tNil))) tNil)))) { nx := fun _ H' => Q .non H', rt := Q } [some (.ref p), some (.int deep), some (.int room), some (.int k), none, none, none] G1 := by
      refine ⟨_, rfl, _, rfl, _, _, rfl, rfl, _, _, rfl, p, _, rfl, bag1, ?_, ?_, fun H' z k2 b2 lz hz => ?_⟩
      · split <;> omega
      · split <;> omega
      · refine q H' (.str z) (.str z) (fun b o hb e => k2 b o hb (kp b o hb e)) b2 (.str z) lz (by simp [PyData.depth]) ?_
        simp only [sz]
        split at hz <;> omega
    refine ⟨_, rfl, rfl, _, rfl, ?_⟩
    by_cases e1 : k = 1
    · exact eqT e1 (iteT text)
    refine eqF e1 ⟨_, rfl, rfl, _, rfl, ?_⟩
    by_cases ed : (deep : Int) = 0
    · exact eqT ed text
    refine eqF ed ?_
    clear small text
    obtain ⟨M, rfl⟩ : ∃ M, deep = M + 1 := ⟨deep - 1, by omega⟩
    -- made, left = [], room - 1
    refine ⟨Nat.zero_le _, fun m nm => ⟨_, rfl, _, _, rfl, rfl, _, _, rfl, ?_⟩⟩
    have nmH : H m = none := newOf nm
    have mp : m ≠ p := fun e => by
      rw [e] at nmH
      exact pH nmH
    have b2 : BagAt (upd G1 m (.lst [])) p := let ⟨x, y, e⟩ := bag1; ⟨x, y, same_upd nm _ _ e⟩
    refine ⟨_, rfl, p, 5, rfl, b2, by decide, by decide, fun x2 y2 c hc0 hc1 => ?_⟩
    refine ⟨c, rfl, by omega, by omega, for_range (lo := 0) (n := c.toNat) (fun i σ H2 => ∃ (left : Nat) (ws : List V) (ds : List PyData) (y6 : Option V), σ = [some (.ref p), some (.int ((M + 1 : Nat) : Int)), some (.int room), some (.int k), some (.ref m), some (.int left), y6] ∧
      (∀ b o, b ≠ p → H b = some o → H2 b = some o) ∧ BagAt H2 p ∧ H2 m = some (.lst ws) ∧ DpAll K (newB H m H2) ws ds ∧ valAll ds ∧ PyData.depthAll ds ≤ M ∧ szAll ds + left + 1 = room) ?_ ?_ ?_⟩
    · refine ⟨room - 1, [], [], none, ?_, fun b o hb e => ?_, ⟨_, _, upd_same⟩, ?_, .nil, trivial, by simp [PyData.depthAll], by simp [szAll]; omega⟩
      · have e : ((room : Int) - 1) = ((room - 1 : Nat) : Int) := by omega
        show _ = _
        rw [← e]
        rfl
      · rw [upd_ne hb]
        exact same_upd nm _ _ (kp b o hb e)
      · rw [upd_ne mp, upd_same]
    · rintro i σ H2 hi ⟨left, ws, ds, y6, rfl, k2, b2, hm2, hws, hvs, hdp, hsz⟩
      refine ⟨_, rfl, _, _, rfl, rfl, _, rfl, ?_⟩
      by_cases hl : (0 : Int) < (left : Int)
      · refine ltT hl ?_
        have em : ((M + 1 : Nat) : Int) - 1 = ((M : Nat) : Int) := by omega
        refine ⟨_, rfl, .inl ⟨rfl, _, SqL.of hm2⟩, ⟨N - 1, by omega⟩, _, rfl, _, rfl, _, _, rfl, rfl, _, rfl, p, M, left, ?_, b2, (by show M ≤ N - 1; omega), by omega, by omega, fun H3 v d k3 b3 hv vd dd ds3 => ?_⟩
        · show [V.ref p, V.int (((M + 1 : Nat) : Int) - 1), V.int left] ++ [] = _
          rw [em]
          rfl
        have hm3 : H3 m = some (.lst ws) := k3 m _ mp hm2
        have wl : ws.length ≤ 1000 := by
          have e1 := DpAll.length hws
          have e2 := szAll_len ds
          omega
        refine ⟨m, ws, v, rfl, rfl, hm3, Nat.lt_of_le_of_lt wl (by decide), ?_⟩
        have all2 : ∀ b, H b ≠ none → H2 b ≠ none := fun b hb => by
          cases e : H b with
          | none => exact absurd e hb
          | some o =>
            by_cases eb : b = p
            · rw [eb]
              obtain ⟨x, y, e2⟩ := b2
              rw [e2]
              exact fun z => nomatch z
            · rw [k2 b o eb e]
              exact fun z => nomatch z
        have old : Same (newB H m H2) (newB H m (upd H3 m (.lst (ws ++ [v])))) := fun b o e => by
          by_cases bm : b = m
          · unfold newB at e
            rw [if_pos bm] at e
            cases e
          · cases hh : H b with
            | some u =>
              unfold newB at e
              rw [if_neg bm, hh] at e
              cases e
            | none =>
              have bp : b ≠ p := fun z => by
                rw [z] at hh
                exact pH hh
              rw [newB_at hh bm] at e ⊢
              rw [upd_ne bm]
              exact k3 b o bp e
        have new : Same (newp H2 H3) (newB H m (upd H3 m (.lst (ws ++ [v])))) := fun b o e => by
          cases h2 : H2 b with
          | some u =>
            rw [newp_old h2] at e
            cases e
          | none =>
            rw [newp_at h2] at e
            have hh : H b = none := Classical.byContradiction fun z => all2 b z h2
            have bm : b ≠ m := fun z => by
              rw [z, hm2] at h2
              cases h2
            rw [newB_at hh bm, upd_ne bm]
            exact e
        have b4 : BagAt (upd H3 m (.lst (ws ++ [v]))) p := let ⟨x, y, e⟩ := b3; ⟨x, y, by rw [upd_ne mp.symm]; exact e⟩
        have k4 : ∀ b o, b ≠ p → H b = some o → (upd H3 m (.lst (ws ++ [v]))) b = some o := fun b o hb e => by
          rw [upd_ne (ne_of_none e nmH)]
          exact k3 b o hb (k2 b o hb e)
        have hm4 : (upd H3 m (.lst (ws ++ [v]))) m = some (.lst (ws ++ [v])) := upd_same
        have vnew : Dp K (newB H m (upd H3 m (.lst (ws ++ [v])))) v d := dp_same new _ _ hv
        have all4 : DpAll K (newB H m (upd H3 m (.lst (ws ++ [v])))) (ws ++ [v]) (ds ++ [d]) := DpAll.append (dpAll_same old _ _ hws) (.cons vnew .nil)
        generalize upd H3 m (.lst (ws ++ [v])) = G4 at b4 k4 hm4 vnew all4
        have sub : Same (newB H m G4) G4 := fun b o e => newp_same _ _ (newB_newp _ _ e)
        -- left = left - size(made[-1])
        refine ⟨_, rfl, _, rfl, 1, rfl, m, _, -1, v, rfl, rfl, SqL.of hm4, atI_last _ _, v, d, newB H m G4, rfl, sub, vnew, vd, by omega, by omega, fun H5 s5 => ?_⟩
        refine ⟨_, _, rfl, rfl, left - sz d, ws ++ [v], ds ++ [d], some (.int (0 + (i : Int))), ?_, fun b o hb e => s5 _ _ (k4 b o hb e), ?_, s5 _ _ hm4, dpAll_same (newB_mono fun b o _ e => s5 _ _ e) _ _ all4, (valAll_append _ _).mpr ⟨hvs, vd, trivial⟩, ?_, ?_⟩
        · have e : ((left : Int) - (sz d : Int)) = ((left - sz d : Nat) : Int) := by omega
          show _ = _
          rw [← e]
          rfl
        · obtain ⟨x, y, e⟩ := b4
          exact ⟨x, y, s5 _ _ e⟩
        · rw [depthAll_append]
          simp only [PyData.depthAll]
          omega
        · rw [szAll_snoc]
          omega
      · refine ltF hl ?_
        exact ⟨left, ws, ds, _, rfl, k2, b2, hm2, hws, hvs, hdp, hsz⟩
    · rintro σ H2 ⟨left, ws, ds, y6, rfl, k2, b2, hm2, hws, hvs, hdp, hsz⟩
      refine ⟨_, rfl, q H2 (.ref m) (.list ds) k2 b2 (.lst (SqL.of ?_) (dpAll_same newB_newp _ _ hws)) hvs ?_ ?_⟩
      · rw [newp_at nmH]
        exact hm2
      · simp only [PyData.depth]
        omega
      · simp only [sz]
        omega
end
end TX
namespace TX
open PySem PySem.Spec PyProof.Rows L2
/-! ### a text, repeated -/
theorem mem_reps {P : Nat → Prop} {x : Array Nat} (hx : ∀ c ∈ x.toList, P c) : ∀ (k : Nat) (acc : Array Nat), (∀ c ∈ acc.toList, P c) → ∀ c ∈ ((List.replicate k x).foldl (· ++ ·) acc).toList, P c
  | 0, acc, h => by simpa using h
  | k + 1, acc, h => by
    rw [List.replicate_succ, List.foldl_cons]
    refine mem_reps hx k _ fun c hc => ?_
    rw [Array.toList_append] at hc
    exact (List.mem_append.mp hc).elim (h c) (hx c)
theorem size_rep : ∀ (x : Array Nat) (k : Nat) (acc : Array Nat), ((List.replicate k x).foldl (· ++ ·) acc).size = acc.size + k * x.size
  | x, 0, acc => by simp
  | x, k + 1, acc => by
    rw [List.replicate_succ, List.foldl_cons, size_rep x k, Array.size_append, Nat.succ_mul]
    omega
theorem mul_lt {x : Str} {n : Nat} (h : Lt x) : Lt (Txt.mul x (n : Int)) ∧ (Txt.mul x (n : Int)).length ≤ n * x.length + x.length := by
  unfold Txt.mul
  split
  · refine ⟨by unfold Lt; decide +kernel, ?_⟩
    have e : Str.empty.length = 0 := rfl
    omega
  · split
    · exact ⟨h, by omega⟩
    · refine ⟨mem_reps (P := fun c => 97 ≤ c ∧ c ≤ 122) h _ _ (by simp), ?_⟩
      have e := size_rep x.cps (n : Int).toNat #[]
      have e2 : (n : Int).toNat = n := by omega
      rw [e2] at e
      show ((List.replicate (n : Int).toNat x.cps).foldl (· ++ ·) #[]).size ≤ _
      rw [e2, e]
      have e3 : x.length = x.cps.size := rfl
      rw [e3]
      simp
section
variable {X : Cx}
def rMulS : R2 := fun x y H Q => ∃ (a : Str) (n : Nat), x = .str a ∧ y = .int n ∧ n ≤ 1000 ∧ a.length ≤ 1000 ∧ Q (.str (Txt.mul a (n : Int))) H
theorem op_mulS : OpR X (binaryOp .Mult) rMulS := by
  intro pins s σ H x y v u Q I rx ry h
  obtain ⟨a, n, rfl, rfl, hn, ha, q⟩ := h
  obtain ⟨t, rfl⟩ := rx
  obtain ⟨t', rfl⟩ := ry
  refine SB.mul ⟨?_, fun h1 _ => ?_, fun h1 _ => ?_⟩ fun t' k => ⟨.str _, H, I.tok k, ⟨t', rfl⟩, q⟩
  · rw [decide_eq_false (show ¬ ((n : Int) < -(2 ^ 63 : Int)) by omega), decide_eq_false (show ¬ ((n : Int) ≥ 2 ^ 63) by omega)]
    rfl
  · have h2 : (2 ^ 63 - 1 : Int) / 1000 ≤ (2 ^ 63 - 1) / (n : Int) := by
      refine Int.le_ediv_of_mul_le (by omega) ?_
      have e : (2 ^ 63 - 1 : Int) / 1000 = 9223372036854775 := by decide
      rw [e]
      have e2 : (9223372036854775 : Int) * (n : Int) ≤ 9223372036854775 * 1000 := Int.mul_le_mul_of_nonneg_left (by omega) (by omega)
      omega
    have e : (2 ^ 63 - 1 : Int) / 1000 = 9223372036854775 := by decide
    omega
  · have e : a.length * (n : Int).toNat ≤ 1000 * 1000 := Nat.mul_le_mul ha (by omega)
    show decide (a.length * (n : Int).toNat > sizeLine) = false
    exact decide_eq_false (by have : (1000 * 1000 : Nat) ≤ sizeLine := by decide
                              omega)
end
theorem lt_cut {z : Str} {lo hi : Option Int} (h : Lt z) : Lt (cutS z lo hi) := fun c hc => h c (List.mem_of_mem_drop (List.mem_of_mem_take (by simpa [cutS] using hc)))
theorem len_cut {z : Str} {t : Nat} : (cutS z none (some (t : Int))).length ≤ t := by
  unfold cutS
  show (List.toArray _).size ≤ t
  rw [List.size_toArray, List.length_take, HT.sIx_nat, HT.sIx_none]
  omega
theorem qfit {z : Str} (h : (z.length : Int) ≤ 5) : (("q" : Str)).length + z.length ≤ sizeLine := by
  have e : (("q" : Str)).length = 1 := by decide +kernel
  exact Nat.le_trans (show (("q" : Str)).length + z.length ≤ 6 by omega) (by decide)
/-! ### lists of data, cut and repeated -/
theorem DpAll.take {K : PySem.W.Frag} {H : Hp} : ∀ {ds : List PyData} {vs : List V} (n : Nat), DpAll K H vs ds → DpAll K H (vs.take n) (ds.take n)
  | [], _, n, h => by
    cases h
    simp
    exact .nil
  | d :: ds, _, 0, h => by
    simp
    exact .nil
  | d :: ds, _, n + 1, h => by
    cases h with
    | cons h1 h2 => exact .cons h1 (DpAll.take (ds := ds) n h2)
theorem DpAll.rep {K : PySem.W.Frag} {H : Hp} {ds : List PyData} {vs : List V} (h : DpAll K H vs ds) : ∀ n : Nat, DpAll K H (List.replicate n vs).flatten (List.replicate n ds).flatten
  | 0 => .nil
  | n + 1 => by
    rw [List.replicate_succ, List.replicate_succ, List.flatten_cons, List.flatten_cons]
    exact DpAll.append h (DpAll.rep h n)
theorem val_take : ∀ {ds : List PyData} (n : Nat), valAll ds → valAll (ds.take n)
  | [], n, h => by simpa using h
  | d :: ds, 0, h => trivial
  | d :: ds, n + 1, h => ⟨h.1, val_take n h.2⟩
theorem depth_take : ∀ {ds : List PyData} (n : Nat), PyData.depthAll (ds.take n) ≤ PyData.depthAll ds
  | [], n => by simp
  | d :: ds, 0 => by simp [PyData.depthAll]
  | d :: ds, n + 1 => by
    have := depth_take (ds := ds) n
    simp only [List.take_succ_cons, PyData.depthAll]
    omega
theorem val_rep {ds : List PyData} (h : valAll ds) : ∀ n : Nat, valAll (List.replicate n ds).flatten
  | 0 => trivial
  | n + 1 => by
    rw [List.replicate_succ, List.flatten_cons]
    exact (valAll_append _ _).mpr ⟨h, val_rep h n⟩
theorem depth_rep {ds : List PyData} : ∀ n : Nat, PyData.depthAll (List.replicate n ds).flatten ≤ PyData.depthAll ds
  | 0 => by simp [PyData.depthAll]
  | n + 1 => by
    have := depth_rep (ds := ds) n
    rw [List.replicate_succ, List.flatten_cons, depthAll_append]
    omega
/-- each of the data is at most that great -/
def EachLe (c : Nat) (ds : List PyData) : Prop := ∀ d ∈ ds, sz d ≤ c
theorem each_nil {c : Nat} : EachLe c [] := fun d hd => nomatch hd
theorem each_sum {c : Nat} : ∀ {ds : List PyData}, EachLe c ds → szAll ds ≤ c * ds.length
  | [], _ => by simp [szAll]
  | d :: ds, h => by
    have h1 := h d List.mem_cons_self
    have h2 := each_sum (ds := ds) fun e he => h e (List.mem_cons_of_mem _ he)
    rw [szAll, List.length_cons, Nat.mul_succ]
    omega
/-! ### what is new stays new -/
theorem newp_mono {H H2 H3 : Hp} {p : Addr} (pH : H p ≠ none) (k : ∀ b o, b ≠ p → H2 b = some o → H3 b = some o) : Same (newp H H2) (newp H H3) := fun b o e => by
  cases h : H b with
  | some u =>
    rw [newp_old h] at e
    cases e
  | none =>
    rw [newp_at h] at e ⊢
    exact k b o (fun z => pH (z ▸ h)) e
theorem newp_sub {H H2 H3 : Hp} (k : ∀ b, H b ≠ none → H2 b ≠ none) : Same (newp H2 H3) (newp H H3) := fun b o e => by
  cases h2 : H2 b with
  | some u =>
    rw [newp_old h2] at e
    cases e
  | none =>
    rw [newp_at h2] at e
    have h : H b = none := Classical.byContradiction fun z => k b z h2
    rw [newp_at h]
    exact e
/-- the entries of H are still there -/
theorem there {H H2 : Hp} {p : Addr} (k : ∀ b o, b ≠ p → H b = some o → H2 b = some o) (b2 : BagAt H2 p) : ∀ b, H b ≠ none → H2 b ≠ none := fun b hb => by
  cases e : H b with
  | none => exact absurd e hb
  | some o =>
    by_cases eb : b = p
    · rw [eb]
      obtain ⟨x, y, e2⟩ := b2
      rw [e2]
      exact fun z => nomatch z
    · rw [k b o eb e]
      exact fun z => nomatch z
theorem bag_in {H : Hp} {p : Addr} (b : BagAt H p) : H p ≠ none := by
  obtain ⟨x, y, e⟩ := b
  rw [e]
  exact fun z => nomatch z
theorem bag_same {H H' : Hp} {p : Addr} (b : BagAt H p) (s : Same H H') : BagAt H' p := let ⟨x, y, e⟩ := b; ⟨x, y, s _ _ e⟩
/-- a list of data at m, the bag at p: one more made behind -/
theorem grow {K : PySem.W.Frag} {H H2 H3 : Hp} {p m : Addr} {ws : List V} {ds : List PyData} {v : V} {d : PyData} (pH : H p ≠ none) (nmH : H m = none) (k2 : ∀ b o, b ≠ p → H b = some o → H2 b = some o) (b2 : BagAt H2 p) (hm2 : H2 m = some (.lst ws))
    (hws : DpAll K (newB H m H2) ws ds) (k3 : ∀ b o, b ≠ p → H2 b = some o → H3 b = some o) (b3 : BagAt H3 p) (hv : Dp K (newp H2 H3) v d) :
    (∀ b o, b ≠ p → H b = some o → (upd H3 m (.lst (ws ++ [v]))) b = some o) ∧ BagAt (upd H3 m (.lst (ws ++ [v]))) p ∧ H3 m = some (.lst ws) ∧ DpAll K (newB H m (upd H3 m (.lst (ws ++ [v])))) (ws ++ [v]) (ds ++ [d]) := by
  have mp : m ≠ p := fun e => pH (e ▸ nmH)
  have all2 := there k2 b2
  have old : Same (newB H m H2) (newB H m (upd H3 m (.lst (ws ++ [v])))) := fun b o e => by
    by_cases bm : b = m
    · unfold newB at e
      rw [if_pos bm] at e
      cases e
    · cases hh : H b with
      | some u =>
        unfold newB at e
        rw [if_neg bm, hh] at e
        cases e
      | none =>
        have bp : b ≠ p := fun z => pH (z ▸ hh)
        rw [newB_at hh bm] at e ⊢
        rw [upd_ne bm]
        exact k3 b o bp e
  have new : Same (newp H2 H3) (newB H m (upd H3 m (.lst (ws ++ [v])))) := fun b o e => by
    cases h2 : H2 b with
    | some u =>
      rw [newp_old h2] at e
      cases e
    | none =>
      rw [newp_at h2] at e
      have hh : H b = none := Classical.byContradiction fun z => all2 b z h2
      have bm : b ≠ m := fun z => by
        rw [z, hm2] at h2
        cases h2
      rw [newB_at hh bm, upd_ne bm]
      exact e
  refine ⟨fun b o hb e => ?_, ?_, k3 m _ mp hm2, DpAll.append (dpAll_same old _ _ hws) (.cons (dp_same new _ _ hv) .nil)⟩
  · rw [upd_ne (ne_of_none e nmH)]
    exact k3 b o hb (k2 b o hb e)
  · obtain ⟨x, y, e⟩ := b3
    exact ⟨x, y, by rw [upd_ne mp.symm]; exact e⟩
section
variable {P : Program} {w : World} {K : PySem.W.Frag} {mg : Str → Option Value} {base : Heap}
theorem ok_values {f fT fX fS : Addr} {fd dT dX dS : FuncData} (F : Fun K "_law_value" "_law_value" sValue f fd) (b : Binds K fd ["_law_bag_here", "_law_deep", "_law_room"] []) (g : mg "_law_value" = some (.ref f)) (Y : Nv mg) (C : Vc P w K mg base fT fX fS dT dX dS) :
    ∀ N : Nat, FnOk P w K mg base CX0 (N + 3) f fd ["_law_bag_here", "_law_deep", "_law_room"] (spValue K N)
  | 0 => ok_value F b g Y C 0 fun j => absurd j.2 (by omega)
  | N + 1 => ok_value F b g Y C (N + 1) fun ⟨M, e⟩ => by
    have e2 : M = N := by omega
    subst e2
    exact ok_values F b g Y C M
/-! ### _law_great -/
def spGreat (K : PySem.W.Frag) : Sp := fun vs H Q _ => ∃ (p : Addr), vs = [.ref p] ∧ BagAt H p ∧
  ∀ (H' : Hp) (v : V) (d : PyData), (∀ b o, b ≠ p → H b = some o → H' b = some o) → BagAt H' p → Dp K (newp H H') v d → valD d → d.depth ≤ 13 → sz d ≤ 500 → Q v H'
theorem scGreat : FnScope ["_law_bag_here", "_law_pick", "_law_word", "_law_turn", "_law_small", "_law_made", "_law_k"] ["_law_bag_here"] (defScope sGreat) := ⟨rfl, rfl, rfl, by decide +kernel, rfl, by decide +kernel, by decide +kernel⟩
theorem ok_great {f fT fX fS fV : Addr} {fd dT dX dS dV : FuncData} (F : Fun K "_law_great" "_law_great" sGreat f fd) (Y : Nv mg) (C : Vc P w K mg base fT fX fS dT dX dS) (GV : FnOk P w K mg base CX0 7 fV dV ["_law_bag_here", "_law_deep", "_law_room"] (spValue K 4)) (gV : mg "_law_value" = some (.ref fV))
    (kV : PySem.W.keepIn K (.ref fV) = true) (bV : Binds K dV ["_law_bag_here", "_law_deep", "_law_room"] []) : FnOk P w K mg base CX0 8 f fd ["_law_bag_here"] (spGreat K) := by
  refine F.ok scGreat (fun vs H Q E h => ?_) (fun cdv A outer s H vs Q E hr h => ?_)
  · obtain ⟨p, rfl, _⟩ := h
    rfl
  · obtain ⟨p, rfl, bag, q⟩ := h
    have hr1 : Room 1 _ := hr.mono (by decide)
    have hr2 : Room 2 _ := hr.mono (by decide)
    refine ⟨_, pss_cons (ps_set (i := 1) scGreat.nd rfl (.inl rfl) (pe_call C.GT hr1 (by rfl) C.gT C.kT C.bT .nil pass0 (pa_cons (pv 0) (pa_cons pe_int pa_nil))))
      (pss_cons (ps_if (pt_cmpR op_gt (pv 1) pe_int (nomark _)) (pss_one (ps_ret (pe_call GV hr (by rfl) gV kV bV .nil pass0 (pa_cons (pv 0) (pa_cons pe_int (pa_cons pe_int pa_nil)))))) pss_nil)
      (pss_cons (ps_if (pt_cmpR op_eq (pv 1) pe_int (nomark _))
        (pss_cons (ps_set (i := 2) scGreat.nd rfl (.inl rfl) (pe_op op_add_str pe_str (pe_call C.GX hr2 (by rfl) C.gX C.kX C.bX .nil pass0 (pa_cons (pv 0) (pa_cons pe_int pa_nil)))))
        (pss_one (ps_ret (pe_slice sl_str (pe_op op_mulS (pv 2) pe_int) po_none (po_some (pe_call C.GT hr1 (by rfl) C.gT C.kT C.bT .nil pass0 (pa_cons (pv 0) (pa_cons pe_int pa_nil)))))))) pss_nil)
      (pss_cons (ps_if (pt_cmpR op_eq (pv 1) pe_int (nomark _))
        (pss_cons (ps_setLc (i := 4) (own := [("_law_turn", 3)]) (g := gName 3) (tt := tYes) (te := tCall (spValue K 4) [] E0 (tCons (tVar 0) (tCons (tC (.int 1)) (tCons (tC (.int 2)) tNil)))) rfl scGreat.nd rfl rfl (sw_true rfl rfl rfl (by decide +kernel))
            (pi_range1 (by rfl) Y.range (pa_cons (pe_op op_add pe_int (pe_call C.GT hr1 (by rfl) C.gT C.kT C.bT .nil pass0 (pa_cons (pv 0) (pa_cons pe_int pa_nil)))) pa_nil))
            (blkOk_by (N := ["_law_bag_here", "_law_pick", "_law_word", "_law_turn", "_law_small", "_law_made", "_law_k"]) (sc := defScope sGreat) (by decide +kernel)) (fun _ _ _ _ _ => pg_name (i := 3) scGreat.nd rfl (Or.inl rfl)) (fun _ _ _ _ _ => pts_nil)
            (fun _ _ _ _ _ => pe_call GV hr (by rfl) gV kV bV .nil pass0 (pa_cons (pv 0) (pa_cons pe_int (pa_cons pe_int pa_nil)))))
        (pss_one (ps_ret (pe_slice sl_list (pe_op op_rep (pv 4) pe_int) po_none (po_some (pe_call C.GT hr1 (by rfl) C.gT C.kT C.bT .nil pass0 (pa_cons (pv 0) (pa_cons pe_int pa_nil)))))))) pss_nil)
      (pss_cons (ps_set (i := 5) scGreat.nd rfl (.inl rfl) (pe_call GV hr (by rfl) gV kV bV .nil pass0 (pa_cons (pv 0) (pa_cons pe_int (pa_cons pe_int pa_nil)))))
      (pss_cons (ps_for PassesOwn.never rfl (pi_range1 (by rfl) Y.range (pa_cons (pe_call C.GT hr1 (by rfl) C.gT C.kT C.bT .nil pass0 (pa_cons (pv 0) (pa_cons pe_int pa_nil))) pa_nil)) (pg_name (i := 3) scGreat.nd rfl (.inl rfl))
        (pss_cons (ps_setLc (i := 4) (own := [("_law_k", 6)]) (g := gName 6) (tt := tYes) (te := tCall (spValue K 4) [] E0 (tCons (tVar 0) (tCons (tC (.int 1)) (tCons (tC (.int 3)) tNil)))) rfl scGreat.nd rfl rfl (sw_true rfl rfl rfl (by decide +kernel))
            (pi_range1 (by rfl) Y.range (pa_cons (pe_call C.GT hr1 (by rfl) C.gT C.kT C.bT .nil pass0 (pa_cons (pv 0) (pa_cons pe_int pa_nil))) pa_nil))
            (blkOk_by (N := ["_law_bag_here", "_law_pick", "_law_word", "_law_turn", "_law_small", "_law_made", "_law_k"]) (sc := defScope sGreat) (by decide +kernel)) (fun _ _ _ _ _ => pg_name (i := 6) scGreat.nd rfl (Or.inl rfl)) (fun _ _ _ _ _ => pts_nil)
            (fun _ _ _ _ _ => pe_call GV hr (by rfl) gV kV bV .nil pass0 (pa_cons (pv 0) (pa_cons pe_int (pa_cons pe_int pa_nil)))))
        (pss_one (ps_set (i := 5) scGreat.nd rfl (.inl rfl) (pe_ifExp (pt_cmpR op_eq (pe_call C.GT hr1 (by rfl) C.gT C.kT C.bT .nil pass0 (pa_cons (pv 0) (pa_cons pe_int pa_nil))) pe_int (nomark _)) (pe_op op_cat (pv 4) (pe_lst (pa_cons (pv 5) pa_nil))) (pe_op op_cat (pe_lst (pa_cons (pv 5) pa_nil)) (pv 4)))))))
      (pss_one (ps_ret (pv 5)))))))), ?_⟩
    refine ⟨_, rfl, p, 6, rfl, bag, by decide, by decide, fun x1 y1 k hk0 hk1 => ?_⟩
    have pH := bag_in bag
    have kp : ∀ b o, b ≠ p → H b = some o → upd H p (.lst [.int x1, .int y1]) b = some o := fun b o hb e => by
      rw [upd_ne hb]
      exact e
    have bag1 : BagAt (upd H p (.lst [.int x1, .int y1])) p := ⟨_, _, upd_same⟩
    generalize upd H p (.lst [.int x1, .int y1]) = G1 at kp bag1
    -- a value
    refine ⟨_, rfl, _, _, rfl, rfl, _, rfl, ?_⟩
    by_cases e3 : (2 : Int) < k
    · refine ltT e3 ?_
      exact ⟨_, rfl, p, 4, 60, rfl, bag1, by decide, by decide, by decide, fun H' v d k2 b2 hv vd dd ds => q H' v d (fun b o hb e => k2 b o hb (kp b o hb e)) b2 (dp_same (newp_sub (there kp bag1)) _ _ hv) vd (by omega) (by omega)⟩
    refine ltF e3 ?_
    -- a long text
    refine ⟨_, rfl, rfl, _, rfl, ?_⟩
    by_cases e2 : k = 2
    · refine eqT e2 ?_
      refine ⟨_, rfl, p, 5, rfl, bag1, by decide, by decide, fun H' z k2 b2 lz hz => ⟨_, _, rfl, rfl, qfit hz, ?_⟩⟩
      have lq : Lt "q" := by unfold Lt; decide +kernel
      have eq1 : (("q" : Str)).length = 1 := by decide +kernel
      have lw : Lt ("q" ++ z) := lt_append lq lz
      have ll : (("q" : Str) ++ z).length ≤ 6 := by
        rw [strLen_append]
        omega
      obtain ⟨lm, le⟩ := mul_lt (n := 399) lw
      refine ⟨_, rfl, _, 399, rfl, rfl, by decide, by omega, ?_⟩
      refine ⟨_, rfl, p, 400, rfl, b2, by decide, by decide, fun x2 y2 c hc0 hc1 => ?_⟩
      obtain ⟨j, rfl⟩ : ∃ j : Nat, c = j := ⟨c.toNat, by omega⟩
      have lj : (cutS (Txt.mul ("q" ++ z) ((399 : Nat) : Int)) none (some (j : Int))).length ≤ j := len_cut
      refine ⟨_, rfl, _, rfl, Nat.le_trans (Nat.le_trans le (show 399 * (("q" : Str) ++ z).length + (("q" : Str) ++ z).length ≤ 10000 by omega)) (by decide), ?_⟩
      refine q _ _ (.str _) (fun b o hb e => ?_) ⟨_, _, upd_same⟩ (.str _) (lt_cut lm) (by simp [PyData.depth]) ?_
      · rw [upd_ne hb]
        exact k2 b o hb (kp b o hb e)
      · simp only [sz]
        omega
    refine eqF e2 ?_
    -- a wide list
    refine ⟨_, rfl, rfl, _, rfl, ?_⟩
    by_cases e1 : k = 1
    · refine eqT e1 ?_
      refine ⟨_, rfl, p, 3, rfl, bag1, by decide, by decide, fun x2 y2 c hc0 hc1 => ⟨_, _, rfl, rfl, ?_⟩⟩
      have kp2 : ∀ b o, b ≠ p → H b = some o → upd G1 p (.lst [.int x2, .int y2]) b = some o := fun b o hb e => by
        rw [upd_ne hb]
        exact kp b o hb e
      have bag2 : BagAt (upd G1 p (.lst [.int x2, .int y2])) p := ⟨_, _, upd_same⟩
      generalize upd G1 p (.lst [.int x2, .int y2]) = G2 at kp2 bag2
      refine ⟨1 + c, rfl, by omega, by omega, fun D nD => lc_range (lo := 0) (n := (1 + c).toNat) (fun i H' => ∃ ws ds, H' D = some (.lst ws) ∧ ws.length = i ∧ DpAll K (newB H D H') ws ds ∧ valAll ds ∧ PyData.depthAll ds ≤ 1 ∧ EachLe 2 ds ∧ (∀ b o, b ≠ p → H b = some o → H' b = some o) ∧ BagAt H' p) ?_ ?_ ?_⟩
      · exact ⟨[], [], upd_same, rfl, .nil, trivial, by simp [PyData.depthAll], each_nil, fun b o hb e => same_upd nD _ _ (kp2 b o hb e), bag_same bag2 (same_upd nD)⟩
      · rintro i H' hi ⟨ws, ds, hD, wl, hws, hvs, hdp, hea, kk, bb⟩
        have nDH : H D = none := Classical.byContradiction fun z => there kp2 bag2 D z nD
        refine ⟨rfl, _, rfl, p, 1, 2, rfl, bb, by decide, by decide, by decide, fun H3 v d k3 b3 hv vd dd ds3 => ?_⟩
        obtain ⟨g1, g2, g3, g4⟩ := grow pH nDH kk bb hD hws k3 b3 hv
        refine ⟨ws, g3, Nat.lt_of_le_of_lt (show ws.length ≤ 100 by omega) (by decide), ws ++ [v], ds ++ [d], upd_same, by simp [wl], g4, (valAll_append _ _).mpr ⟨hvs, vd, trivial⟩, ?_, ?_, g1, g2⟩
        · rw [depthAll_append]
          simp only [PyData.depthAll]
          omega
        · intro x hx
          rcases List.mem_append.mp hx with h | h
          · exact hea x h
          · have e : x = d := by simpa using h
            rw [e]
            exact ds3
      · rintro H' ⟨ws, ds, hD, wl, hws, hvs, hdp, hea, kk, bb⟩
        have nDH : H D = none := Classical.byContradiction fun z => there kp2 bag2 D z nD
        have dl := DpAll.length hws
        refine ⟨_, rfl, D, 199, ws, rfl, rfl, hD, by decide, by decide, Nat.le_trans (show ws.length * 199 ≤ 1000 by omega) (by decide), fun r nr => ?_⟩
        have b4 : BagAt (upd H' r (.lst (List.replicate (199 : Int).toNat ws).flatten)) p := bag_same bb (same_upd nr)
        refine ⟨_, rfl, p, 200, rfl, b4, by decide, by decide, fun x3 y3 c2 hc2 hc3 => ?_⟩
        obtain ⟨j, rfl⟩ : ∃ j : Nat, c2 = j := ⟨c2.toNat, by omega⟩
        have rp : r ≠ p := fun e => by
          obtain ⟨x, y, e4⟩ := bb
          rw [e, e4] at nr
          cases nr
        refine ⟨_, rfl, r, _, rfl, SqL.of (by rw [upd_ne rp, upd_same]), fun s2 ns2 => ?_⟩
        have cv : cutV (List.replicate (199 : Int).toNat ws).flatten none (some (j : Int)) = ((List.replicate 199 ws).flatten).take j := by
          unfold cutV
          rw [HT.sIx_none, HT.sIx_nat, List.drop_zero, Nat.sub_zero]
          show List.take (min j (List.replicate 199 ws).flatten.length) (List.replicate 199 ws).flatten = _
          rw [← List.take_eq_take_min]
        rw [cv]
        have s2p : s2 ≠ p := fun e => by
          rw [e, upd_same] at ns2
          cases ns2
        have nH : H s2 = none := Classical.byContradiction fun z => by
          have h1 := there kk bb s2 z
          rw [upd_ne s2p] at ns2
          by_cases sr : s2 = r
          · rw [sr, upd_same] at ns2
            cases ns2
          · rw [upd_ne sr] at ns2
            exact h1 ns2
        have up : Same (newB H D H') (newp H (upd (upd (upd H' r (.lst (List.replicate (199 : Int).toNat ws).flatten)) p (.lst [.int x3, .int y3])) s2 (.lst (((List.replicate 199 ws).flatten).take j)))) := fun b o e => by
          have e5 := newB_newp b o e
          cases hh : H b with
          | some u =>
            rw [newp_old hh] at e5
            cases e5
          | none =>
            rw [newp_at hh] at e5 ⊢
            have bp : b ≠ p := fun z => pH (z ▸ hh)
            have br : b ≠ r := ne_of_none e5 nr
            have bs : b ≠ s2 := fun z => by
              rw [← z, upd_ne bp, upd_ne br, e5] at ns2
              cases ns2
            rw [upd_ne bs, upd_ne bp, upd_ne br]
            exact e5
        refine q _ (.ref s2) (.list (((List.replicate 199 ds).flatten).take j)) (fun b o hb e => ?_) ?_ (.lst (SqL.of ?_) (dpAll_same up _ _ (DpAll.take j (DpAll.rep hws 199)))) (val_take j (val_rep hvs 199)) ?_ ?_
        · have e6 := kk b o hb e
          rw [upd_ne (ne_of_none e nH), upd_ne hb, upd_ne (ne_of_none e6 nr)]
          exact e6
        · exact ⟨x3, y3, by rw [upd_ne s2p.symm, upd_same]⟩
        · rw [newp_at nH, upd_same]
        · have h1 := depth_take (ds := (List.replicate 199 ds).flatten) j
          have h2 := depth_rep (ds := ds) 199
          simp only [PyData.depth]
          omega
        · have h1 : EachLe 2 (((List.replicate 199 ds).flatten).take j) := fun x hx => by
            obtain ⟨l, hl, hx2⟩ := List.mem_flatten.mp (List.mem_of_mem_take hx)
            have e := (List.mem_replicate.mp hl).2
            rw [e] at hx2
            exact hea x hx2
          have h2 := each_sum h1
          have h3 : (((List.replicate 199 ds).flatten).take j).length ≤ j := by
            rw [List.length_take]
            omega
          simp only [sz]
          omega
    refine eqF e1 ?_
    -- a deep one
    refine ⟨_, rfl, p, 3, 20, rfl, bag1, by decide, by decide, by decide, fun G2 made d0 k2 b2 hv0 vd0 dd0 sz0 => ?_⟩
    have kp2 : ∀ b o, b ≠ p → H b = some o → G2 b = some o := fun b o hb e => k2 b o hb (kp b o hb e)
    have hv0' : Dp K (newp H G2) made d0 := dp_same (newp_sub (there kp bag1)) _ _ hv0
    refine ⟨_, rfl, p, 10, rfl, b2, by decide, by decide, fun x2 y2 c hc0 hc1 => ?_⟩
    refine ⟨c, rfl, by omega, by omega, for_range (lo := 0) (n := c.toNat) (fun i σ H2 => ∃ (v : V) (d : PyData) (y3 y4 : Option V), σ = [some (.ref p), some (.int k), none, y3, y4, some v, none] ∧ (∀ b o, b ≠ p → H b = some o → H2 b = some o) ∧ BagAt H2 p ∧
      Dp K (newp H H2) v d ∧ valD d ∧ d.depth ≤ 3 + i ∧ sz d ≤ 20 + 10 * i) ?_ ?_ ?_⟩
    · refine ⟨made, d0, none, none, rfl, fun b o hb e => ?_, ⟨_, _, upd_same⟩, dp_same (newp_mono pH fun b o hb e => ?_) _ _ hv0', vd0, by omega, by omega⟩
      · rw [upd_ne hb]
        exact kp2 b o hb e
      · rw [upd_ne hb]
        exact e
    · rintro i σ H2 hi ⟨v, d, y3, y4, rfl, kk, bb, hv, vd, dd, sd⟩
      -- small
      refine ⟨_, rfl, p, 2, rfl, bb, by decide, by decide, fun x3 y3 c2 hc2 hc3 => ?_⟩
      have kk2 : ∀ b o, b ≠ p → H b = some o → upd H2 p (.lst [.int x3, .int y3]) b = some o := fun b o hb e => by
        rw [upd_ne hb]
        exact kk b o hb e
      have bb2 : BagAt (upd H2 p (.lst [.int x3, .int y3])) p := ⟨_, _, upd_same⟩
      have hv2 : Dp K (newp H (upd H2 p (.lst [.int x3, .int y3]))) v d := dp_same (newp_mono pH fun b o hb e => by rw [upd_ne hb]; exact e) _ _ hv
      generalize upd H2 p (.lst [.int x3, .int y3]) = H3 at kk2 bb2 hv2
      refine ⟨c2, rfl, by omega, by omega, fun D nD => lc_range (lo := 0) (n := c2.toNat) (fun j H' => ∃ ws ds, H' D = some (.lst ws) ∧ ws.length = j ∧ DpAll K (newB H D H') ws ds ∧ valAll ds ∧ PyData.depthAll ds ≤ 1 ∧ EachLe 3 ds ∧ (∀ b o, b ≠ p → H b = some o → H' b = some o) ∧ BagAt H' p ∧ Dp K (newB H D H') v d) ?_ ?_ ?_⟩
      · have nDH : H D = none := Classical.byContradiction fun z => there kk2 bb2 D z nD
        refine ⟨[], [], upd_same, rfl, .nil, trivial, by simp [PyData.depthAll], each_nil, fun b o hb e => same_upd nD _ _ (kk2 b o hb e), bag_same bb2 (same_upd nD), dp_same (fun b o e => ?_) _ _ hv2⟩
        cases hh : H b with
        | some u =>
          rw [newp_old hh] at e
          cases e
        | none =>
          rw [newp_at hh] at e
          have bD : b ≠ D := ne_of_none e nD
          rw [newB_at hh bD, upd_ne bD]
          exact e
      · rintro j H' hj ⟨ws, ds, hD, wl, hws, hvs, hdp, hea, k4, b4, hvB⟩
        have nDH : H D = none := Classical.byContradiction fun z => there kk2 bb2 D z nD
        refine ⟨rfl, _, rfl, p, 1, 3, rfl, b4, by decide, by decide, by decide, fun H5 u e k5 b5 hu vu du su => ?_⟩
        obtain ⟨g1, g2, g3, g4⟩ := grow pH nDH k4 b4 hD hws k5 b5 hu
        refine ⟨ws, g3, Nat.lt_of_le_of_lt (show ws.length ≤ 100 by omega) (by decide), ws ++ [u], ds ++ [e], upd_same, by simp [wl], g4, (valAll_append _ _).mpr ⟨hvs, vu, trivial⟩, ?_, ?_, g1, g2, dp_same (fun b o eb => ?_) _ _ hvB⟩
        · rw [depthAll_append]
          simp only [PyData.depthAll]
          omega
        · intro x hx
          rcases List.mem_append.mp hx with h | h
          · exact hea x h
          · have e : x = e := by simpa using h
            rw [e]
            exact su
        · by_cases bD : b = D
          · unfold newB at eb
            rw [if_pos bD] at eb
            cases eb
          · cases hh : H b with
            | some u =>
              unfold newB at eb
              rw [if_neg bD, hh] at eb
              cases eb
            | none =>
              have bp : b ≠ p := fun z => pH (z ▸ hh)
              rw [newB_at hh bD] at eb ⊢
              rw [upd_ne bD]
              exact k5 b o bp eb
      · rintro H' ⟨ws, ds, hD, wl, hws, hvs, hdp, hea, k4, b4, hvB⟩
        have nDH : H D = none := Classical.byContradiction fun z => there kk2 bb2 D z nD
        have dl := DpAll.length hws
        have es := each_sum hea
        have wl1 : ws.length ≤ 1 := by omega
        -- made = ..
        refine ⟨_, rfl, p, 2, rfl, b4, by decide, by decide, fun x4 y4 c4 hc4 hc5 => ?_⟩
        have Dp_ : D ≠ p := fun e => pH (e ▸ nDH)
        have k6 : ∀ b o, b ≠ p → H b = some o → upd H' p (.lst [.int x4, .int y4]) b = some o := fun b o hb e => by
          rw [upd_ne hb]
          exact k4 b o hb e
        have b6 : BagAt (upd H' p (.lst [.int x4, .int y4])) p := ⟨_, _, upd_same⟩
        have hD6 : (upd H' p (.lst [.int x4, .int y4])) D = some (.lst ws) := by
          rw [upd_ne Dp_]
          exact hD
        have to6 : Same (newB H D H') (newp H (upd H' p (.lst [.int x4, .int y4]))) := fun b o e => newp_mono (H2 := H') pH (fun b o hb e => by rw [upd_ne hb]; exact e) b o (newB_newp b o e)
        generalize upd H' p (.lst [.int x4, .int y4]) = H6 at k6 b6 hD6 to6
        have hv6 := dp_same to6 _ _ hvB
        have hw6 := dpAll_same to6 _ _ hws
        have in6 : Same (newp H H6) H6 := newp_same
        -- one list more, and the two together
        have fin : ∀ (l r : Addr) (us : List V) (es2 : List PyData), H6 l = none → (upd H6 l (.lst [v])) r = none → DpAll K (newp H H6) us es2 → valAll es2 → PyData.depthAll es2 ≤ 3 + i → szAll es2 ≤ 20 + 10 * i + 3 →
            ∃ (v' : V) (d' : PyData) (y3 y4 : Option V), [some (V.ref p), some (V.int k), none, some (V.int (0 + (i : Int))), some (V.ref D), some (V.ref r), none] = [some (V.ref p), some (V.int k), none, y3, y4, some v', none] ∧ (∀ b o, b ≠ p → H b = some o → (upd (upd H6 l (.lst [v])) r (.lst us)) b = some o) ∧ BagAt (upd (upd H6 l (.lst [v])) r (.lst us)) p ∧
              Dp K (newp H (upd (upd H6 l (.lst [v])) r (.lst us))) v' d' ∧ valD d' ∧ d'.depth ≤ 3 + (i + 1) ∧ sz d' ≤ 20 + 10 * (i + 1) := by
          intro l r us es2 nl nr hus hvs2 hdp2 hsz2
          have s8 : Same H6 (upd (upd H6 l (.lst [v])) r (.lst us)) := (same_upd nl).trans (same_upd nr)
          have nrH : H r = none := Classical.byContradiction fun z => by
            have h1 := there k6 b6 r z
            by_cases rl : r = l
            · rw [rl, upd_same] at nr
              cases nr
            · rw [upd_ne rl] at nr
              exact h1 nr
          refine ⟨.ref r, .list es2, _, _, rfl, fun b o hb e => s8 _ _ (k6 b o hb e), bag_same b6 s8, .lst (SqL.of ?_) (dpAll_same (newp_mono pH fun b o _ e => s8 b o e) _ _ hus), hvs2, ?_, ?_⟩
          · rw [newp_at nrH, upd_same]
          · simp only [PyData.depth]
            omega
          · simp only [sz]
            omega
        refine ⟨rfl, _, rfl, ?_⟩
        have sB : szAll (ds ++ [d]) ≤ 20 + 10 * i + 3 ∧ szAll ([d] ++ ds) ≤ 20 + 10 * i + 3 := by
          rw [szAll_append, szAll_append]
          simp only [szAll]
          omega
        have dB : PyData.depthAll (ds ++ [d]) ≤ 3 + i ∧ PyData.depthAll ([d] ++ ds) ≤ 3 + i := by
          rw [depthAll_append, depthAll_append]
          simp only [PyData.depthAll]
          omega
        by_cases e4 : c4 = 0
        · refine eqT e4 ?_
          refine ⟨_, rfl, _, rfl, (by show 1 ≤ sizeLine; decide), fun l nl => ⟨D, l, ws, [v], rfl, rfl, same_upd nl _ _ hD6, upd_same, Nat.le_trans (show ws.length + 1 ≤ 2 by omega) (by decide), fun r nr => ?_⟩⟩
          exact fin l r (ws ++ [v]) (ds ++ [d]) nl nr (DpAll.append hw6 (.cons hv6 .nil)) ((valAll_append _ _).mpr ⟨hvs, vd, trivial⟩) dB.1 sB.1
        · refine eqF e4 ?_
          refine ⟨_, rfl, (by show 1 ≤ sizeLine; decide), fun l nl => ⟨_, rfl, l, D, [v], ws, rfl, rfl, upd_same, same_upd nl _ _ hD6, Nat.le_trans (show 1 + ws.length ≤ 2 by omega) (by decide), fun r nr => ?_⟩⟩
          exact fin l r ([v] ++ ws) ([d] ++ ds) nl nr (DpAll.append (.cons hv6 .nil) hw6) ((valAll_append _ _).mpr ⟨⟨vd, trivial⟩, hvs⟩) dB.2 sB.2
    · rintro σ H2 ⟨v, d, y3, y4, rfl, kk, bb, hv, vd, dd, sd⟩
      exact ⟨_, rfl, q H2 v d kk bb hv vd (by omega) (by omega)⟩
end
end TX
namespace TX
open PySem PySem.Spec PyProof.Rows L2
/-! ### what can be shown -/
mutual
def okD : PyData → Prop
  | .int i => i.natAbs.log2 < 1920
  | .str x => ∀ c ∈ x.cps.toList, c < 16 ^ 8
  | .list es => okAll es
  | .tuple es => okAll es
  | .dict _ => False
  | _ => True
def okAll : List PyData → Prop
  | [] => True
  | d :: ds => okD d ∧ okAll ds
end
theorem okAll_append : ∀ (a b : List PyData), okAll (a ++ b) ↔ okAll a ∧ okAll b
  | [], b => by simp [okAll]
  | d :: a, b => by
    have := okAll_append a b
    simp only [List.cons_append, okAll, this, and_assoc]
mutual
theorem okD_shown : ∀ d : PyData, okD d → d.showable = true ∧ d.hasDict = false ∧ d.leavesShort 1921 = true
  | .none, _ => ⟨rfl, rfl, rfl⟩
  | .bool _, _ => ⟨rfl, rfl, rfl⟩
  | .int i, h => by
    have l1 : i.natAbs.log2 < 1920 := h
    refine ⟨by simp only [PyData.showable, decide_eq_true l1], rfl, ?_⟩
    simp only [PyData.leavesShort, decide_eq_true_eq]
    simp only [PyData.shown]
    exact int_text_len_1921 l1
  | .str x, h => by
    refine ⟨rfl, rfl, ?_⟩
    simp only [PyData.leavesShort, List.all_eq_true, decide_eq_true_eq]
    exact h
  | .list es, h => by
    obtain ⟨h1, h2, h3⟩ := okAll_shown es h
    exact ⟨by simpa [PyData.showable] using h1, by simpa [PyData.hasDict] using h2, by simpa [PyData.leavesShort] using h3⟩
  | .tuple es, h => by
    obtain ⟨h1, h2, h3⟩ := okAll_shown es h
    exact ⟨by simpa [PyData.showable] using h1, by simpa [PyData.hasDict] using h2, by simpa [PyData.leavesShort] using h3⟩
  | .dict _, h => h.elim
theorem okAll_shown : ∀ ds : List PyData, okAll ds → PyData.showableAll ds = true ∧ PyData.hasDictAll ds = false ∧ PyData.leavesShortAll 1921 ds = true
  | [], _ => ⟨rfl, rfl, rfl⟩
  | d :: ds, h => by
    obtain ⟨a1, a2, a3⟩ := okD_shown d h.1
    obtain ⟨b1, b2, b3⟩ := okAll_shown ds h.2
    exact ⟨by simp [PyData.showableAll, a1, b1], by simp [PyData.hasDictAll, a2, b2], by simp [PyData.leavesShortAll, a3, b3]⟩
end
mutual
theorem val_okD : ∀ d : PyData, valD d → okD d
  | .none, _ => trivial
  | .str x, h => fun c hc => Nat.lt_of_le_of_lt (h c hc).2 (by decide)
  | .list es, h => val_okAll es h
  | .bool _, h => h.elim
  | .int _, h => h.elim
  | .tuple _, h => h.elim
  | .dict _, h => h.elim
theorem val_okAll : ∀ ds : List PyData, valAll ds → okAll ds
  | [], _ => trivial
  | d :: ds, h => ⟨val_okD d h.1, val_okAll ds h.2⟩
end
mutual
theorem val_bulk : ∀ d : PyData, valD d → d.bulk + 1 ≤ sz d
  | .none, _ => by simp [PyData.bulk, sz]
  | .str x, h => by
    have e : x.length = x.cps.size := rfl
    simp only [PyData.bulk, sz]
    omega
  | .list es, h => by
    have := val_bulkAll es h
    simp only [PyData.bulk, sz]
    omega
  | .bool _, h => h.elim
  | .int _, h => h.elim
  | .tuple _, h => h.elim
  | .dict _, h => h.elim
theorem val_bulkAll : ∀ ds : List PyData, valAll ds → PyData.bulkAll ds ≤ szAll ds
  | [], _ => by simp [PyData.bulkAll]
  | d :: ds, h => by
    have a := val_bulk d h.1
    have b := val_bulkAll ds h.2
    simp only [PyData.bulkAll, szAll]
    omega
end
theorem ok_fit {d : PyData} (h : okD d) (hb : d.bulk ≤ 8000) : d.shown.length ≤ sizeLine := by
  obtain ⟨_, _, h3⟩ := okD_shown d h
  have e1 := PyData.shown_le_bulk 1921 (by decide) d h3
  have e2 : (1921 + 2) * d.bulk ≤ 1923 * 8000 := Nat.mul_le_mul_left _ hb
  exact Nat.le_trans e1 (Nat.le_trans (Nat.add_le_add_right e2 _) (by decide))
/-- what `repr` asks of data -/
structure Sh (d : PyData) : Prop where
  s : d.showable = true
  n : d.hasDict = false
  z : d.depth ≤ 60
  l : d.shown.length ≤ sizeLine
theorem sh_of {d : PyData} (h : okD d) (hb : d.bulk ≤ 8000) (hz : d.depth ≤ 60) : Sh d := ⟨(okD_shown d h).1, (okD_shown d h).2.1, hz, ok_fit h hb⟩
theorem log_small {i : Int} (h : i.natAbs ≤ 1000000) : i.natAbs.log2 < 1920 := by
  by_cases z : i.natAbs = 0
  · rw [z]
    decide
  · exact Nat.lt_trans ((Nat.log2_lt z).mpr (Nat.lt_of_le_of_lt h (by decide : 1000000 < 2 ^ 20))) (by decide)
theorem sh_val {d : PyData} (h : valD d) (hs : sz d ≤ 3000) (hd : d.depth ≤ 50) : Sh d := sh_of (val_okD d h) (by have := val_bulk d h; omega) (by omega)
theorem sh_bool (b : Bool) : Sh (.bool b) := sh_of trivial (by simp [PyData.bulk]) (by simp [PyData.depth])
mutual
theorem nd_sz : ∀ d : PyData, valD d → nd d ≤ sz d
  | .none, _ => by simp [nd, sz]
  | .str x, _ => by simp [nd, sz]
  | .list es, h => by
    have := ndAll_sz es h
    simp only [nd, sz]
    omega
  | .bool _, h => h.elim
  | .int _, h => h.elim
  | .tuple _, h => h.elim
  | .dict _, h => h.elim
theorem ndAll_sz : ∀ ds : List PyData, valAll ds → ndAll ds ≤ szAll ds
  | [], _ => by simp [ndAll]
  | d :: ds, h => by
    have a := nd_sz d h.1
    have b := ndAll_sz ds h.2
    simp only [ndAll, szAll]
    omega
end
end TX
namespace TX
open PySem PySem.Spec PyProof.Rows L2
/-! ### data whose lists stand each at a place of its own: S, all of them -/
mutual
inductive Tr (H : Hp) : V → PyData → List Addr → Prop
  | non : Tr H .non .none []
  | bl (b : Bool) : Tr H (.bl b) (.bool b) []
  | int (i : Int) : Tr H (.int i) (.int i) []
  | str (x : Str) : Tr H (.str x) (.str x) []
  | lst {a : Addr} {xs : List V} {es : List PyData} {S : List Addr} : H a = some (.lst xs) → TrAll H xs es S → a ∉ S → Tr H (.ref a) (.list es) (a :: S)
  | tup {a : Addr} {xs : List V} {es : List PyData} {S : List Addr} : H a = some (.tup xs) → TrAll H xs es S → a ∉ S → Tr H (.ref a) (.tuple es) (a :: S)
inductive TrAll (H : Hp) : List V → List PyData → List Addr → Prop
  | nil : TrAll H [] [] []
  | cons {v : V} {d : PyData} {S : List Addr} {vs : List V} {ds : List PyData} {T : List Addr} : Tr H v d S → TrAll H vs ds T → (∀ b ∈ S, b ∉ T) → TrAll H (v :: vs) (d :: ds) (S ++ T)
end
theorem TrAll.length {H : Hp} : ∀ {ds : List PyData} {vs : List V} {S : List Addr}, TrAll H vs ds S → vs.length = ds.length
  | [], _, _, h => by cases h; rfl
  | _ :: _, _, _, h => by
    cases h with
    | cons _ h2 _ => exact congrArg (· + 1) (TrAll.length h2)
mutual
theorem Tr.frame {H H' : Hp} : ∀ {d : PyData} {v : V} {S : List Addr}, Tr H v d S → (∀ b ∈ S, ∀ o, H b = some o → H' b = some o) → Tr H' v d S
  | .none, _, _, h, _ => by cases h; exact .non
  | .bool b, _, _, h, _ => by cases h; exact .bl b
  | .int i, _, _, h, _ => by cases h; exact .int i
  | .str x, _, _, h, _ => by cases h; exact .str x
  | .list es, _, _, h, k => by
    cases h with
    | lst h1 h2 h3 => exact .lst (k _ List.mem_cons_self _ h1) (TrAll.frame h2 fun b hb => k b (List.mem_cons_of_mem _ hb)) h3
  | .tuple es, _, _, h, k => by
    cases h with
    | tup h1 h2 h3 => exact .tup (k _ List.mem_cons_self _ h1) (TrAll.frame h2 fun b hb => k b (List.mem_cons_of_mem _ hb)) h3
  | .dict _, _, _, h, _ => nomatch h
theorem TrAll.frame {H H' : Hp} : ∀ {ds : List PyData} {vs : List V} {S : List Addr}, TrAll H vs ds S → (∀ b ∈ S, ∀ o, H b = some o → H' b = some o) → TrAll H' vs ds S
  | [], _, _, h, _ => by cases h; exact .nil
  | d :: ds, _, _, h, k => by
    cases h with
    | cons h1 h2 h3 => exact .cons (Tr.frame h1 fun b hb => k b (List.mem_append_left _ hb)) (TrAll.frame h2 fun b hb => k b (List.mem_append_right _ hb)) h3
end
mutual
theorem Tr.dp {K : PySem.W.Frag} {H : Hp} : ∀ {d : PyData} {v : V} {S : List Addr}, Tr H v d S → Dp K H v d
  | .none, _, _, h => by cases h; exact .non
  | .bool b, _, _, h => by cases h; exact .bl b
  | .int i, _, _, h => by cases h; exact .int i
  | .str x, _, _, h => by cases h; exact .str x
  | .list es, _, _, h => by
    cases h with
    | lst h1 h2 h3 => exact .lst (SqL.of h1) (TrAll.dp h2)
  | .tuple es, _, _, h => by
    cases h with
    | tup h1 h2 h3 => exact .tup (SqT.of h1) (TrAll.dp h2)
  | .dict _, _, _, h => nomatch h
theorem TrAll.dp {K : PySem.W.Frag} {H : Hp} : ∀ {ds : List PyData} {vs : List V} {S : List Addr}, TrAll H vs ds S → DpAll K H vs ds
  | [], _, _, h => by cases h; exact .nil
  | d :: ds, _, _, h => by
    cases h with
    | cons h1 h2 h3 => exact .cons (Tr.dp h1) (TrAll.dp h2)
end
mutual
theorem Tr.there {H : Hp} : ∀ {d : PyData} {v : V} {S : List Addr}, Tr H v d S → ∀ b ∈ S, H b ≠ none
  | .none, _, _, h => by cases h; exact fun b hb => nomatch hb
  | .bool b, _, _, h => by cases h; exact fun b hb => nomatch hb
  | .int i, _, _, h => by cases h; exact fun b hb => nomatch hb
  | .str x, _, _, h => by cases h; exact fun b hb => nomatch hb
  | .list es, _, _, h => by
    cases h with
    | lst h1 h2 h3 =>
      intro b hb
      rcases List.mem_cons.mp hb with e | e
      · rw [e, h1]
        exact fun z => nomatch z
      · exact TrAll.there h2 b e
  | .tuple es, _, _, h => by
    cases h with
    | tup h1 h2 h3 =>
      intro b hb
      rcases List.mem_cons.mp hb with e | e
      · rw [e, h1]
        exact fun z => nomatch z
      · exact TrAll.there h2 b e
  | .dict _, _, _, h => nomatch h
theorem TrAll.there {H : Hp} : ∀ {ds : List PyData} {vs : List V} {S : List Addr}, TrAll H vs ds S → ∀ b ∈ S, H b ≠ none
  | [], _, _, h => by cases h; exact fun b hb => nomatch hb
  | d :: ds, _, _, h => by
    cases h with
    | cons h1 h2 h3 =>
      intro b hb
      rcases List.mem_append.mp hb with e | e
      · exact Tr.there h1 b e
      · exact TrAll.there h2 b e
end
theorem TrAll.split {H : Hp} : ∀ {ds es : List PyData} {vs : List V} {S : List Addr}, TrAll H vs (ds ++ es) S → ∃ a b A B, vs = a ++ b ∧ S = A ++ B ∧ TrAll H a ds A ∧ TrAll H b es B ∧ ∀ x ∈ A, x ∉ B
  | [], _, vs, S, h => ⟨[], vs, [], S, rfl, rfl, .nil, h, fun _ z => nomatch z⟩
  | d :: ds, es, _, _, h => by
    cases h with
    | @cons v _ S1 _ _ T h1 h2 h3 =>
      obtain ⟨a, b, A, B, rfl, rfl, ha, hb, hd⟩ := TrAll.split (ds := ds) (es := es) h2
      refine ⟨v :: a, b, S1 ++ A, B, rfl, (List.append_assoc ..).symm, .cons h1 ha (fun x hx hA => h3 x hx (List.mem_append_left _ hA)), hb, fun x hx hB => ?_⟩
      rcases List.mem_append.mp hx with e | e
      · exact h3 x e (List.mem_append_right _ hB)
      · exact hd x e hB
theorem tr_leaf {K : PySem.W.Frag} {H H' : Hp} {v : V} {d : PyData} (h : Dp K H v d) (e : (tyD d == "list" || tyD d == "tuple") = false) : Tr H' v d [] := by
  cases h with
  | non => exact .non
  | bl b => exact .bl b
  | int i => exact .int i
  | str x => exact .str x
  | lst _ _ => simp [tyD] at e
  | tup _ _ => simp [tyD] at e
def spCopyT (K : PySem.W.Frag) : Sp := fun vs H Q _ => ∃ (v : V) (d : PyData) (Hv : Hp), vs = [v] ∧ Same Hv H ∧ Dp K Hv v d ∧ nd d ≤ 1000000 ∧
  ∀ (H' : Hp) (v' : V) (S : List Addr), Same H H' → Tr H' v' d S → (∀ b ∈ S, H b = none) → Q v' H'
section
variable {P : Program} {w : World} {K : PySem.W.Frag} {mg : Str → Option Value} {base : Heap}
theorem ok_copyT {f fP : Addr} {fd fdP : FuncData} {k : Nat} (F : Fun K "copy_of" "copy_of" sCopy f fd) (T : Nm mg) (FP : Fun K "all_parts" "all_parts" sParts fP fdP) (bP : Binds K fdP ["thing"] []) (gP : mg "all_parts" = some (.ref fP)) :
    FnOk P w K mg base CX0 (k + 2) f fd ["thing"] (spCopyT K) := by
  have GP : FnOk P w K mg base CX0 (k + 1) fP fdP ["thing"] (spParts K) := ok_parts FP T
  refine F.ok scCopy (fun vs H Q E h => ?_) (fun cdv A outer s H vs Q E hr h => ?_)
  · obtain ⟨v, d, Hv, rfl, _⟩ := h
    rfl
  · obtain ⟨v, d, Hv, rfl, sv, hd, hn, q⟩ := h
    refine ⟨_, pss_cons (ps_if (pt_not (pt_val (pe_callB call_isiT (by rfl) T.isi (by decide +kernel) (pa_cons (pv 0) (pa_cons (pe_tup (pa_cons (pe_bltn (v := .ty "list") (by rfl) T.lst (by decide +kernel) rfl) (pa_cons (pe_bltn (v := .ty "tuple") (by rfl) T.tpl (by decide +kernel) rfl) pa_nil))) pa_nil))))) (pss_one (ps_ret (pv 0))) pss_nil) <| pss_cons (ps_set (i := 1) scCopy.nd rfl (.inr rfl) (pe_lst pa_nil))
      (pss_cons (ps_for PassesOwn.never rfl (pi_list (pe_revL (pe_call GP hr (by rfl) gP FP.kp bP .nil pass0 (pa_cons (pv 0) pa_nil)))) (pg_name (i := 2) scCopy.nd rfl (.inl rfl))
        (pss_cons (ps_set (i := 3) scCopy.nd rfl (.inl rfl) (pv 2))
        (pss_cons (ps_if (pt_val (pe_callB call_isiT (by rfl) T.isi (by decide +kernel) (pa_cons (pv 2) (pa_cons (pe_tup (pa_cons (pe_bltn (v := .ty "list") (by rfl) T.lst (by decide +kernel) rfl) (pa_cons (pe_bltn (v := .ty "tuple") (by rfl) T.tpl (by decide +kernel) rfl) pa_nil))) pa_nil))))
          (pss_one (ps_alt
            (ps_setLc (i := 3) (own := [("_", 4)]) (g := gName 4) (tt := tYes) (te := tBM0 K "list" rPop (tVar 1)) rfl scCopy.nd rfl rfl (sw_true rfl rfl rfl (by decide +kernel)) (pi_list (pv 2)) (blkOk_by (N := ["thing", "done", "part", "made", "_"]) (sc := defScope sCopy) (by decide +kernel))
              (fun _ _ _ _ _ => pg_name (i := 4) scCopy.nd rfl (Or.inl rfl)) (fun _ _ _ _ _ => pts_nil) (fun _ _ _ _ _ => pe_bm0 PySem.F.plainAttrs_list PySem.F.slot_list_pop PySem.F.type_list_pop mt_pop (pv 1)))
            (ps_setLc (i := 3) (own := [("_", 4)]) (g := gName 4) (tt := tYes) (te := tBM0 K "list" rPop (tVar 1)) rfl scCopy.nd rfl rfl (sw_true rfl rfl rfl (by decide +kernel)) (pi_tup (pv 2)) (blkOk_by (N := ["thing", "done", "part", "made", "_"]) (sc := defScope sCopy) (by decide +kernel))
              (fun _ _ _ _ _ => pg_name (i := 4) scCopy.nd rfl (Or.inl rfl)) (fun _ _ _ _ _ => pts_nil) (fun _ _ _ _ _ => pe_bm0 PySem.F.plainAttrs_list PySem.F.slot_list_pop PySem.F.type_list_pop mt_pop (pv 1)))))
          pss_nil)
        (pss_cons (ps_if (pt_val (pe_callB call_isi (by rfl) T.isi (by decide +kernel) (pa_cons (pv 2) (pa_cons (pe_bltn (v := .ty "tuple") (by rfl) T.tpl (by decide +kernel) rfl) pa_nil))))
          (pss_one (ps_set (i := 3) scCopy.nd rfl (.inl rfl) (pe_callTy call_tuple_of (by rfl) T.tpl (by decide +kernel) (pa_cons (pv 3) pa_nil))))
          pss_nil)
        (pss_one (ps_expr (pe_bm PySem.F.plainAttrs_list PySem.F.slot_list_append PySem.F.type_list_append mt_append (pv 1) (pa_cons (pv 3) pa_nil))))))))
      (pss_one (ps_ret (pe_ix ix_list (pv 1) pe_int (fun _ _ => rfl))))), ?_⟩
    refine ⟨_, rfl, by decide, fun tp0 ntp0 => ?_⟩
    refine ⟨v, tp0, _, .type (tyD d), [.type "list", .type "tuple"], _, rfl, upd_same, .cons (.ty _) (.cons (.ty _) .nil), dp_ty (dp_same (sv.trans (same_upd ntp0)) _ _ hd), isLT d K, _, rfl, ?_⟩
    have q2 : ∀ (H' : Hp) (v' : V) (S : List Addr), Same (upd H tp0 (.tup [.ty "list", .ty "tuple"])) H' → Tr H' v' d S → (∀ b ∈ S, (upd H tp0 (.tup [.ty "list", .ty "tuple"])) b = none) → Q v' H' := fun H' v' S e1 e2 e3 => q H' v' S ((same_upd ntp0).trans e1) e2 (fun b hb => (same_upd ntp0).free (e3 b hb))
    have sv2 : Same Hv (upd H tp0 (.tup [.ty "list", .ty "tuple"])) := sv.trans (same_upd ntp0)
    cases hlt : (tyD d == "list" || tyD d == "tuple") with
    | false =>
      exact iteT ⟨_, rfl, q2 _ _ [] (fun _ _ e => e) (tr_leaf hd hlt) (fun _ z => nomatch z)⟩
    | true =>
    refine iteF ?_
    generalize upd H tp0 (.tup [.ty "list", .ty "tuple"]) = H at sv2 q2
    clear q sv ntp0 tp0
    have sv := sv2
    have q := q2
    refine ⟨by decide, fun da nda => ?_⟩
    -- all_parts(thing)[::-1]
    refine ⟨_, rfl, v, d, Hv, rfl, sv.trans (same_upd nda), hd, hn, fun H1 p rs sm1 np hp hP hlen => ?_⟩
    have hda1 : H1 da = some (.lst []) := sm1 _ _ upd_same
    refine ⟨p, _, rfl, SqL.of hp, fun r nr => ?_⟩
    rw [List.reverse_reverse]
    have rda : da ≠ r := ne_of_none hda1 nr
    have s0 : Same H (upd H1 r (.lst rs)) := ((same_upd nda).trans sm1).trans (same_upd nr)
    have hr0 : H r = none := ((same_upd nda).trans sm1).free nr
    have nda0 : H da = none := nda
    refine ⟨r, rfl, ⟨_, SqL.of upd_same⟩, for_list (K := K) (a := r) (xs := rs) (fun i σ H2 => ∃ (S : List V × List PyData) (cs : List V) (y2 y3 : Option V), σ = [some v, some (.ref da), y2, y3, none] ∧ Same H H2 ∧ H2 r = some (.lst rs) ∧
      Path K Hv ([v], [d]) (rs.drop i) S ∧ H2 da = some (.lst cs.reverse) ∧ ∃ A, TrAll H2 cs S.2 A ∧ ∀ b ∈ A, H b = none ∧ b ≠ da) ?_ ?_ ?_ ?_⟩
    · exact ⟨([], []), [], none, none, rfl, s0, upd_same, hP, by rw [upd_ne rda]; exact hda1, [], .nil, fun b hb => nomatch hb⟩
    · rintro i σ H2 hi ⟨S, cs, y2, y3, rfl, _, g, _⟩
      exact SqL.of g
    · rintro i x σ H2 hx ⟨S, cs, y2, y3, rfl, sm, hrs, hPi, hda, Ar, hcs, hAr⟩
      have edrop : rs.drop i = x :: rs.drop (i + 1) := by
        obtain ⟨hj, e⟩ := List.getElem?_eq_some_iff.mp hx
        rw [List.drop_eq_getElem_cons hj, e]
      rw [edrop] at hPi
      cases hPi with
      | @cons _ S1 _ _ hP1 hst =>
      have cnt := path_count (.cons hP1 hst)
      have cnt0 : ndAll ([d] : List PyData) = nd d := by simp [ndAll]
      have lcs : cs.length ≤ 1000000 := by
        have e1 := TrAll.length hcs
        have e2 := ndAll_len S.2
        have e3 : ndAll (([v], [d]) : List V × List PyData).2 = nd d := cnt0
        omega
      -- the part's data
      obtain ⟨dx, hdx⟩ : ∃ dx, Dp K Hv x dx ∧ ((∃ r1 rd1, S1 = (x :: r1, dx :: rd1) ∧ S = (r1, rd1) ∧ (tyD dx == "list" || tyD dx == "tuple") = false) ∨
          (∃ a xs es r1 rd1, x = .ref a ∧ dx = .list es ∧ SqL K Hv a xs ∧ DpAll K Hv xs es ∧ S1 = (x :: r1, .list es :: rd1) ∧ S = (xs ++ r1, es ++ rd1)) ∨
          (∃ a xs es r1 rd1, x = .ref a ∧ dx = .tuple es ∧ SqT K Hv a xs ∧ DpAll K Hv xs es ∧ S1 = (x :: r1, .tuple es :: rd1) ∧ S = (xs ++ r1, es ++ rd1))) := by
        cases hst with
        | leaf h e => exact ⟨_, h, .inl ⟨_, _, rfl, rfl, e⟩⟩
        | lst h g => exact ⟨_, .lst h g, .inr (.inl ⟨_, _, _, _, _, rfl, rfl, h, g, rfl, rfl⟩)⟩
        | tup h g => exact ⟨_, .tup h g, .inr (.inr ⟨_, _, _, _, _, rfl, rfl, h, g, rfl, rfl⟩)⟩
      obtain ⟨hx1, hcase⟩ := hdx
      -- made = part; isinstance(part, (list, tuple))
      refine ⟨_, rfl, _, rfl, by decide, fun tp ntp => ?_⟩
      have sm3 : Same H (upd H2 tp (.tup [.ty "list", .ty "tuple"])) := sm.trans (same_upd ntp)
      have hda3 : (upd H2 tp (.tup [.ty "list", .ty "tuple"])) da = some (.lst cs.reverse) := same_upd ntp _ _ hda
      have hrs3 : (upd H2 tp (.tup [.ty "list", .ty "tuple"])) r = some (.lst rs) := same_upd ntp _ _ hrs
      have hcs3 : TrAll (upd H2 tp (.tup [.ty "list", .ty "tuple"])) cs S.2 Ar := TrAll.frame hcs fun b _ o e => same_upd ntp b o e
      refine ⟨x, tp, _, .type (tyD dx), [.type "list", .type "tuple"], _, rfl, upd_same, .cons (.ty _) (.cons (.ty _) .nil), dp_ty (dp_same (sv.trans sm3) _ _ hx1), isLT dx K, _, rfl, ?_⟩
      generalize upd H2 tp (.tup [.ty "list", .ty "tuple"]) = G at sm3 hda3 hrs3 hcs3
      rcases hcase with ⟨r1, rd1, rfl, rfl, e⟩ | ⟨a, xs, es, r1, rd1, rfl, rfl, g1, g2, rfl, rfl⟩ | ⟨a, xs, es, r1, rd1, rfl, rfl, g1, g2, rfl, rfl⟩
      · rw [e]
        refine iteF ?_
        have e2 : (tyD dx == "tuple") = false := (Bool.or_eq_false_iff.mp e).2
        refine ⟨_, rfl, x, .ty "tuple", .type (tyD dx), .type "tuple", _, rfl, .ty _, dp_ty (dp_leaf hx1 e), kit1 dx K, _, rfl, ?_⟩
        rw [e2]
        refine iteF ?_
        refine ⟨_, rfl, .inl ⟨rfl, _, SqL.of hda3⟩, _, rfl, da, _, _, rfl, rfl, hda3, Nat.lt_of_le_of_lt (by simpa using lcs) (by decide), ?_⟩
        refine ⟨_, x :: cs, _, _, rfl, same_fresh nda0 sm3, by rw [upd_ne rda.symm]; exact hrs3, hP1, ?_, ?_⟩
        · rw [upd_same]
          simp
        · exact ⟨[] ++ Ar, .cons (tr_leaf hx1 e) (TrAll.frame hcs3 fun b hb o e => by rw [upd_ne (hAr b hb).2]; exact e) (fun b hb => nomatch hb), hAr⟩
      · obtain ⟨c1, c2, A1, A2, rfl, rfl, hc1, hc2, dis⟩ := TrAll.split hcs3
        have hxl : xs.length = c1.length := (DpAll.length g2).trans (TrAll.length hc1).symm
        refine iteT (.inl ?_)
        refine ⟨_, rfl, a, rfl, ⟨_, (sv.trans sm3).seq g1⟩, fun D nD => lc_list (K := K) (a := a) (xs := xs) (fun j H4 => H4 da = some (.lst (c2.reverse ++ (c1.drop j).reverse)) ∧ H4 D = some (.lst (c1.take j)) ∧ ∀ b o, b ≠ da → b ≠ D → G b = some o → H4 b = some o) ?_ ?_ ?_ ?_⟩
        · have ne : da ≠ D := ne_of_none hda3 nD
          refine ⟨?_, upd_same, fun b o _ hb e => by rw [upd_ne hb]; exact e⟩
          rw [upd_ne ne, hda3]
          simp
        · rintro j H4 hj ⟨_, _, kp⟩
          have nDH : H D = none := sm3.free nD
          exact Same.seq (fun b o e => kp b o (ne_of_none e nda0) (ne_of_none e nDH) (sm3 b o e)) (sv.seq g1)
        · rintro j y H4 hy ⟨k1, k2, kp⟩
          have ne : da ≠ D := ne_of_none hda3 nD
          have hjl : j < c1.length := by
            have := (List.getElem?_eq_some_iff.mp hy).1
            omega
          have hcj : c1[j]? = some c1[j] := List.getElem?_eq_getElem hjl
          rw [rev_drop hcj, ← List.append_assoc] at k1
          refine ⟨rfl, .ref da, rfl, .inl ⟨rfl, _, SqL.of k1⟩, da, _, c1[j], rfl, rfl, k1, by simp, ?_⟩
          rw [List.dropLast_concat]
          refine ⟨c1.take j, by rw [upd_ne ne.symm]; exact k2, ?_, ?_, ?_, fun b o h1 h2 e => ?_⟩
          · refine Nat.lt_of_le_of_lt (show (c1.take j).length ≤ 1000000 from ?_) (by decide)
            rw [List.length_append] at lcs
            have := List.length_take_le j c1
            omega
          · rw [upd_ne ne, upd_same]
          · rw [upd_same, List.take_add_one, hcj]
            rfl
          · rw [upd_ne h2, upd_ne h1]
            exact kp b o h1 h2 e
        · rintro H4 ⟨k1, k2, kp⟩
          have ne : da ≠ D := ne_of_none hda3 nD
          have nDH : H D = none := sm3.free nD
          have sm4 : Same H H4 := fun b o e => kp b o (ne_of_none e nda0) (ne_of_none e nDH) (sm3 b o e)
          have rD : r ≠ D := ne_of_none hrs3 nD
          have hr4 : H4 r = some (.lst rs) := kp r _ rda.symm rD hrs3
          rw [hxl] at k1 k2
          rw [List.drop_length, List.reverse_nil, List.append_nil] at k1
          rw [List.take_length] at k2
          have at4 : ∀ b ∈ A1 ++ A2, ∀ o, G b = some o → H4 b = some o := fun b hb o e => kp b o (hAr b hb).2 (ne_of_none e nD) e
          have hd4 : TrAll H4 c1 es A1 := TrAll.frame hc1 fun b hb o e => at4 b (List.mem_append_left _ hb) o e
          have hd5 : TrAll H4 c2 rd1 A2 := TrAll.frame hc2 fun b hb o e => at4 b (List.mem_append_right _ hb) o e
          have nD1 : D ∉ A1 := fun hb => TrAll.there hc1 D hb nD
          have nD2 : D ∉ A2 := fun hb => TrAll.there hc2 D hb nD
          have hc1l : c1.length ≤ 1000000 ∧ c2.length ≤ 1000000 := by
            rw [List.length_append] at lcs
            omega
          refine ⟨_, rfl, .ref a, .ty "tuple", .type "list", .type "tuple", _, rfl, .ty _, dp_ty (d := .list es) (.lst (Same.seq sm4 (sv.seq g1)) (dpAll_same (sv.trans sm4) _ _ g2)), kit1 (.list es) K, _, rfl, ?_⟩
          refine iteF ?_
          refine ⟨_, rfl, .inl ⟨rfl, _, SqL.of k1⟩, _, rfl, da, _, _, rfl, rfl, k1, Nat.lt_of_le_of_lt (by simpa using hc1l.2) (by decide), ?_⟩
          refine ⟨_, .ref D :: c2, _, _, rfl, same_fresh nda0 sm4, by rw [upd_ne rda.symm]; exact hr4, hP1, ?_, ?_⟩
          · rw [upd_same]
            simp
          · refine ⟨(D :: A1) ++ A2, .cons (.lst (by rw [upd_ne ne.symm]; exact k2) (TrAll.frame hd4 fun b hb o e => by rw [upd_ne (hAr b (List.mem_append_left _ hb)).2]; exact e) nD1) (TrAll.frame hd5 fun b hb o e => by rw [upd_ne (hAr b (List.mem_append_right _ hb)).2]; exact e) fun b hb h2 => ?_, fun b hb => ?_⟩
            · rcases List.mem_cons.mp hb with z | z
              · exact nD2 (z ▸ h2)
              · exact dis b z h2
            · rcases List.mem_append.mp hb with z | z
              · rcases List.mem_cons.mp z with y | y
                · exact y ▸ ⟨nDH, ne.symm⟩
                · exact hAr b (List.mem_append_left _ y)
              · exact hAr b (List.mem_append_right _ z)
      · obtain ⟨c1, c2, A1, A2, rfl, rfl, hc1, hc2, dis⟩ := TrAll.split hcs3
        have hxl : xs.length = c1.length := (DpAll.length g2).trans (TrAll.length hc1).symm
        refine iteT (.inr ?_)
        refine ⟨_, rfl, a, rfl, ⟨_, same_sqt (sv.trans sm3) g1⟩, fun D nD => lc_tup (K := K) (a := a) (xs := xs) (fun j H4 => H4 da = some (.lst (c2.reverse ++ (c1.drop j).reverse)) ∧ H4 D = some (.lst (c1.take j)) ∧ ∀ b o, b ≠ da → b ≠ D → G b = some o → H4 b = some o) ?_ ?_ ?_ ?_⟩
        · have ne : da ≠ D := ne_of_none hda3 nD
          refine ⟨?_, upd_same, fun b o _ hb e => by rw [upd_ne hb]; exact e⟩
          rw [upd_ne ne, hda3]
          simp
        · rintro j H4 hj ⟨_, _, kp⟩
          have nDH : H D = none := sm3.free nD
          exact same_sqt (fun b o e => kp b o (ne_of_none e nda0) (ne_of_none e nDH) (sm3 b o e)) (same_sqt sv g1)
        · rintro j y H4 hy ⟨k1, k2, kp⟩
          have ne : da ≠ D := ne_of_none hda3 nD
          have hjl : j < c1.length := by
            have := (List.getElem?_eq_some_iff.mp hy).1
            omega
          have hcj : c1[j]? = some c1[j] := List.getElem?_eq_getElem hjl
          rw [rev_drop hcj, ← List.append_assoc] at k1
          refine ⟨rfl, .ref da, rfl, .inl ⟨rfl, _, SqL.of k1⟩, da, _, c1[j], rfl, rfl, k1, by simp, ?_⟩
          rw [List.dropLast_concat]
          refine ⟨c1.take j, by rw [upd_ne ne.symm]; exact k2, ?_, ?_, ?_, fun b o h1 h2 e => ?_⟩
          · refine Nat.lt_of_le_of_lt (show (c1.take j).length ≤ 1000000 from ?_) (by decide)
            rw [List.length_append] at lcs
            have := List.length_take_le j c1
            omega
          · rw [upd_ne ne, upd_same]
          · rw [upd_same, List.take_add_one, hcj]
            rfl
          · rw [upd_ne h2, upd_ne h1]
            exact kp b o h1 h2 e
        · rintro H4 ⟨k1, k2, kp⟩
          have ne : da ≠ D := ne_of_none hda3 nD
          have nDH : H D = none := sm3.free nD
          have sm4 : Same H H4 := fun b o e => kp b o (ne_of_none e nda0) (ne_of_none e nDH) (sm3 b o e)
          have rD : r ≠ D := ne_of_none hrs3 nD
          have hr4 : H4 r = some (.lst rs) := kp r _ rda.symm rD hrs3
          rw [hxl] at k1 k2
          rw [List.drop_length, List.reverse_nil, List.append_nil] at k1
          rw [List.take_length] at k2
          have at4 : ∀ b ∈ A1 ++ A2, ∀ o, G b = some o → H4 b = some o := fun b hb o e => kp b o (hAr b hb).2 (ne_of_none e nD) e
          have hd4 : TrAll H4 c1 es A1 := TrAll.frame hc1 fun b hb o e => at4 b (List.mem_append_left _ hb) o e
          have hd5 : TrAll H4 c2 rd1 A2 := TrAll.frame hc2 fun b hb o e => at4 b (List.mem_append_right _ hb) o e
          have nD1 : D ∉ A1 := fun hb => TrAll.there hc1 D hb nD
          have nD2 : D ∉ A2 := fun hb => TrAll.there hc2 D hb nD
          have hc1l : c1.length ≤ 1000000 ∧ c2.length ≤ 1000000 := by
            rw [List.length_append] at lcs
            omega
          refine ⟨_, rfl, .ref a, .ty "tuple", .type "tuple", .type "tuple", _, rfl, .ty _, dp_ty (d := .tuple es) (.tup (same_sqt sm4 (same_sqt sv g1)) (dpAll_same (sv.trans sm4) _ _ g2)), kit1 (.tuple es) K, _, rfl, ?_⟩
          refine iteT ?_
          -- made = tuple(made)
          refine ⟨_, rfl, D, c1, rfl, .inl ⟨SqL.of k2, fun tq ntq => ?_⟩⟩
          have nq : H tq = none := sm4.free ntq
          have dq : da ≠ tq := ne_of_none k1 ntq
          have rq : r ≠ tq := ne_of_none hr4 ntq
          have k5 : (upd H4 tq (.tup c1)) da = some (.lst c2.reverse) := by
            rw [upd_ne dq]
            exact k1
          refine ⟨_, rfl, .inl ⟨rfl, _, SqL.of k5⟩, _, rfl, da, _, _, rfl, rfl, k5, Nat.lt_of_le_of_lt (by simpa using hc1l.2) (by decide), ?_⟩
          refine ⟨_, .ref tq :: c2, _, _, rfl, same_fresh nda0 (sm4.trans (same_upd ntq)), by rw [upd_ne rda.symm, upd_ne rq]; exact hr4, hP1, ?_, ?_⟩
          · rw [upd_same]
            simp
          · have nq1 : tq ∉ A1 := fun hb => TrAll.there hd4 tq hb ntq
            have nq2 : tq ∉ A2 := fun hb => TrAll.there hd5 tq hb ntq
            have up : ∀ b ∈ A1 ++ A2, ∀ o, H4 b = some o → (upd (upd H4 tq (.tup c1)) da (.lst (c2.reverse ++ [.ref tq]))) b = some o := fun b hb o e => by
              rw [upd_ne (hAr b hb).2, upd_ne (ne_of_none e ntq)]
              exact e
            refine ⟨(tq :: A1) ++ A2, .cons (.tup (by rw [upd_ne dq.symm, upd_same]) (TrAll.frame hd4 fun b hb o e => up b (List.mem_append_left _ hb) o e) nq1) (TrAll.frame hd5 fun b hb o e => up b (List.mem_append_right _ hb) o e) fun b hb h2 => ?_, fun b hb => ?_⟩
            · rcases List.mem_cons.mp hb with z | z
              · exact nq2 (z ▸ h2)
              · exact dis b z h2
            · rcases List.mem_append.mp hb with z | z
              · rcases List.mem_cons.mp z with y | y
                · exact y ▸ ⟨nq, dq.symm⟩
                · exact hAr b (List.mem_append_left _ y)
              · exact hAr b (List.mem_append_right _ z)
    · rintro σ H2 ⟨S, cs, y2, y3, rfl, sm, hrs, hPi, hda, Ar, hcs, hAr⟩
      rw [List.drop_length] at hPi
      cases hPi
      cases hcs with
      | @cons c1 d1 A0 vs0 ds0 T0 h1 h2 hdis =>
        cases h2
        refine ⟨_, rfl, da, [c1], 0, c1, rfl, rfl, SqL.of hda, atI_nat (j := 0) rfl, ?_⟩
        exact q H2 c1 A0 sm h1 fun b hb => (hAr b (List.mem_append_left _ hb)).1
end
end TX
namespace TX
open PySem PySem.Spec PyProof.Rows L2
structure Nk (mg : Str → Option Value) : Prop where
  str : mg "str" = none
/-! ### texts -/
def alphaS : Str := "abcdefghijklmnopqrstuvwxyz"
def ltC (c : Nat) : Bool := decide (97 ≤ c ∧ c ≤ 122)
def ltB (x : Str) : Bool := x.cps.toList.all ltC
def isT : PyData → Bool
  | .str x => ltB x
  | _ => false
theorem alpha_has (c : Nat) : alphaS.cps.contains c = ltC c := by
  have e : alphaS.cps.toList = (List.range 26).map (· + 97) := by decide +kernel
  have e2 : alphaS.cps.contains c = alphaS.cps.toList.contains c := by simp
  rw [e2, e]
  unfold ltC
  by_cases h : 97 ≤ c ∧ c ≤ 122
  · rw [decide_eq_true h, List.contains_iff_mem, List.mem_map]
    exact ⟨c - 97, List.mem_range.mpr (by omega), by omega⟩
  · rw [decide_eq_false h]
    refine Bool.eq_false_iff.mpr fun z => h ?_
    obtain ⟨y, hy, rfl⟩ := List.mem_map.mp (List.contains_iff_mem.mp z)
    have := List.mem_range.mp hy
    omega
theorem tw_all {p : Nat → Bool} : ∀ l : List Nat, l.all p = true → l.takeWhile p = l
  | [], _ => rfl
  | c :: r, h => by
    rw [List.all_cons, Bool.and_eq_true] at h
    rw [List.takeWhile_cons, if_pos h.1, tw_all r h.2]
theorem tw_lt {p : Nat → Bool} : ∀ l : List Nat, l.all p = false → (l.takeWhile p).length < l.length ∧ (l.drop (l.takeWhile p).length).all p = false
  | [], h => by simp at h
  | c :: r, h => by
    by_cases hc : p c = true
    · have hr : r.all p = false := by simpa [hc] using h
      obtain ⟨h1, h2⟩ := tw_lt r hr
      rw [List.takeWhile_cons, if_pos hc]
      exact ⟨by simpa using h1, by simpa using h2⟩
    · rw [List.takeWhile_cons, if_neg hc]
      exact ⟨by simp, h⟩
theorem strip_len (x : Str) : ((Txt.stripChars x alphaS).length == 0) = ltB x := by
  have fn : alphaS.cps.contains = ltC := funext alpha_has
  unfold Txt.stripChars Txt.stripBy
  rw [fn]
  have xl : x.length = x.cps.toList.length := by simp [Str.length]
  by_cases h : ltB x = true
  · rw [h]
    have h1 : x.cps.toList.takeWhile ltC = x.cps.toList := tw_all _ h
    have lo : stripLo ltC true x = x.length := by
      unfold stripLo
      rw [if_pos rfl, h1, xl]
    have hi : stripHi ltC true x x.length = x.length := by
      unfold stripHi
      rw [if_pos rfl, xl, List.drop_length]
      simp
    by_cases h0 : stripSame ltC true true x = true
    · rw [if_pos h0]
      unfold stripSame at h0
      rw [lo] at h0
      rw [Bool.and_eq_true] at h0
      exact h0.1
    · rw [if_neg h0]
      unfold stripped
      rw [lo, hi, size_strSub _ _ _ (Nat.le_refl _)]
      simp
  · have h' : ltB x = false := by simpa using h
    rw [h']
    obtain ⟨l1, l2⟩ := tw_lt x.cps.toList h'
    have lo : stripLo ltC true x < x.length := by
      unfold stripLo
      rw [if_pos rfl, xl]
      exact l1
    have el : stripLo ltC true x = (x.cps.toList.takeWhile ltC).length := by
      unfold stripLo
      rw [if_pos rfl]
    have hi : stripLo ltC true x < stripHi ltC true x (stripLo ltC true x) ∧ stripHi ltC true x (stripLo ltC true x) ≤ x.length := by
      unfold stripHi
      rw [if_pos rfl]
      have r1 : (x.cps.toList.drop (stripLo ltC true x)).reverse.all ltC = false := by
        rw [List.all_reverse, el]
        exact l2
      have r2 := (tw_lt _ r1).1
      rw [List.length_reverse, List.length_drop, ← xl] at r2
      omega
    by_cases h0 : stripSame ltC true true x = true
    · rw [if_pos h0]
      refine beq_eq_false_iff_ne.mpr ?_
      omega
    · rw [if_neg h0]
      unfold stripped
      rw [size_strSub _ _ _ hi.2]
      refine beq_eq_false_iff_ne.mpr ?_
      omega
theorem fits_any (x : Str) : (Txt.stripChars x alphaS).length ≤ x.length := by
  unfold Txt.stripChars Txt.stripBy
  by_cases h : stripSame alphaS.cps.contains true true x = true
  · rw [if_pos h]
    exact Nat.le_refl _
  · rw [if_neg h]
    exact le_strSub _ _ _
def spIsText (K : PySem.W.Frag) : Sp := fun vs H Q _ => ∃ (v : V) (d : PyData) (Hv : Hp), vs = [v] ∧ Same Hv H ∧ Dp K Hv v d ∧ sz d ≤ 100000 ∧ Q (.bl (isT d)) H
section
variable {P : Program} {w : World} {K : PySem.W.Frag} {mg : Str → Option Value} {base : Heap}
theorem scIsText : FnScope ["thing"] ["thing"] (defScope s_is_text) := ⟨rfl, rfl, rfl, by decide +kernel, rfl, by decide +kernel, by decide +kernel⟩
theorem ok_isText {f : Addr} {fd : FuncData} {tA : Tok} (F : Fun K "is_text" "is_text" s_is_text f fd) (T : Nm mg) (k : Nk mg) (gA : mg "ALPHABET" = some (.str alphaS tA)) : FnOk P w K mg base CX0 1 f fd ["thing"] (spIsText K) := by
  refine F.ok scIsText (fun vs H Q E h => ?_) (fun cdv A outer s H vs Q E hr h => ?_)
  · obtain ⟨v, d, Hv, rfl, _⟩ := h
    rfl
  · obtain ⟨v, d, Hv, rfl, sv, hd, hz, q⟩ := h
    refine ⟨_, pss_one (ps_ret (pe_and (pe_callB call_isi (by rfl) T.isi (by decide +kernel) (pa_cons (pv 0) (pa_cons (pe_bltn (v := .ty "str") (by rfl) k.str (by decide +kernel) rfl) pa_nil)))
      (pe_one (pe_notT (pe_bm PySem.F.plainAttrs_str PySem.F.slot_str_strip PySem.F.type_str_strip mt_stripChars (pv 0) (pa_cons (pe_glob (v := .str alphaS) (by rfl) gA ⟨_, rfl⟩) pa_nil)))))), ?_⟩
    have ty := dp_ty (dp_same sv _ _ hd)
    have is : ∀ b, (tyD d == "str") = b → PySem.W.kitOne K (.type (tyD d)) (.type "str") = some b := fun b e => e ▸ kitS d K
    refine ⟨_, rfl, v, .ty "str", _, .type "str", (tyD d == "str"), rfl, .ty _, ty, is _ rfl, _, rfl, ?_⟩
    have no : (tyD d == "str") = false → isT d = false := by
      intro e
      cases d with
      | str x => simp [tyD] at e
      | _ => rfl
    by_cases e : (tyD d == "str") = true
    · rw [e]
      refine iteT ?_
      cases hd with
      | str x =>
        have hx : x.length ≤ 100000 := by
          simp only [sz] at hz
          omega
        have hs := strip_len x
        refine ⟨_, rfl, rfl, x, alphaS, rfl, rfl, Nat.le_trans hx (by decide), ltB x |>.not, ⟨?_, ?_⟩, ?_⟩
        · exact Nat.le_trans (fits_any x) (Nat.le_trans hx (by decide))
        · rw [← hs]
          cases e2 : (Txt.stripChars x alphaS).length == 0 with
          | true =>
            have := eq_of_beq e2
            rw [this]
            rfl
          | false =>
            have h0 := beq_eq_false_iff_ne.mp e2
            exact (bne_iff_ne.mpr (by omega)).symm
        · show Q (.bl (!(!ltB x))) H
          rw [Bool.not_not]
          exact q
      | _ => simp [tyD] at e
    · have e' : (tyD d == "str") = false := by simpa using e
      rw [e']
      rw [no e'] at q
      exact iteF q
end
end TX
namespace TX
open PySem PySem.Spec PyProof.Rows L2
/-! ### the bits of an int of any sign -/
def ibit (x : Int) (k : Nat) : Bool := decide (x / 2 ^ k % 2 = 1)
theorem ibit_nat (n k : Nat) : ibit (n : Int) k = n.testBit k := by
  unfold ibit
  rw [Nat.testBit_eq_decide_div_mod_eq]
  have e : ((n : Int) / 2 ^ k % 2) = ((n / 2 ^ k % 2 : Nat) : Int) := by
    push_cast
    rfl
  rw [e]
  congr 1
  apply propext
  omega
theorem ibit_not (x : Int) (k : Nat) : ibit (-x - 1) k = !ibit x k := by
  have hp : (0 : Int) < 2 ^ k := Int.pow_pos (by decide)
  have e : (-x - 1) / 2 ^ k = -(x / 2 ^ k) - 1 := by
    have h1 := Int.mul_ediv_add_emod x (2 ^ k)
    have h2 := Int.emod_nonneg x (Int.ne_of_gt hp)
    have h3 := Int.emod_lt_of_pos x hp
    generalize x / 2 ^ k = q at *
    generalize x % 2 ^ k = r at *
    generalize (2 : Int) ^ k = p at *
    have e2 : -x - 1 = p * (-q - 1) + (p - 1 - r) := by
      rw [← h1, Int.mul_sub, Int.mul_neg]
      omega
    rw [e2, Int.add_comm, Int.add_mul_ediv_left _ _ (Int.ne_of_gt hp), Int.ediv_eq_zero_of_lt (by omega) (by omega)]
    omega
  unfold ibit
  rw [e]
  by_cases h : x / 2 ^ k % 2 = 1
  · rw [decide_eq_true h, decide_eq_false (by omega)]
    rfl
  · rw [decide_eq_false h, decide_eq_true (by omega)]
    rfl
theorem bitNot_is (x : Int) : Builtin.bitNot x = -x - 1 := by
  unfold Builtin.bitNot
  omega
theorem ibit_bnot (x : Int) (k : Nat) : ibit (Builtin.bitNot x) k = !ibit x k := by
  rw [bitNot_is, ibit_not]
theorem nat_less : ∀ (k a b : Nat), (a - (a &&& b)).testBit k = (a.testBit k && !b.testBit k)
  | 0, a, b => by
    have e : (a &&& b) % 2 = (a % 2) * (b % 2) := by
      have h := Nat.testBit_and a b 0
      simp only [Nat.testBit_zero] at h
      have h1 := Nat.mod_two_eq_zero_or_one a
      have h2 := Nat.mod_two_eq_zero_or_one b
      have h3 := Nat.mod_two_eq_zero_or_one (a &&& b)
      rcases h1 with h1 | h1 <;> rcases h2 with h2 | h2 <;> rcases h3 with h3 | h3 <;> simp [h1, h2, h3] at h ⊢
    have le : a &&& b ≤ a := Nat.and_le_left
    simp only [Nat.testBit_zero]
    have h1 := Nat.mod_two_eq_zero_or_one a
    have h2 := Nat.mod_two_eq_zero_or_one b
    rcases h1 with h1 | h1 <;> rcases h2 with h2 | h2 <;> rw [h1, h2] at e <;> simp only [h1, h2] <;> simp <;> omega
  | k + 1, a, b => by
    have le : a &&& b ≤ a := Nat.and_le_left
    have e2 : (a &&& b) / 2 = (a / 2) &&& (b / 2) := by
      apply Nat.eq_of_testBit_eq
      intro i
      rw [Nat.testBit_div_two, Nat.testBit_and, Nat.testBit_and, Nat.testBit_div_two, Nat.testBit_div_two]
    have e : (a &&& b) % 2 ≤ a % 2 := by
      have h := Nat.testBit_and a b 0
      simp only [Nat.testBit_zero] at h
      have h1 := Nat.mod_two_eq_zero_or_one a
      have h3 := Nat.mod_two_eq_zero_or_one (a &&& b)
      rcases h1 with h1 | h1 <;> rcases h3 with h3 | h3 <;> simp [h1, h3] at h ⊢
    have e3 : (a - (a &&& b)) / 2 = a / 2 - (a &&& b) / 2 := by omega
    rw [Nat.testBit_succ, e3, e2, nat_less k (a / 2) (b / 2), ← Nat.testBit_succ, ← Nat.testBit_succ]
theorem ibit_pos {x : Int} (h : 0 ≤ x) (k : Nat) : ibit x k = x.toNat.testBit k := by
  obtain ⟨n, rfl⟩ := Int.eq_ofNat_of_zero_le h
  exact ibit_nat n k
theorem ibit_neg {x : Int} (h : ¬ 0 ≤ x) (k : Nat) : ibit x k = !(Builtin.bitNot x).toNat.testBit k := by
  have e : 0 ≤ Builtin.bitNot x := by
    rw [bitNot_is]
    omega
  rw [← ibit_pos e, ibit_bnot, Bool.not_not]
theorem ibit_and (x y : Int) (k : Nat) : ibit (Builtin.bitAnd x y) k = (ibit x k && ibit y k) := by
  unfold Builtin.bitAnd
  by_cases hx : 0 ≤ x <;> by_cases hy : 0 ≤ y
  · rw [decide_eq_true hx, decide_eq_true hy]
    show ibit ((x.toNat &&& y.toNat : Nat) : Int) k = _
    rw [ibit_nat, Nat.testBit_and, ibit_pos hx, ibit_pos hy]
  · rw [decide_eq_true hx, decide_eq_false hy]
    show ibit (x - ((x.toNat &&& (Builtin.bitNot y).toNat : Nat) : Int)) k = _
    have le : x.toNat &&& (Builtin.bitNot y).toNat ≤ x.toNat := Nat.and_le_left
    have e : x - ((x.toNat &&& (Builtin.bitNot y).toNat : Nat) : Int) = ((x.toNat - (x.toNat &&& (Builtin.bitNot y).toNat) : Nat) : Int) := by omega
    rw [e, ibit_nat, nat_less, ibit_pos hx, ibit_neg hy]
  · rw [decide_eq_false hx, decide_eq_true hy]
    show ibit (y - ((y.toNat &&& (Builtin.bitNot x).toNat : Nat) : Int)) k = _
    have le : y.toNat &&& (Builtin.bitNot x).toNat ≤ y.toNat := Nat.and_le_left
    have e : y - ((y.toNat &&& (Builtin.bitNot x).toNat : Nat) : Int) = ((y.toNat - (y.toNat &&& (Builtin.bitNot x).toNat) : Nat) : Int) := by omega
    rw [e, ibit_nat, nat_less, ibit_pos hy, ibit_neg hx, Bool.and_comm]
  · rw [decide_eq_false hx, decide_eq_false hy]
    show ibit (Builtin.bitNot (((Builtin.bitNot x).toNat ||| (Builtin.bitNot y).toNat : Nat) : Int)) k = _
    rw [ibit_bnot, ibit_nat, Nat.testBit_or, ibit_neg hx, ibit_neg hy, Bool.not_or]
theorem ibit_or (x y : Int) (k : Nat) : ibit (Builtin.bitOr x y) k = (ibit x k || ibit y k) := by
  unfold Builtin.bitOr
  rw [ibit_bnot, ibit_and, ibit_bnot, ibit_bnot]
  cases ibit x k <;> cases ibit y k <;> rfl
theorem or_nat (a b : Nat) : Builtin.bitOr (a : Int) (b : Int) = ((a ||| b : Nat) : Int) := by
  have e1 : ¬ (0 : Int) ≤ Builtin.bitNot (a : Int) := by
    rw [bitNot_is]
    omega
  have e2 : ¬ (0 : Int) ≤ Builtin.bitNot (b : Int) := by
    rw [bitNot_is]
    omega
  unfold Builtin.bitOr Builtin.bitAnd
  rw [decide_eq_false e1, decide_eq_false e2]
  show Builtin.bitNot (Builtin.bitNot (((Builtin.bitNot (Builtin.bitNot (a : Int))).toNat ||| (Builtin.bitNot (Builtin.bitNot (b : Int))).toNat : Nat) : Int)) = _
  simp only [bitNot_is]
  have f1 : (-(-(a : Int) - 1) - 1).toNat = a := by omega
  have f2 : (-(-(b : Int) - 1) - 1).toNat = b := by omega
  rw [f1, f2]
  omega
theorem and_nat (a b : Nat) : Builtin.bitAnd (a : Int) (b : Int) = ((a &&& b : Nat) : Int) := by
  unfold Builtin.bitAnd
  rw [decide_eq_true (Int.natCast_nonneg a), decide_eq_true (Int.natCast_nonneg b)]
  rfl
theorem ibit_xor (a b : Nat) (k : Nat) : ibit (Builtin.bitXor (a : Int) (b : Int)) k = (ibit (a : Int) k ^^ ibit (b : Int) k) := by
  unfold Builtin.bitXor
  rw [or_nat, and_nat]
  have ec : (a ||| b) &&& (a &&& b) = a &&& b := by
    apply Nat.eq_of_testBit_eq
    intro i
    simp only [Nat.testBit_and, Nat.testBit_or]
    cases a.testBit i <;> cases b.testBit i <;> rfl
  have h := nat_less k (a ||| b) (a &&& b)
  rw [ec] at h
  have le : a &&& b ≤ a ||| b := by
    rw [← ec]
    exact Nat.and_le_left
  have e : ((a ||| b : Nat) : Int) - ((a &&& b : Nat) : Int) = ((a ||| b) - (a &&& b) : Nat) := by omega
  rw [e, ibit_nat, ibit_nat, ibit_nat, h, Nat.testBit_and, Nat.testBit_or]
  cases a.testBit k <;> cases b.testBit k <;> rfl
theorem ibit_shl (m k : Nat) : ibit ((1 : Int) * 2 ^ m) k = decide (m = k) := by
  have e : ((1 : Int) * 2 ^ m) = ((2 ^ m : Nat) : Int) := by
    rw [Int.one_mul]
    push_cast
    rfl
  rw [e, ibit_nat, Nat.testBit_two_pow]
/-- (x >> k) & 1 -/
theorem bit_of (x : Int) (k : Nat) : Builtin.bitAnd (x / 2 ^ k) 1 = if ibit x k then 1 else 0 := by
  rw [bitAnd_m1]
  unfold ibit
  by_cases h : x / 2 ^ k % 2 = 1
  · rw [decide_eq_true h, h]
    rfl
  · rw [decide_eq_false h]
    show _ = (0 : Int)
    omega
end TX
namespace TX
open PySem PySem.Spec PyProof.Rows L2
/-! ### looks: which values a row has -/
def listsP (p : PyData → Bool) : PyData → Bool
  | .list es => es.all p
  | _ => false
mutual
def nestP (p : PyData → Bool) : PyData → Bool
  | .list es => p (.list es) || nestAll p es
  | .none => p .none
  | .str z => p (.str z)
  | .bool b => p (.bool b)
  | .int i => p (.int i)
  | .tuple xs => p (.tuple xs)
  | .dict xs => p (.dict xs)
def nestAll (p : PyData → Bool) : List PyData → Bool
  | [] => true
  | d :: ds => nestP p d && nestAll p ds
end
theorem nestAll_all (p : PyData → Bool) : ∀ ds : List PyData, nestAll p ds = ds.all (nestP p)
  | [] => rfl
  | d :: ds => by
    simp only [nestAll, List.all_cons, nestAll_all p ds]
/-- v is the look of d, where items are asked for by these -/
def LookOf (ps : List (PyData → Bool)) : PyData → Nat → Prop
  | .none, v => v = 256
  | .str z, v => v = 257 + min z.length 4
  | .list es, v => v < 256 ∧ ∀ (k : Nat) (p : PyData → Bool), ps[k]? = some p → v.testBit k = es.all p
  | _, _ => False
theorem LookOf.less {ps qs : List (PyData → Bool)} {d : PyData} {v : Nat} (h : LookOf (ps ++ qs) d v) : LookOf ps d v := by
  cases d with
  | list es =>
    refine ⟨h.1, fun k p e => h.2 k p ?_⟩
    rw [List.getElem?_append_left (List.getElem?_eq_some_iff.mp e).1]
    exact e
  | _ => exact h
/-- a row has the bit of a value's look exactly if the value is in the step -/
def RowOk (ps : List (PyData → Bool)) (row : Int) (p : PyData → Bool) : Prop := 0 ≤ row ∧ row < 2 ^ 262 ∧ ∀ d v, LookOf ps d v → ibit row v = p d
theorem RowOk.more {ps qs : List (PyData → Bool)} {row : Int} {p : PyData → Bool} (h : RowOk ps row p) : RowOk (ps ++ qs) row p := ⟨h.1, h.2.1, fun d v l => h.2.2 d v l.less⟩
def allIn : List Nat := [0xaaaaaaaaaaaaaaaaaaaaaaaaaaaaaaaaaaaaaaaaaaaaaaaaaaaaaaaaaaaaaaaa, 0xcccccccccccccccccccccccccccccccccccccccccccccccccccccccccccccccc, 0xf0f0f0f0f0f0f0f0f0f0f0f0f0f0f0f0f0f0f0f0f0f0f0f0f0f0f0f0f0f0f0f0, 0xff00ff00ff00ff00ff00ff00ff00ff00ff00ff00ff00ff00ff00ff00ff00ff00,
  0xffff0000ffff0000ffff0000ffff0000ffff0000ffff0000ffff0000ffff0000, 0xffffffff00000000ffffffff00000000ffffffff00000000ffffffff00000000, 0xffffffffffffffff0000000000000000ffffffffffffffff0000000000000000, 0xffffffffffffffffffffffffffffffff00000000000000000000000000000000]
theorem allIn_bits : ∀ k, k < 8 → ∀ v, v < 256 → (allIn.getD k 0).testBit v = v.testBit k := by
  have h : ((List.range 8).all fun k => (List.range 256).all fun v => (allIn.getD k 0).testBit v == v.testBit k) = true := by decide +kernel
  intro k hk v hv
  have h1 := List.all_eq_true.mp h k (List.mem_range.mpr hk)
  have h2 := List.all_eq_true.mp h1 v (List.mem_range.mpr hv)
  simpa using h2
theorem allIn_small : ∀ k, allIn.getD k 0 < 2 ^ 256 := by
  have h : ((List.range 8).all fun k => decide (allIn.getD k 0 < 2 ^ 256)) = true := by decide +kernel
  intro k
  by_cases hk : k < 8
  · simpa using List.all_eq_true.mp h k (List.mem_range.mpr hk)
  · have e : allIn.getD k 0 = 0 := by
      rw [List.getD_eq_getElem?_getD, List.getElem?_eq_none (show allIn.length ≤ k by show 8 ≤ k; omega)]
      rfl
    rw [e]
    decide
theorem high_bit {n k v : Nat} (h : n < 2 ^ k) (hv : k ≤ v) : n.testBit v = false := Nat.testBit_lt_two_pow (Nat.lt_of_lt_of_le h (Nat.pow_le_pow_right (by decide) hv))
/-- lists whose items are in the step that stands at k among those asked for -/
theorem rowOk_lists {ps : List (PyData → Bool)} {k : Nat} {p : PyData → Bool} (hk : ps[k]? = some p) (h8 : k < 8) : RowOk ps ((allIn.getD k 0 : Nat) : Int) (listsP p) := by
  have hs := allIn_small k
  refine ⟨Int.natCast_nonneg _, ?_, fun d v l => ?_⟩
  · have : allIn.getD k 0 < 2 ^ 262 := Nat.lt_of_lt_of_le hs (Nat.pow_le_pow_right (by decide) (by decide))
    exact_mod_cast this
  · rw [ibit_nat]
    cases d with
    | list es =>
      rw [allIn_bits k h8 v l.1]
      exact l.2 k p hk
    | none =>
      have e : v = 256 := l
      rw [high_bit hs (by omega)]
      rfl
    | str z =>
      have e : v = 257 + min z.length 4 := l
      rw [high_bit hs (by omega)]
      rfl
    | _ => exact l.elim
/-- nested: the values of a step, and lists of such values at any depth -/
theorem rowOk_nested {ps : List (PyData → Bool)} {k a : Nat} {p : PyData → Bool} (hr : RowOk ps (a : Int) p) (hk : ps[k]? = some (nestP p)) (h8 : k < 8) : RowOk ps (Builtin.bitOr (a : Int) ((allIn.getD k 0 : Nat) : Int)) (nestP p) := by
  obtain ⟨h0, h1, h2⟩ := hr
  have hl := rowOk_lists hk h8
  rw [or_nat]
  refine ⟨Int.natCast_nonneg _, ?_, fun d v l => ?_⟩
  · have b1 : a < 2 ^ 262 := by exact_mod_cast h1
    have b2 : allIn.getD k 0 < 2 ^ 262 := by exact_mod_cast hl.2.1
    exact_mod_cast Nat.or_lt_two_pow b1 b2
  · rw [ibit_nat, Nat.testBit_or, ← ibit_nat, ← ibit_nat, h2 d v l, hl.2.2 d v l]
    cases d with
    | list es => simp only [nestP, listsP, nestAll_all]
    | none => simp [nestP, listsP]
    | str z => simp [nestP, listsP]
    | _ => exact l.elim
theorem look_lt {ps : List (PyData → Bool)} {d : PyData} {v : Nat} (l : LookOf ps d v) : v < 262 := by
  cases d with
  | list es =>
    have := l.1
    omega
  | none =>
    have e : v = 256 := l
    omega
  | str z =>
    have e : v = 257 + min z.length 4 := l
    omega
  | _ => exact l.elim
theorem rowOk_every {ps : List (PyData → Bool)} : RowOk ps ((2 ^ 262 - 1 : Nat) : Int) (fun _ => true) := by
  refine ⟨Int.natCast_nonneg _, by decide +kernel, fun d v l => ?_⟩
  rw [ibit_nat, Nat.testBit_two_pow_sub_one]
  exact decide_eq_true (look_lt l)
theorem rowOk_never {ps : List (PyData → Bool)} : RowOk ps 0 (fun _ => false) := by
  refine ⟨Int.le_refl _, by decide, fun d v l => ?_⟩
  have e := ibit_nat 0 v
  rw [Nat.zero_testBit] at e
  exact e
def noneP : PyData → Bool
  | .none => true
  | _ => false
theorem rowOk_nothing {ps : List (PyData → Bool)} : RowOk ps (1 * 2 ^ 256) noneP := by
  refine ⟨by decide, by decide, fun d v l => ?_⟩
  rw [ibit_shl]
  cases d with
  | list es =>
    have := l.1
    exact decide_eq_false (by omega)
  | none =>
    have e : v = 256 := l
    exact decide_eq_true e.symm
  | str z =>
    have e : v = 257 + min z.length 4 := l
    exact decide_eq_false (by omega)
  | _ => exact l.elim
def textP (lo : Nat) (hi : Option Nat) : PyData → Bool
  | .str z => decide (lo ≤ z.length) && (match hi with | none => true | some h => decide (z.length ≤ h))
  | _ => false
/-- the row under way: the numbers from lo to below m -/
def TextRow (lo m : Nat) (a : Nat) : Prop := a < 2 ^ 262 ∧ ∀ v, a.testBit v = decide (257 + lo ≤ v ∧ v < 257 + m)
theorem textRow_start {lo : Nat} : TextRow lo lo 0 := by
  refine ⟨by decide, fun v => ?_⟩
  rw [Nat.zero_testBit, decide_eq_false (by omega)]
theorem textRow_step {lo m a : Nat} (h : TextRow lo m a) (hl : lo ≤ m) (hm : m ≤ 4) : TextRow lo (m + 1) (a ||| 2 ^ (257 + m)) := by
  refine ⟨Nat.or_lt_two_pow h.1 (Nat.pow_lt_pow_right (by decide) (by omega)), fun v => ?_⟩
  rw [Nat.testBit_or, h.2 v, Nat.testBit_two_pow]
  by_cases e : 257 + m = v
  · rw [decide_eq_true e, decide_eq_true (show 257 + lo ≤ v ∧ v < 257 + (m + 1) by omega), Bool.or_true]
  · rw [decide_eq_false e, Bool.or_false]
    by_cases e2 : 257 + lo ≤ v ∧ v < 257 + m
    · rw [decide_eq_true e2, decide_eq_true (by omega)]
    · rw [decide_eq_false e2, decide_eq_false (by omega)]
theorem rowOk_texts {ps : List (PyData → Bool)} {lo a : Nat} {hi : Option Nat} (hl : lo ≤ 3) (hh : ∀ h, hi = some h → h ≤ 3) (r : TextRow lo (match hi with | none => 5 | some h => max lo (h + 1)) a) : RowOk ps (a : Int) (textP lo hi) := by
  refine ⟨Int.natCast_nonneg _, by exact_mod_cast r.1, fun d v l => ?_⟩
  rw [ibit_nat, r.2 v]
  cases d with
  | list es =>
    have := l.1
    exact decide_eq_false (by omega)
  | none =>
    have e : v = 256 := l
    exact decide_eq_false (by omega)
  | str z =>
    have e : v = 257 + min z.length 4 := l
    subst e
    cases hi with
    | none =>
      simp only [textP, Bool.and_true]
      congr 1
      apply propext
      omega
    | some h =>
      have := hh h rfl
      simp only [textP]
      rw [← Bool.decide_and]
      congr 1
      apply propext
      omega
  | _ => exact l.elim
theorem rowOk_or {ps : List (PyData → Bool)} {a b : Nat} {p q : PyData → Bool} (h : RowOk ps (a : Int) p) (g : RowOk ps (b : Int) q) : RowOk ps (Builtin.bitOr (a : Int) (b : Int)) fun d => p d || q d := by
  rw [or_nat]
  have b1 : a < 2 ^ 262 := by exact_mod_cast h.2.1
  have b2 : b < 2 ^ 262 := by exact_mod_cast g.2.1
  refine ⟨Int.natCast_nonneg _, by exact_mod_cast Nat.or_lt_two_pow b1 b2, fun d v l => ?_⟩
  rw [ibit_nat, Nat.testBit_or, ← ibit_nat, ← ibit_nat, h.2.2 d v l, g.2.2 d v l]
theorem rowOk_and {ps : List (PyData → Bool)} {a b : Nat} {p q : PyData → Bool} (h : RowOk ps (a : Int) p) (g : RowOk ps (b : Int) q) : RowOk ps (Builtin.bitAnd (a : Int) (b : Int)) fun d => p d && q d := by
  rw [and_nat]
  have b1 : a < 2 ^ 262 := by exact_mod_cast h.2.1
  refine ⟨Int.natCast_nonneg _, by exact_mod_cast Nat.lt_of_le_of_lt Nat.and_le_left b1, fun d v l => ?_⟩
  rw [ibit_nat, Nat.testBit_and, ← ibit_nat, ← ibit_nat, h.2.2 d v l, g.2.2 d v l]
theorem rowOk_minus {ps : List (PyData → Bool)} {a b : Nat} {p q : PyData → Bool} (h : RowOk ps (a : Int) p) (g : RowOk ps (b : Int) q) : RowOk ps (Builtin.bitAnd (a : Int) (Builtin.bitNot (b : Int))) fun d => p d && !q d := by
  have b1 : a < 2 ^ 262 := by exact_mod_cast h.2.1
  have e : Builtin.bitAnd (a : Int) (Builtin.bitNot (b : Int)) = ((a - (a &&& b) : Nat) : Int) := by
    have e1 : ¬ (0 : Int) ≤ Builtin.bitNot (b : Int) := by
      rw [bitNot_is]
      omega
    unfold Builtin.bitAnd
    rw [decide_eq_true (Int.natCast_nonneg a), decide_eq_false e1]
    show (a : Int) - (((a : Int).toNat &&& (Builtin.bitNot (Builtin.bitNot (b : Int))).toNat : Nat) : Int) = _
    have f : (Builtin.bitNot (Builtin.bitNot (b : Int))).toNat = b := by
      rw [bitNot_is, bitNot_is]
      omega
    rw [f, Int.toNat_natCast]
    have le : a &&& b ≤ a := Nat.and_le_left
    omega
  refine ⟨by rw [e]; exact Int.natCast_nonneg _, ?_, fun d v l => ?_⟩
  · rw [e]
    exact_mod_cast Nat.lt_of_le_of_lt (Nat.sub_le _ _) b1
  · rw [ibit_and, ibit_bnot, h.2.2 d v l, g.2.2 d v l]
theorem rowOk_outside {ps : List (PyData → Bool)} {a : Nat} {p : PyData → Bool} (h : RowOk ps (a : Int) p) : RowOk ps (Builtin.bitXor ((2 ^ 262 - 1 : Nat) : Int) (a : Int)) fun d => !p d := by
  have b1 : a < 2 ^ 262 := by exact_mod_cast h.2.1
  have e : Builtin.bitXor ((2 ^ 262 - 1 : Nat) : Int) (a : Int) = (((2 ^ 262 - 1) ||| a) - ((2 ^ 262 - 1) &&& a) : Nat) := by
    unfold Builtin.bitXor
    rw [or_nat, and_nat]
    have le : (2 ^ 262 - 1) &&& a ≤ (2 ^ 262 - 1) ||| a := Nat.le_trans Nat.and_le_left Nat.left_le_or
    omega
  refine ⟨by rw [e]; exact Int.natCast_nonneg _, ?_, fun d v l => ?_⟩
  · rw [e]
    have : ((2 ^ 262 - 1) ||| a) < 2 ^ 262 := Nat.or_lt_two_pow (by decide) b1
    exact_mod_cast Nat.lt_of_le_of_lt (Nat.sub_le _ _) this
  · have t := (rowOk_every (ps := ps)).2.2 d v l
    rw [ibit_xor, t, h.2.2 d v l, Bool.true_xor]
end TX
namespace TX
open PySem PySem.Spec PyProof.Rows L2
/-- the constants of members -/
structure Cm (mg : Str → Option Value) : Prop where
  texts : ∃ t, mg "TEXTS" = some (.int 257 t)
  long : ∃ t, mg "LONG" = some (.int 4 t)
def hiV : Option Nat → V
  | .none => .non
  | .some h => .int (h : Nat)
def hiN (lo : Nat) : Option Nat → Nat
  | .none => 5
  | .some h => max lo (h + 1)
def spRowT (K : PySem.W.Frag) : Sp := fun vs H Q _ => ∃ (a : Addr) (lo : Nat) (hi : Option Nat), vs = [.ref a] ∧ SqT K H a [.int (lo : Nat), hiV hi] ∧ lo ≤ 3 ∧ (∀ h, hi = some h → h ≤ 3) ∧ ∀ r : Nat, TextRow lo (hiN lo hi) r → Q (.int (r : Nat)) H
section
variable {P : Program} {w : World} {K : PySem.W.Frag} {mg : Str → Option Value} {base : Heap}
theorem scRowT : FnScope ["numbers", "least", "most", "row", "many"] ["numbers"] (defScope s_row_of_texts) := ⟨rfl, rfl, rfl, by decide +kernel, rfl, by decide +kernel, by decide +kernel⟩
theorem ok_rowT {f : Addr} {fd : FuncData} {t1 t2 : Tok} (F : Fun K "row_of_texts" "row_of_texts" s_row_of_texts f fd) (Y : Nv mg) (gT : mg "TEXTS" = some (.int 257 t1)) (gL : mg "LONG" = some (.int 4 t2)) : FnOk P w K mg base CX0 1 f fd ["numbers"] (spRowT K) := by
  refine F.ok scRowT (fun vs H Q E h => ?_) (fun cdv A outer s H vs Q E hr h => ?_)
  · obtain ⟨a, lo, hi, rfl, _⟩ := h
    rfl
  · obtain ⟨a, lo, hi, rfl, ha, hlo, hhi, q⟩ := h
    refine ⟨_, pss_cons (ps_asg (pv 0) (pg_tup rfl (pgs_cons (pg_name (i := 1) scRowT.nd rfl (.inl rfl)) (pgs_cons (pg_name (i := 2) scRowT.nd rfl (.inl rfl)) pgs_nil)))) <|
      pss_cons (ps_set (i := 3) scRowT.nd rfl (.inl rfl) pe_int) <|
      pss_cons (ps_for PassesOwn.never rfl (pi_range2 (by rfl) Y.range (pa_cons (pv 1) (pa_cons (pe_ifExp (pt_cmp (pc_isN (pv 2))) (pe_op op_add (pe_glob (v := .int 4) (by rfl) gL ⟨_, rfl⟩) pe_int) (pe_op op_add (pv 2) pe_int)) pa_nil))) (pg_name (i := 4) scRowT.nd rfl (.inl rfl))
        (pss_one (ps_set (i := 3) scRowT.nd rfl (.inl rfl) (pe_op op_or (pv 3) (pe_op op_shl pe_int (pe_op op_add (pe_glob (v := .int 257) (by rfl) gT ⟨_, rfl⟩) (pv 4))))))) <|
      pss_one (ps_ret (pv 3)), ?_⟩
    refine ⟨_, rfl, a, _, rfl, ha, rfl, _, _, rfl, _, _, rfl, rfl, ?_⟩
    have main : ∀ (n : Nat) (hv : V), lo + n ≤ 5 → (∀ r : Nat, TextRow lo (lo + n) r → Q (.int (r : Nat)) H) → ∃ W : Nat → Nat → L2.St → Hp → Prop, (∃ m, W 0 m [some (.ref a), some (.int (lo : Nat)), some hv, some (.int 0), none] H) ∧ ∀ i m σ H', W i m σ H' →
        ((Itr (lo : Int) n).stop i H' ∧ tRet (tVar 3) { nx := fun _ H' => Q .non H', rt := Q } σ H') ∨ ((Itr (lo : Int) n).go i H' ∧ ∃ N : L2.St → Hp → Prop, (∀ σ' H2, N σ' H2 → ∃ m', m' < m ∧ W (i + 1) m' σ' H2) ∧ ∀ x H2, (Itr (lo : Int) n).yld i H' x H2 → gName 4 x σ H2 fun σ2 H3 =>
          tAsg (tOp (rI0 fun i j => .int (Builtin.bitOr i j)) (tVar 3) (tOp (rI CPow fun i j => .int (i * 2 ^ j.toNat)) (tC (.int 1)) (tOp (rI0 fun i j => .int (i + j)) (tC (.int 257)) (tVar 4)))) (gName 3) { nx := N, rt := Q, ct := N, bk := fun σ H' => tRet (tVar 3) { nx := fun _ H' => Q .non H', rt := Q } σ H' } σ2 H3) := by
      intro n hv hn hq
      refine for_range (lo := (lo : Int)) (n := n) (tb := tAsg (tOp (rI0 fun i j => .int (Builtin.bitOr i j)) (tVar 3) (tOp (rI CPow fun i j => .int (i * 2 ^ j.toNat)) (tC (.int 1)) (tOp (rI0 fun i j => .int (i + j)) (tC (.int 257)) (tVar 4)))) (gName 3)) (D := { nx := fun σ H' => tRet (tVar 3) { nx := fun _ H' => Q .non H', rt := Q } σ H', rt := Q }) (fun i σ H2 => ∃ (y4 : Option V) (r : Nat), σ = [some (.ref a), some (.int (lo : Nat)), some hv, some (.int (r : Nat)), y4] ∧ H2 = H ∧ TextRow lo (lo + i) r) ⟨_, 0, rfl, rfl, textRow_start⟩ ?_ ?_
      · rintro i σ H2 hi ⟨y4, r, rfl, rfl, hr⟩
        refine ⟨_, rfl, _, rfl, _, _, rfl, rfl, _, _, rfl, rfl, ⟨(by show (0 : Int) ≤ 257 + ((lo : Int) + (i : Int)); omega), (by show (257 : Int) + ((lo : Int) + (i : Int)) ≤ 1000000; omega), by decide⟩, _, _, rfl, rfl, ?_⟩
        have e1 : ((257 : Int) + ((lo : Int) + (i : Int))).toNat = 257 + (lo + i) := by omega
        have e2 : (1 : Int) * 2 ^ (257 + (lo + i)) = ((2 ^ (257 + (lo + i)) : Nat) : Int) := by
          rw [Int.one_mul]
          push_cast
          rfl
        refine ⟨some (.int ((lo : Int) + (i : Int))), r ||| 2 ^ (257 + (lo + i)), ?_, rfl, (show TextRow lo (lo + i + 1) _ from textRow_step hr (by omega) (by omega))⟩
        rw [e1, e2]
        show [some (V.ref a), some (V.int (lo : Nat)), some hv, some (V.int (Builtin.bitOr (r : Int) ((2 ^ (257 + (lo + i)) : Nat) : Int))), some (V.int ((lo : Int) + (i : Int)))] = _
        rw [or_nat]
      · rintro σ H2 ⟨y4, r, rfl, rfl, hr⟩
        exact ⟨_, rfl, hq r hr⟩
    cases hi with
    | none =>
      have e5 : ((4 : Int) + 1 - (lo : Int)).toNat = 5 - lo := by omega
      refine ⟨_, rfl, _, rfl, _, rfl, iteT ⟨_, _, rfl, rfl, (lo : Int), 4 + 1, rfl, ⟨by omega, by omega, by decide, by decide⟩, ?_⟩⟩
      rw [e5]
      exact main (5 - lo) .non (by omega) fun r hr => q r (by show TextRow lo 5 r; rw [show lo + (5 - lo) = 5 by omega] at hr; exact hr)
    | some h =>
      have h3 := hhi h rfl
      have e5 : ((h : Int) + 1 - (lo : Int)).toNat = (h + 1) - lo := by omega
      refine ⟨_, rfl, _, rfl, _, rfl, iteF ⟨_, rfl, _, _, rfl, rfl, (lo : Int), (h : Int) + 1, rfl, ⟨by omega, by omega, by omega, by omega⟩, ?_⟩⟩
      rw [e5]
      exact main (h + 1 - lo) (.int (h : Nat)) (by omega) fun r hr => q r (by show TextRow lo (max lo (h + 1)) r; rw [show lo + (h + 1 - lo) = max lo (h + 1) by omega] at hr; exact hr)
end
end TX
namespace TX
open PySem PySem.Spec PyProof.Rows L2
section
variable {prog : Program} {w : World} {A : Around} {E : Value → Shared → Prop} {s : Shared}
theorem applied_rev0 {sl : Addr} {vs : Value} {Q : Int × Int × Nat → Shared → Prop} (g : s.heap.IsSliceOf sl .none .none vs) (pc : IsPart vs (some (-1))) (q : Q (-1, -1, 0) s) : wpAny (model prog w) A (Builtin.Slice.sliceApplied (.ref sl) (pure 0)) Q E s := by
  obtain ⟨os, e, _, d⟩ := id g
  unfold Builtin.Slice.sliceApplied Builtin.Slice.sliceFields
  refine wpAny_bind (wpAny_bind (wpAny_field e d (x := .none) rfl (wpAny_bind (wpAny_field e d (x := .none) rfl (wpAny_bind (wpAny_field e d (x := vs) rfl (wpAny_pure ?_)))))))
  cases pc with
  | int i t =>
    refine wpAny_bind (slicePart_int (show wpAny _ _ (if ((-1 : Int) == 0) = true then _ else _) _ _ s from ?_))
    rw [if_neg (by decide)]
    exact wpAny_bind (slicePart_none (wpAny_bind (slicePart_none (wpAny_bind (wpAny_pure (wpAny_pure q))))))
theorem item_rev0 {t sl : Addr} {vs : Value} {Q : Value → Shared → Prop} (ht : IsTup s.heap t #[]) (g : s.heap.IsSliceOf sl .none .none vs) (pc : IsPart vs (some (-1)))
    (q : Q (.ref s.heap.objs.size) { s with heap := s.heap.push { cls := .type "tuple", data := .seq #[] } }) : wpAny (model prog w) A (getItem (.ref t) (.ref sl)) Q E s := by
  obtain ⟨os, e, c, _⟩ := id g
  have ts : s.TypeIs (.ref sl) "slice" := ⟨os, e, c⟩
  unfold getItem
  try with_reducible refine wpAny_holding ?_
  first | refine wpAny_bind (wpAny_pure ?_) | skip
  refine wpAny_bind (wpAny_sequenceKey ht.typeIs (by decide) (wpAny_bind (wpAny_callSpecial?_slot (name := Str.ofString "__getitem__") ht.typeIs PyProof.Rows.slot_tuple_getitem (wpAny_call_entry PyProof.Rows.slot_tuple_getitem ht.typeIs entry_tuple_getitem ?_ (args_tuple_getitem _ _)))))
  refine wpAny_bind (m := Builtin.Tuple.tupleItemsOf (.ref t)) (tupleItemsOf_ ht (wpAny_bind (wpAny_typeOf ts ?_)))
  rw [if_pos (by decide)]
  refine wpAny_bind (applied_rev0 g pc ?_)
  show wpAny _ _ (if ((-1 : Int) == 0 && (-1 : Int) == 1 && (0 : Nat) == 0) = true then _ else _) _ _ s
  rw [if_neg (by decide)]
  have zs : sizeOk (.seq (#[] : Array Value)) := Nat.zero_le _
  first
    | exact wpAny_bind (m := Builtin.Tuple.tupleExact #[]) (wpAny_newObj_type (wpAny_pure ⟨_, rfl, wpAny_pure q⟩) zs)
    | exact wpAny_bind (m := Builtin.Tuple.tupleExact #[]) (wpAny_newObj_type (wpAny_bind (wpAny_pure (wpAny_pure ⟨_, rfl, wpAny_pure q⟩))) zs)
    | exact wpAny_bind (wpAny_bind (m := Builtin.Tuple.tupleExact #[]) (wpAny_newObj_type (wpAny_pure (wpAny_pure ⟨_, rfl, wpAny_pure q⟩)) zs))
    | exact wpAny_bind (wpAny_bind (m := Builtin.Tuple.tupleExact #[]) (wpAny_newObj_type (wpAny_pure ⟨_, rfl, wpAny_pure q⟩) zs))
end
section
variable {X : Cx}
def tRevT0 (K : PySem.W.Frag) (te : TE) : TE := fun σ H Q => te σ H fun x H1 => ∃ a, x = .ref a ∧ SqT K H1 a [] ∧ ∀ p, H1 p = none → Q (.ref p) (upd H1 p (.tup []))
theorem pe_revT0 {e : Expr} {te : TE} {k : Nat} {p1 p2 p3 pos : Pos} (he : PE X e te) : PE X (.Subscript e (.Slice none none (some (.UnaryOp .USub (.Constant (.int 1) k p1) p2)) p3) pos) (tRevT0 X.K te) := by
  have back : PO X (some (.UnaryOp .USub (.Constant (.int 1) k p1) p2)) (tPart (tUn (rU fun i => .int (-i)) (tC (.int 1)))) := po_some (pe_un un_neg pe_int)
  refine ⟨fun pins s σ H Q I h => Subscript_ (thn (he.run pins s σ H _ I h) fun v s1 hv => ?_)⟩
  obtain ⟨x, H1, I1, r1, a, rfl, hx, q⟩ := hv
  cases r1
  refine wpAny_Slice (thn (po_none.run pins s1 σ H1 (fun o H2 => o = none ∧ H2 = H1) I1 ⟨rfl, rfl⟩) fun vl s2 h2 => thn (po_none.run pins s2 σ H1 (fun o H3 => o = none ∧ H3 = H1) ?_ ⟨rfl, rfl⟩) fun vu s3 h3 => ?_)
  · obtain ⟨o, H2, I2, _, rfl, rfl⟩ := h2
    exact I2
  obtain ⟨_, H2, I2, pl, rfl, rfl⟩ := h2
  obtain ⟨_, H3, I3, pu, rfl, rfl⟩ := h3
  refine thn (back.run pins s3 σ H3 (fun o H4 => o = some (-1) ∧ H4 = H3) I3 ⟨1, rfl, -1, rfl, rfl, rfl⟩) fun vs s4 h4 => ?_
  obtain ⟨_, H4, I4, pc, rfl, rfl⟩ := h4
  cases pl
  cases pu
  have I5 : Inv X pins σ H4 { s4 with heap := s4.heap.push { cls := .type "slice", data := .fields #[.none, .none, vs] } } := I4.kept (t' := s4.toks) fun b ob z => Heap.get?_push_of_some _ z
  obtain ⟨its, r, ht, hz⟩ := I5.tuple hx
  cases r
  show wpAny (model X.prog X.w) X.A (subscriptTail e (.Slice none none (some (.UnaryOp .USub (.Constant (.int 1) k p1) p2)) p3) (.ref a) (.ref s4.heap.objs.size)) (EP X pins σ Q) X.xe _
  refine tail_any (ops := [.ref a, .ref s4.heap.objs.size]) ht.typeIs (PyProof.Rows.slot_tuple_getitem.lookup) (item_rev0 ht (Heap.IsSliceOf.new _ .none .none vs) pc ?_) (by with_unfolding_all rfl)
  refine ⟨.ref _, _, I5.laid (t' := s4.toks) (o := .tup []) (fun b ob z => Heap.get?_push_of_some _ z) (Nat.le_refl _) ⟨Nat.zero_le _, [], .nil, IsTup.new _ _⟩, rfl, q _ (I5.hok.fresh (Nat.le_refl _))⟩
end
end TX
namespace TX
open PySem PySem.Spec PyProof.Rows L2
/-- a number with a bit for each of the rows -/
def toldN (look : Nat) : List Int → Nat
  | [] => 0
  | r :: rs => 2 * toldN look rs + (if ibit r look then 1 else 0)
theorem told_bit {look : Nat} : ∀ {rs : List Int} {k : Nat} {r : Int}, rs[k]? = some r → (toldN look rs).testBit k = ibit r look
  | [], _, _, h => by simp at h
  | r0 :: rs, 0, r, h => by
    have e : r0 = r := by simpa using h
    subst e
    simp only [toldN, Nat.testBit_zero]
    cases ibit r0 look
    · simp
    · simp
  | r0 :: rs, k + 1, r, h => by
    have e : rs[k]? = some r := by simpa using h
    have e2 : (toldN look (r0 :: rs)) / 2 = toldN look rs := by
      simp only [toldN]
      split <;> omega
    rw [Nat.testBit_succ, e2]
    exact told_bit e
theorem told_lt {look : Nat} : ∀ rs : List Int, toldN look rs < 2 ^ rs.length
  | [] => by simp [toldN]
  | r :: rs => by
    have := told_lt (look := look) rs
    simp only [toldN, List.length_cons, Nat.pow_succ]
    split <;> omega
def spToldN (K : PySem.W.Frag) : Sp := fun vs H Q _ => ∃ (a : Addr) (rs : List Int) (look : Nat), vs = [.ref a, .int (look : Nat)] ∧ (SqL K H a (rs.map V.int) ∨ SqT K H a [] ∧ rs = []) ∧ ∀ H', Same H H' → Q (.int (toldN look rs : Nat)) H'
section
variable {P : Program} {w : World} {K : PySem.W.Frag} {mg : Str → Option Value} {base : Heap}
theorem scTold : FnScope ["rows", "look", "told", "row"] ["rows", "look"] (defScope s_told_by) := ⟨rfl, rfl, rfl, by decide +kernel, rfl, by decide +kernel, by decide +kernel⟩
theorem ok_toldN {f : Addr} {fd : FuncData} (F : Fun K "told_by" "told_by" s_told_by f fd) : FnOk P w K mg base CX0 1 f fd ["rows", "look"] (spToldN K) := by
  refine F.ok scTold (fun vs H Q E h => ?_) (fun cdv A outer s H vs Q E hr h => ?_)
  · obtain ⟨a, rs, look, rfl, _⟩ := h
    rfl
  · obtain ⟨a, rs, look, rfl, ha, q⟩ := h
    refine ⟨_, pss_cons (ps_set (i := 2) scTold.nd rfl (.inl rfl) pe_int) <|
      pss_cons (ps_for PassesOwn.never rfl (pi_alt (pi_list (pe_revL (pv 0))) (pi_tup (pe_revT0 (pv 0)))) (pg_name (i := 3) scTold.nd rfl (.inl rfl))
        (pss_one (ps_set (i := 2) scTold.nd rfl (.inl rfl) (pe_op op_add (pe_op op_add (pv 2) (pv 2)) (pe_op op_and (pe_op op_shr (pv 3) (pv 1)) pe_int))))) <|
      pss_one (ps_ret (pv 2)), ?_⟩
    rcases ha with ha | ⟨ha, rfl⟩
    rotate_left
    · refine .inr ⟨_, rfl, a, rfl, ha, fun r nr => ?_⟩
      refine ⟨r, rfl, ⟨_, SqT.of upd_same⟩, for_tup (K := K) (a := r) (xs := []) (fun i σ H2 => ∃ y3, σ = [some (.ref a), some (.int (look : Nat)), some (.int 0), y3] ∧ Same H H2 ∧ H2 r = some (.tup [])) ⟨_, rfl, same_upd nr, upd_same⟩ ?_ ?_ ?_⟩
      · rintro i σ H2 hi ⟨y3, rfl, sm, h⟩
        exact SqT.of h
      · rintro i x σ H2 hx _
        simp at hx
      · rintro σ H2 ⟨y3, rfl, sm, h⟩
        exact ⟨_, rfl, q H2 sm⟩
    refine .inl ⟨_, rfl, a, _, rfl, ha, fun r nr => ?_⟩
    refine ⟨r, rfl, ⟨_, SqL.of upd_same⟩, for_list (K := K) (a := r) (xs := (rs.map V.int).reverse) (fun i σ H2 => ∃ y3, σ = [some (.ref a), some (.int (look : Nat)), some (.int (toldN look (rs.drop (rs.length - i)) : Nat)), y3] ∧ Same H H2 ∧ H2 r = some (.lst (rs.map V.int).reverse)) ?_ ?_ ?_ ?_⟩
    · exact ⟨none, by simp [toldN]; rfl, same_upd nr, upd_same⟩
    · rintro i σ H2 hi ⟨y3, rfl, sm, h⟩
      exact SqL.of h
    · rintro i x σ H2 hx ⟨y3, rfl, sm, h⟩
      have hi : i < rs.length := by
        have := (List.getElem?_eq_some_iff.mp hx).1
        simpa using this
      have hj : rs.length - 1 - i < rs.length := by omega
      have ex : x = .int rs[rs.length - 1 - i] := by
        rw [List.getElem?_reverse (by simpa using hi), List.length_map, List.getElem?_map, List.getElem?_eq_getElem hj] at hx
        exact (Option.some.inj hx).symm
      subst ex
      have ed : rs.drop (rs.length - (i + 1)) = rs[rs.length - 1 - i] :: rs.drop (rs.length - i) := by
        have e1 : rs.length - (i + 1) = rs.length - 1 - i := by omega
        have e2 : rs.length - 1 - i + 1 = rs.length - i := by omega
        rw [e1, List.drop_eq_getElem_cons hj, e2]
      refine ⟨_, rfl, _, rfl, _, _, rfl, rfl, _, rfl, _, rfl, _, _, rfl, rfl, (by show (0 : Int) ≤ (look : Int); omega), _, _, rfl, rfl, _, _, rfl, rfl, ?_⟩
      refine ⟨some (.int rs[rs.length - 1 - i]), ?_, sm, h⟩
      rw [ed]
      generalize rs[rs.length - 1 - i] = rw0
      show _ = [some (V.ref a), some (V.int (look : Nat)), some (V.int ((2 * toldN look (rs.drop (rs.length - i)) + (if ibit rw0 look then 1 else 0) : Nat) : Int)), some (V.int rw0)]
      generalize toldN look (rs.drop (rs.length - i)) = t
      show [some (V.ref a), some (V.int (look : Nat)), some (V.int ((t : Int) + (t : Int) + Builtin.bitAnd (rw0 / 2 ^ (look : Int).toNat) 1)), some (V.int rw0)] = _
      rw [Int.toNat_natCast, bit_of]
      have e3 : (t : Int) + (t : Int) + (if ibit rw0 look then 1 else 0) = ((2 * t + (if ibit rw0 look then 1 else 0) : Nat) : Int) := by
        split <;> omega
      rw [e3]
    · rintro σ H2 ⟨y3, rfl, sm, h⟩
      refine ⟨_, rfl, ?_⟩
      have e : rs.drop (rs.length - ((rs.map V.int).reverse).length) = rs := by simp
      rw [e]
      exact q H2 sm
end
end TX
namespace TX
open PySem PySem.Spec PyProof.Rows L2
/-- the number of a leaf's look -/
def leafN : PyData → Option Nat
  | .none => some 0
  | .str z => if isT (.str z) = true then some (min z.length 4 + 1) else none
  | _ => none
def optV : Option Nat → V
  | none => .non
  | some n => .int (n : Nat)
def spLeafN (K : PySem.W.Frag) : Sp := fun vs H Q _ => ∃ (v : V) (d : PyData) (Hv : Hp), vs = [v] ∧ Same Hv H ∧ Dp K Hv v d ∧ sz d ≤ 100000 ∧ Q (optV (leafN d)) H
section
variable {P : Program} {w : World} {K : PySem.W.Frag} {mg : Str → Option Value} {base : Heap}
theorem scLeafN : FnScope ["thing"] ["thing"] (defScope s_leaf_number) := ⟨rfl, rfl, rfl, by decide +kernel, rfl, by decide +kernel, by decide +kernel⟩
theorem ok_leafN {f : Addr} {fd : FuncData} {tA t2 : Tok} (F : Fun K "leaf_number" "leaf_number" s_leaf_number f fd) (T : Nm mg) (k : Nk mg) (B : Nb mg) (gA : mg "ALPHABET" = some (.str alphaS tA)) (gL : mg "LONG" = some (.int 4 t2)) : FnOk P w K mg base CX0 1 f fd ["thing"] (spLeafN K) := by
  refine F.ok scLeafN (fun vs H Q E h => ?_) (fun cdv A outer s H vs Q E hr h => ?_)
  · obtain ⟨v, d, Hv, rfl, _⟩ := h
    rfl
  · obtain ⟨v, d, Hv, rfl, sv, hd, hz, q⟩ := h
    refine ⟨_, pss_cons (ps_if (pt_cmp (pc_isN (pv 0))) (pss_one (ps_ret pe_int)) pss_nil) <|
      pss_cons (ps_if (PW.pt (pw_and (pt_val (pe_callB call_isi (by rfl) T.isi (by decide +kernel) (pa_cons (pv 0) (pa_cons (pe_bltn (v := .ty "str") (by rfl) k.str (by decide +kernel) rfl) pa_nil))))
        (pw_and1 (pt_not (pt_truth (pe_bm PySem.F.plainAttrs_str PySem.F.slot_str_strip PySem.F.type_str_strip mt_stripChars (pv 0) (pa_cons (pe_glob (v := .str alphaS) (by rfl) gA ⟨_, rfl⟩) pa_nil)) (fun _ => rfl))))))
        (pss_one (ps_ret (pe_ifExp (pt_cmpR op_lt (pe_callB call_len_str (by rfl) B.len PySem.boot_len (pa_cons (pv 0) pa_nil)) (pe_glob (v := .int 4) (by rfl) gL ⟨_, rfl⟩) (nomark _))
          (pe_op op_add (pe_callB call_len_str (by rfl) B.len PySem.boot_len (pa_cons (pv 0) pa_nil)) pe_int) (pe_op op_add (pe_glob (v := .int 4) (by rfl) gL ⟨_, rfl⟩) pe_int)))) pss_nil) <|
      pss_one (ps_ret pe_non), ?_⟩
    have ty := dp_ty (dp_same sv _ _ hd)
    have is : ∀ b, (tyD d == "str") = b → PySem.W.kitOne K (.type (tyD d)) (.type "str") = some b := fun b e => e ▸ kitS d K
    by_cases hn : d = .none
    · subst hn
      cases hd
      exact ⟨_, rfl, _, rfl, iteT q⟩
    have hv : v ≠ .non := by
      intro e
      subst e
      cases hd
      exact hn rfl
    refine ⟨_, rfl, _, rfl, ?_⟩
    have hvn : decide (v = .non) = false := decide_eq_false hv
    by_cases e : (tyD d == "str") = true
    · cases hd with
      | str x =>
        refine iteF ⟨_, rfl, .str x, .ty "str", _, .type "str", true, rfl, .ty _, ty, is _ rfl, _, rfl, iteT ?_⟩
        have hx : x.length ≤ 100000 := by
          simp only [sz] at hz
          omega
        have hs := strip_len x
        have fx : x.length ≤ sizeLine := Nat.le_trans hx (by decide)
        refine ⟨_, rfl, rfl, x, alphaS, rfl, rfl, fx, !ltB x, ⟨?_, ?_⟩, ?_⟩
        · exact Nat.le_trans (fits_any x) fx
        · rw [← hs]
          cases e2 : (Txt.stripChars x alphaS).length == 0 with
          | true =>
            have := eq_of_beq e2
            rw [this]
            rfl
          | false =>
            have h0 := beq_eq_false_iff_ne.mp e2
            exact (bne_iff_ne.mpr (by omega)).symm
        · show if (!(!ltB x)) = true then _ else _
          rw [Bool.not_not]
          by_cases hl : ltB x = true
          · have el : leafN (.str x) = some (min x.length 4 + 1) := by
              show (if ltB x = true then some (min x.length 4 + 1) else none) = _
              rw [hl]
              rfl
            rw [el] at q
            rw [hl]
            refine iteT ⟨_, rfl, x, rfl, fx, _, _, rfl, rfl, _, rfl, ?_⟩
            refine ite2 (fun h4 => ?_) (fun h4 => ?_)
            · have h4' : (x.length : Int) < 4 := of_decide_eq_true h4
              refine ⟨_, rfl, x, rfl, fx, _, _, rfl, rfl, ?_⟩
              have em : ((min x.length 4 + 1 : Nat) : Int) = (x.length : Int) + 1 := by omega
              show Q (.int ((x.length : Int) + 1)) H
              rw [← em]
              exact q
            · have h4' : ¬ (x.length : Int) < 4 := fun z => h4 (decide_eq_true z)
              refine ⟨_, _, rfl, rfl, ?_⟩
              have em : ((min x.length 4 + 1 : Nat) : Int) = 4 + 1 := by omega
              show Q (.int (4 + 1)) H
              rw [← em]
              exact q
          · have hl2 : ltB x = false := by simpa using hl
            have el : leafN (.str x) = none := by
              show (if ltB x = true then some (min x.length 4 + 1) else none) = _
              rw [hl2]
              rfl
            rw [el] at q
            rw [hl2]
            exact iteF q
      | _ => simp [tyD] at e
    · have e2 : (tyD d == "str") = false := by simpa using e
      have el : leafN d = none := by
        cases d with
        | none => exact absurd rfl hn
        | str x => simp [tyD] at e2
        | _ => rfl
      rw [el] at q
      rw [hvn]
      refine iteF ⟨_, rfl, v, .ty "str", _, .type "str", false, rfl, .ty _, ty, is _ e2, _, rfl, iteF ?_⟩
      exact iteF q
end
end TX
namespace TX
open PySem PySem.Spec PyProof.Rows L2
/-! ### what is told of a value, by the rows of the steps that items are asked for -/
def shN (ts : List Nat) : Nat := ts.foldl (fun a t => a &&& t) 255
mutual
def toldD (ar : List Int) (lv : List Nat) : PyData → Nat
  | .list es => toldN (shN (toldAllD ar lv es)) ar
  | .none => lv.getD 0 0
  | .str z => lv.getD (min z.length 4 + 1) 0
  | _ => 0
def toldAllD (ar : List Int) (lv : List Nat) : List PyData → List Nat
  | [] => []
  | d :: ds => toldD ar lv d :: toldAllD ar lv ds
end
theorem told_map (ar : List Int) (lv : List Nat) : ∀ ds : List PyData, toldAllD ar lv ds = ds.map (toldD ar lv)
  | [] => rfl
  | d :: ds => by rw [toldAllD, told_map ar lv ds, List.map_cons]
theorem sh_from : ∀ (ts : List Nat) (a : Nat), (∀ k, (ts.foldl (fun a t => a &&& t) a).testBit k = (a.testBit k && ts.all fun t => t.testBit k)) ∧ ts.foldl (fun a t => a &&& t) a ≤ a
  | [], a => ⟨fun k => by simp, Nat.le_refl _⟩
  | t :: ts, a => by
    obtain ⟨h1, h2⟩ := sh_from ts (a &&& t)
    refine ⟨fun k => ?_, Nat.le_trans h2 Nat.and_le_left⟩
    rw [List.foldl_cons, h1 k, Nat.testBit_and, List.all_cons, Bool.and_assoc]
theorem sh_bit (ts : List Nat) {k : Nat} (hk : k < 8) : (shN ts).testBit k = ts.all fun t => t.testBit k := by
  unfold shN
  rw [(sh_from ts 255).1 k]
  have e : (255 : Nat).testBit k = true := by
    rw [show (255 : Nat) = 2 ^ 8 - 1 by decide, Nat.testBit_two_pow_sub_one]
    exact decide_eq_true hk
  rw [e, Bool.true_and]
theorem sh_lt (ts : List Nat) : shN ts < 256 := Nat.lt_of_le_of_lt (sh_from ts 255).2 (by decide)
/-- the rows of the steps that items are asked for, and what they say of the leaves -/
structure Asked (ps : List (PyData → Bool)) (ar : List Int) (lv : List Nat) : Prop where
  len : ar.length = ps.length
  few : ps.length ≤ 8
  row : ∀ (k : Nat) (r : Int) (p : PyData → Bool), ar[k]? = some r → ps[k]? = some p → RowOk ps r p
  leaf : ∀ n, n < 6 → lv.getD n 0 = toldN (256 + n) ar
theorem Asked.bit {ps : List (PyData → Bool)} {ar : List Int} {lv : List Nat} (A : Asked ps ar lv) {k v : Nat} {p : PyData → Bool} {d : PyData} (hk : ps[k]? = some p) (l : LookOf ps d v) : (toldN v ar).testBit k = p d := by
  have hk2 : k < ar.length := by
    rw [A.len]
    exact (List.getElem?_eq_some_iff.mp hk).1
  have e := List.getElem?_eq_getElem hk2
  rw [told_bit e]
  exact (A.row k _ p e hk).2.2 d v l
mutual
theorem Asked.told {ps : List (PyData → Bool)} {ar : List Int} {lv : List Nat} (A : Asked ps ar lv) : ∀ d : PyData, valD d → ∀ (k : Nat) (p : PyData → Bool), ps[k]? = some p → (toldD ar lv d).testBit k = p d
  | .none, _, k, p, hk => by
    simp only [toldD]
    rw [A.leaf 0 (by decide)]
    exact A.bit (d := .none) hk rfl
  | .str z, _, k, p, hk => by
    simp only [toldD]
    rw [A.leaf (min z.length 4 + 1) (by omega)]
    refine A.bit (d := .str z) hk ?_
    show 256 + (min z.length 4 + 1) = 257 + min z.length 4
    omega
  | .list es, h, k, p, hk => by
    simp only [toldD]
    exact A.bit (d := .list es) hk (Asked.look A es h)
  | .bool _, h, _, _, _ => h.elim
  | .int _, h, _, _, _ => h.elim
  | .tuple _, h, _, _, _ => h.elim
  | .dict _, h, _, _, _ => h.elim
theorem Asked.look {ps : List (PyData → Bool)} {ar : List Int} {lv : List Nat} (A : Asked ps ar lv) : ∀ es : List PyData, valAll es → LookOf ps (.list es) (shN (toldAllD ar lv es))
  | es, h => by
    refine ⟨sh_lt _, fun k p hk => ?_⟩
    have k8 : k < 8 := Nat.lt_of_lt_of_le (List.getElem?_eq_some_iff.mp hk).1 A.few
    rw [sh_bit _ k8, Asked.toldAll A es h k p hk]
theorem Asked.toldAll {ps : List (PyData → Bool)} {ar : List Int} {lv : List Nat} (A : Asked ps ar lv) : ∀ es : List PyData, valAll es → ∀ (k : Nat) (p : PyData → Bool), ps[k]? = some p → ((toldAllD ar lv es).all fun t => t.testBit k) = es.all p
  | [], _, _, _, _ => rfl
  | d :: ds, h, k, p, hk => by
    simp only [toldAllD, List.all_cons]
    rw [Asked.told A d h.1 k p hk, Asked.toldAll A ds h.2 k p hk]
end
end TX
namespace TX
open PySem PySem.Spec PyProof.Rows L2
/-! ### list_look -/
mutual
def bdD : PyData → Prop
  | .str z => z.length ≤ 90000
  | .list es => bdAll es
  | .tuple es => bdAll es
  | .dict _ => False
  | _ => True
def bdAll : List PyData → Prop
  | [] => True
  | d :: ds => bdD d ∧ bdAll ds
end
theorem bdAll_append : ∀ (a b : List PyData), bdAll (a ++ b) ↔ bdAll a ∧ bdAll b
  | [], b => by simp [bdAll]
  | d :: a, b => by
    simp only [List.cons_append, bdAll, bdAll_append a b]
    exact ⟨fun ⟨x, y, z⟩ => ⟨⟨x, y⟩, z⟩, fun ⟨⟨x, y⟩, z⟩ => ⟨x, y, z⟩⟩
theorem path_bd {K : PySem.W.Frag} {Hv : Hp} {S0 : List V × List PyData} (h0 : bdAll S0.2) : ∀ {rs : List V} {S : List V × List PyData}, Path K Hv S0 rs S → bdAll S.2
  | _, _, .nil => h0
  | _, _, .cons hP hs => by
    have a := path_bd h0 hP
    cases hs with
    | leaf h e => exact a.2
    | lst h g => exact (bdAll_append _ _).mpr ⟨a.1, a.2⟩
    | tup h g => exact (bdAll_append _ _).mpr ⟨a.1, a.2⟩
theorem path_ok {K : PySem.W.Frag} {Hv : Hp} {S0 : List V × List PyData} (h0 : valAll S0.2) : ∀ {rs : List V} {S : List V × List PyData}, Path K Hv S0 rs S → valAll S.2
  | _, _, .nil => h0
  | _, _, .cons hP hs => by
    have a := path_ok h0 hP
    cases hs with
    | leaf h e => exact a.2
    | lst h g => exact (valAll_append _ _).mpr ⟨a.1, a.2⟩
    | tup h g => exact a.1.elim
theorem toldAll_append (ar : List Int) (lv : List Nat) (a b : List PyData) : toldAllD ar lv (a ++ b) = toldAllD ar lv a ++ toldAllD ar lv b := by
  rw [told_map, told_map, told_map, List.map_append]
theorem lt_ltB {y : Str} (h : Lt y) : ltB y = true := by
  unfold ltB
  rw [List.all_eq_true]
  intro c hc
  have := h c hc
  unfold ltC
  simp
  omega
theorem ltB_lt {y : Str} (h : ltB y = true) : Lt y := by
  unfold ltB at h
  intro c hc
  have := List.all_eq_true.mp h c hc
  unfold ltC at this
  simp at this
  omega
theorem leaf_told {ar : List Int} {lv : List Nat} : ∀ {d : PyData} {n : Nat}, leafN d = some n → valD d ∧ n < 6 ∧ toldD ar lv d = lv.getD n 0
  | .none, n, h => by
    have e : 0 = n := by simpa [leafN] using h
    subst e
    exact ⟨trivial, by decide, rfl⟩
  | .str y, n, h => by
    have h' : (if ltB y = true then some (min y.length 4 + 1) else none) = some n := h
    by_cases hl : ltB y = true
    · rw [hl] at h'
      have e : min y.length 4 + 1 = n := by simpa using h'
      subst e
      exact ⟨ltB_lt hl, by omega, rfl⟩
    · rw [if_neg hl] at h'
      cases h'
  | .list _, _, h => nomatch h
  | .bool _, _, h => nomatch h
  | .int _, _, h => nomatch h
  | .tuple _, _, h => nomatch h
  | .dict _, _, h => nomatch h
def SeqOr (K : PySem.W.Frag) (H : Hp) (a : Addr) (xs : List V) : Prop := SqL K H a xs ∨ SqT K H a xs
def spLook (K : PySem.W.Frag) : Sp := fun vs H Q _ => ∃ (aR aL : Addr) (ar : List Int) (lv : List Nat) (v : V) (d : PyData) (Hv : Hp), vs = [.ref aR, .ref aL, v] ∧ (SqL K Hv aR (ar.map V.int) ∨ SqT K Hv aR [] ∧ ar = []) ∧ SeqOr K Hv aL (lv.map fun (n : Nat) => V.int n) ∧ lv.length = 6 ∧ Same Hv H ∧ Dp K Hv v d ∧ bdD d ∧ nd d ≤ 50000 ∧ (∃ es, d = .list es) ∧
  (valD d → ∀ es, d = .list es → ∀ H', Same H H' → Q (.int (shN (toldAllD ar lv es) : Nat)) H') ∧ (¬ valD d → ∀ H', Same H H' → Q .non H')
section
variable {P : Program} {w : World} {K : PySem.W.Frag} {mg : Str → Option Value} {base : Heap}
theorem scLook : FnScope ["asked_rows", "leaves", "value", "done", "shared", "part", "_", "number"] ["asked_rows", "leaves", "value"] (defScope s_list_look) := ⟨rfl, rfl, rfl, by decide +kernel, rfl, by decide +kernel, by decide +kernel⟩
theorem ok_look {f fP fT fN : Addr} {fd dP dT dN : FuncData} {t1 : Tok} (F : Fun K "list_look" "list_look" s_list_look f fd) (T : Nm mg) (gE : mg "EVERY_STEP" = some (.int 255 t1)) (GP : FnOk P w K mg base CX0 1 fP dP ["thing"] (spParts K)) (gP : mg "all_parts" = some (.ref fP)) (kP : PySem.W.keepIn K (.ref fP) = true) (bP : Binds K dP ["thing"] [])
    (GT : FnOk P w K mg base CX0 1 fT dT ["rows", "look"] (spToldN K)) (gT : mg "told_by" = some (.ref fT)) (kT : PySem.W.keepIn K (.ref fT) = true) (bT : Binds K dT ["rows", "look"] [])
    (GN : FnOk P w K mg base CX0 1 fN dN ["thing"] (spLeafN K)) (gN : mg "leaf_number" = some (.ref fN)) (kN : PySem.W.keepIn K (.ref fN) = true) (bN : Binds K dN ["thing"] []) : FnOk P w K mg base CX0 2 f fd ["asked_rows", "leaves", "value"] (spLook K) := by
  refine F.ok scLook (fun vs H Q E h => ?_) (fun cdv A outer s H vs Q E hr h => ?_)
  · obtain ⟨aR, aL, ar, lv, v, d, Hv, rfl, _⟩ := h
    rfl
  · obtain ⟨aR, aL, ar, lv, v, d, Hv, rfl, hR, hL, hl6, sv, hd, hb, hn, hlst, q1, q2⟩ := h
    refine ⟨_, pss_cons (ps_set (i := 3) scLook.nd rfl (.inl rfl) (pe_lst pa_nil)) <|
      pss_cons (ps_set (i := 4) scLook.nd rfl (.inl rfl) (pe_glob (v := .int 255) (by rfl) gE ⟨_, rfl⟩)) <|
      pss_cons (ps_for PassesOwn.never rfl (pi_list (pe_revL (pe_call GP hr (by rfl) gP kP bP .nil pass0 (pa_cons (pv 2) pa_nil)))) (pg_name (i := 5) scLook.nd rfl (.inl rfl)) (
        pss_one (ps_if (pt_val (pe_callB call_isi (by rfl) T.isi (by decide +kernel) (pa_cons (pv 5) (pa_cons (pe_bltn (v := .ty "list") (by rfl) T.lst (by decide +kernel) rfl) pa_nil))))
          (pss_cons (ps_set (i := 4) scLook.nd rfl (.inl rfl) (pe_glob (v := .int 255) (by rfl) gE ⟨_, rfl⟩)) <|
           pss_cons (ps_for PassesOwn.never rfl (pi_list (pv 5)) (pg_name (i := 6) scLook.nd rfl (.inl rfl)) (
             pss_one (ps_set (i := 4) scLook.nd rfl (.inl rfl) (pe_op op_and (pv 4) (pe_bm0 PySem.F.plainAttrs_list PySem.F.slot_list_pop PySem.F.type_list_pop mt_pop (pv 3)))))) <|
           pss_one (ps_expr (pe_bm PySem.F.plainAttrs_list PySem.F.slot_list_append PySem.F.type_list_append mt_append (pv 3) (pa_cons (pe_call GT hr (by rfl) gT kT bT .nil pass0 (pa_cons (pv 0) (pa_cons (pv 4) pa_nil))) pa_nil))))
          (pss_cons (ps_set (i := 7) scLook.nd rfl (.inl rfl) (pe_call GN hr (by rfl) gN kN bN .nil pass0 (pa_cons (pv 5) pa_nil))) <|
           pss_cons (ps_if (pt_cmp (pc_isN (pv 7))) (pss_one (ps_ret pe_non)) pss_nil) <|
           pss_one (ps_expr (pe_bm PySem.F.plainAttrs_list PySem.F.slot_list_append PySem.F.type_list_append mt_append (pv 3) (pa_cons (pe_alt (pe_ix ix_list (pv 1) (pv 7) (fun _ _ => rfl)) (pe_ix ix_tup (pv 1) (pv 7) (fun _ _ => rfl))) pa_nil))))))) <|
      pss_one (ps_ret (pv 4)), ?_⟩
    refine ⟨by decide, fun da nda => ?_⟩
    refine ⟨_, rfl, v, d, Hv, rfl, sv.trans (same_upd nda), hd, by omega, fun H1 p rs sm1 np hp hP hlen => ?_⟩
    have hda1 : H1 da = some (.lst []) := sm1 _ _ upd_same
    refine ⟨p, _, rfl, SqL.of hp, fun r nr => ?_⟩
    rw [List.reverse_reverse]
    have rda : da ≠ r := ne_of_none hda1 nr
    have s0 : Same H (upd H1 r (.lst rs)) := ((same_upd nda).trans sm1).trans (same_upd nr)
    have nda0 : H da = none := nda
    refine ⟨r, rfl, ⟨_, SqL.of upd_same⟩, for_list (K := K) (a := r) (xs := rs) (fun i σ H2 => ∃ (S : List V × List PyData) (sh : Nat) (y5 y6 y7 : Option V), σ = [some (.ref aR), some (.ref aL), some v, some (.ref da), some (.int (sh : Nat)), y5, y6, y7] ∧ Same H H2 ∧ H2 r = some (.lst rs) ∧
      Path K Hv ([v], [d]) (rs.drop i) S ∧ H2 da = some (.lst ((toldAllD ar lv S.2).map fun (n : Nat) => V.int n).reverse) ∧ valAll S.2 ∧ ∀ es tl, S.2 = .list es :: tl → sh = shN (toldAllD ar lv es)) ?_ ?_ ?_ ?_⟩
    · exact ⟨([], []), 255, none, none, none, rfl, s0, upd_same, hP, by rw [upd_ne rda]; exact hda1, trivial, fun es tl z => nomatch z⟩
    · rintro i σ H2 hi ⟨S, sh, y5, y6, y7, rfl, _, g, _⟩
      exact SqL.of g
    · rintro i x σ H2 hx ⟨S, sh, y5, y6, y7, rfl, sm, hrs, hPi, hda, hva, hsh⟩
      have edrop : rs.drop i = x :: rs.drop (i + 1) := by
        obtain ⟨hj, e⟩ := List.getElem?_eq_some_iff.mp hx
        rw [List.drop_eq_getElem_cons hj, e]
      rw [edrop] at hPi
      cases hPi with
      | @cons _ S1 _ _ hP1 hst =>
      have bd1 := path_bd (S0 := ([v], [d])) ⟨hb, trivial⟩ hP1
      have pc := path_count hP1
      simp only [ndAll] at pc
      have vd1 : valD d → valAll S1.2 := fun z => path_ok (S0 := ([v], [d])) ⟨z, trivial⟩ hP1
      cases hst with
      | @leaf v0 d0 r1 rd1 h e =>
        refine ⟨_, rfl, x, .ty "list", .type (tyD d0), .type "list", _, rfl, .ty _, dp_ty (dp_same (sv.trans sm) _ _ h), kitL d0 K, _, rfl, ?_⟩
        rw [(Bool.or_eq_false_iff.mp e).1]
        refine iteF ⟨_, rfl, x, d0, Hv, rfl, sv.trans sm, h, ?_, ?_⟩
        · have b0 := bd1.1
          cases d0 <;> simp [sz, bdD, tyD] at b0 e ⊢ <;> omega
        · cases hlf : leafN d0 with
          | none =>
            refine ⟨_, rfl, _, rfl, iteT (q2 (fun z => ?_) H2 sm)⟩
            have vz := (vd1 z).1
            cases d0 with
            | none => simp [leafN] at hlf
            | str y =>
              have hl : ltB y = true := lt_ltB vz
              have e3 : leafN (.str y) = some (min y.length 4 + 1) := by
                show (if ltB y = true then some (min y.length 4 + 1) else none) = _
                rw [hl]
                rfl
              rw [e3] at hlf
              cases hlf
            | list es => simp [tyD] at e
            | _ => exact vz
          | some n =>
            obtain ⟨vz, n6, et⟩ := leaf_told (ar := ar) (lv := lv) hlf
            have hnl : n < lv.length := by omega
            have gv : lv.getD n 0 = lv[n] := by
              rw [List.getD_eq_getElem?_getD, List.getElem?_eq_getElem hnl]
              rfl
            have lrd : r1.length = rd1.length ∨ True := .inr trivial
            have done : ∃ l ys y, V.ref da = .ref l ∧ ([V.int (lv[n] : Nat)] : List V) = [y] ∧ H2 l = some (.lst ys) ∧ ys.length < sizeLine ∧ ∃ (S : List V × List PyData) (sh2 : Nat) (z5 z6 z7 : Option V), ([some (.ref aR), some (.ref aL), some v, some (.ref da), some (.int (sh : Nat)), some x, y6, some (.int (n : Nat))] : L2.St) = [some (.ref aR), some (.ref aL), some v, some (.ref da), some (.int (sh2 : Nat)), z5, z6, z7] ∧ Same H (upd H2 l (.lst (ys ++ [y]))) ∧ (upd H2 l (.lst (ys ++ [y]))) r = some (.lst rs) ∧
                Path K Hv ([v], [d]) (rs.drop (i + 1)) S ∧ (upd H2 l (.lst (ys ++ [y]))) da = some (.lst ((toldAllD ar lv S.2).map fun (n : Nat) => V.int n).reverse) ∧ valAll S.2 ∧ ∀ es tl, S.2 = .list es :: tl → sh2 = shN (toldAllD ar lv es) := by
              refine ⟨da, _, _, rfl, rfl, hda, ?_, _, sh, _, _, _, rfl, same_fresh nda0 sm, by rw [upd_ne rda.symm]; exact hrs, hP1, ?_, ⟨vz, hva⟩, ?_⟩
              · rw [List.length_reverse, List.length_map, told_map, List.length_map]
                exact Nat.lt_of_le_of_lt (show rd1.length ≤ 50000 by have := ndAll_len rd1; simp only [ndAll] at pc; omega) (by decide)
              · rw [upd_same]
                simp only [toldAllD, List.map_cons, List.reverse_cons, et, gv]
              · intro es tl z
                cases z
                simp [tyD] at e
            refine ⟨_, rfl, _, rfl, iteF ⟨_, rfl, .inl ⟨rfl, _, SqL.of hda⟩, ?_⟩⟩
            rcases hL with hL | hL
            · exact .inl ⟨_, rfl, _, rfl, aL, _, n, _, rfl, rfl, (sv.trans sm).seq hL, atI_nat (by rw [List.getElem?_map, List.getElem?_eq_getElem hnl]; rfl), done⟩
            · exact .inr ⟨_, rfl, _, rfl, aL, _, n, _, rfl, rfl, same_sqt (sv.trans sm) hL, atI_nat (by rw [List.getElem?_map, List.getElem?_eq_getElem hnl]; rfl), done⟩
      | @lst a xs r1 es rd1 g1 g2 =>
        have lxs : xs.length = es.length := DpAll.length g2
        obtain ⟨c1, ec1⟩ : ∃ c1, c1 = toldAllD ar lv es := ⟨_, rfl⟩
        obtain ⟨c2, ec2⟩ : ∃ c2, c2 = toldAllD ar lv rd1 := ⟨_, rfl⟩
        have hda' : H2 da = some (.lst (((c1 ++ c2).map fun (n : Nat) => V.int n).reverse)) := by
          rw [hda, ec1, ec2, toldAll_append]
        have lc1 : c1.length = xs.length := by rw [ec1, told_map, List.length_map, lxs]
        have lc2 : c2.length ≤ 50000 := by
          rw [ec2, told_map, List.length_map]
          have := ndAll_len rd1
          simp only [ndAll] at pc
          omega
        refine ⟨_, rfl, .ref a, .ty "list", .type "list", .type "list", _, rfl, .ty _, dp_ty (d := .list es) (.lst ((sv.trans sm).seq g1) (dpAll_same (sv.trans sm) _ _ g2)), kitL (.list es) K, _, rfl, iteT ?_⟩
        refine ⟨_, rfl, a, rfl, ⟨_, (sv.trans sm).seq g1⟩, for_list (K := K) (a := a) (xs := xs) (fun j σ H4 => ∃ z6, σ = [some (.ref aR), some (.ref aL), some v, some (.ref da), some (.int (((c1.take j).foldl (fun a t => a &&& t) 255 : Nat) : Int)), some (.ref a), z6, y7] ∧
          H4 da = some (.lst (((c1.drop j ++ c2).map fun (n : Nat) => V.int n).reverse)) ∧ ∀ b o, b ≠ da → H2 b = some o → H4 b = some o) ⟨_, rfl, hda', fun b o _ e => e⟩ ?_ ?_ ?_⟩
        · rintro j σ H4 hj ⟨z6, rfl, k1, kp⟩
          exact Same.seq (fun b o e => kp b o (ne_of_none e nda0) (sm b o e)) (sv.seq g1)
        · rintro j y σ H4 hy ⟨z6, rfl, k1, kp⟩
          have hjl : j < c1.length := by
            have := (List.getElem?_eq_some_iff.mp hy).1
            omega
          have ek : ((c1.drop j ++ c2).map fun (n : Nat) => V.int n).reverse = ((c1.drop (j + 1) ++ c2).map fun (n : Nat) => V.int n).reverse ++ [V.int (c1[j] : Nat)] := by
            rw [List.drop_eq_getElem_cons hjl, List.cons_append, List.map_cons, List.reverse_cons]
          rw [ek] at k1
          refine ⟨_, rfl, .ref da, rfl, .inl ⟨rfl, _, SqL.of k1⟩, da, _, V.int (c1[j] : Nat), rfl, rfl, k1, by simp, _, _, rfl, rfl, ?_⟩
          rw [List.dropLast_concat]
          refine ⟨some y, ?_, upd_same, fun b o hb e => by rw [upd_ne hb]; exact kp b o hb e⟩
          rw [List.take_add_one, List.getElem?_eq_getElem hjl]
          show [some (.ref aR), some (.ref aL), some v, some (.ref da), some (.int (Builtin.bitAnd (((c1.take j).foldl (fun a t => a &&& t) 255 : Nat) : Int) (c1[j] : Nat))), some (.ref a), some y, y7] = _
          rw [and_nat, List.foldl_append]
          rfl
        · rintro σ H4 ⟨z6, rfl, k1, kp⟩
          have ej : c1.take xs.length = c1 := by rw [← lc1, List.take_length]
          have ed : c1.drop xs.length = [] := by rw [← lc1, List.drop_length]
          rw [ed, List.nil_append] at k1
          have sm4 : Same H H4 := fun b o e => kp b o (ne_of_none e nda0) (sm b o e)
          have ea : (c1.take xs.length).foldl (fun a t => a &&& t) 255 = shN c1 := by
            rw [ej]
            rfl
          rw [ea]
          have hR4 : SqL K H4 aR (ar.map V.int) ∨ SqT K H4 aR [] ∧ ar = [] := hR.imp (fun z => (sv.trans sm4).seq z) fun z => ⟨same_sqt (sv.trans sm4) z.1, z.2⟩
          refine ⟨_, rfl, .inl ⟨rfl, _, SqL.of k1⟩, _, rfl, _, rfl, aR, ar, shN c1, rfl, hR4, fun H5 s5 => ⟨da, _, _, rfl, rfl, s5 _ _ k1, ?_, (.ref a :: r1, .list es :: rd1), shN c1, _, _, _, rfl, same_fresh nda0 (sm4.trans s5), ?_, hP1, ?_, ?_, ?_⟩⟩
          · rw [List.length_reverse, List.length_map]
            exact Nat.lt_of_le_of_lt lc2 (by decide)
          · rw [upd_ne rda.symm]
            exact s5 _ _ (kp r _ rda.symm hrs)
          · rw [upd_same, ec1, ec2]
            simp only [toldAllD, toldD, List.map_cons, List.reverse_cons]
          · exact ⟨((valAll_append _ _).mp hva).1, ((valAll_append _ _).mp hva).2⟩
          · intro es2 tl z
            cases z
            rw [ec1]
      | @tup a xs r1 es rd1 g1 g2 =>
        refine ⟨_, rfl, .ref a, .ty "list", .type "tuple", .type "list", _, rfl, .ty _, dp_ty (d := .tuple es) (dp_same (sv.trans sm) _ _ (.tup g1 g2)), kitL (.tuple es) K, _, rfl, iteF ⟨_, rfl, .ref a, .tuple es, Hv, rfl, sv.trans sm, .tup g1 g2, ?_, ?_⟩⟩
        · simp [sz]
        · exact ⟨_, rfl, _, rfl, iteT (q2 (fun z => (vd1 z).1) H2 sm)⟩
    · rintro σ H2 ⟨S, sh, y5, y6, y7, rfl, sm, hrs, hPi, hda, hva, hsh⟩
      rw [List.drop_length] at hPi
      cases hPi
      obtain ⟨es, rfl⟩ := hlst
      refine ⟨_, rfl, ?_⟩
      rw [hsh es [] rfl]
      exact q1 hva.1 es rfl H2 sm
end
end TX
namespace TX
open PySem PySem.Spec PyProof.Rows L2
/-! ### is_member -/
/-- a plan: the last row is that of p; ps are the steps that items are asked for -/
structure PlanAt (K : PySem.W.Frag) (H : Hp) (pl : Addr) (ps : List (PyData → Bool)) (p : PyData → Bool) (aW : Addr) (u : V) (aR aL : Addr) (ws ar : List Int) (lv : List Nat) (row : Int) : Prop where
  at_ : SqT K H pl [.ref aW, u, .ref aR, .ref aL]
  rows : SqL K H aW (ws.map V.int)
  last : ws.getLast? = some row
  row : RowOk ps row p
  asked : SqL K H aR (ar.map V.int) ∨ SqT K H aR [] ∧ ar = []
  leaves : SeqOr K H aL (lv.map fun (n : Nat) => V.int n)
  six : lv.length = 6
  ok : Asked ps ar lv
def leavesL : List V := [.int 256, .int 257, .int 258, .int 259, .int 260, .int 261]
def spMember (K : PySem.W.Frag) (aV : Addr) : Sp := fun vs H Q _ => ∃ (pl aW : Addr) (u : V) (aR aL : Addr) (ps : List (PyData → Bool)) (p : PyData → Bool) (ws ar : List Int) (lv : List Nat) (row : Int) (v : V) (d : PyData) (Hv : Hp), vs = [.ref pl, v] ∧ PlanAt K Hv pl ps p aW u aR aL ws ar lv row ∧ SqT K Hv aV leavesL ∧ Same Hv H ∧ Dp K Hv v d ∧ bdD d ∧ nd d ≤ 50000 ∧
  (valD d → ∀ H', Same H H' → Q (.bl (p d)) H') ∧ (¬ valD d → ∀ H', Same H H' → Q (.bl false) H')
theorem bit_one (b : Bool) : decide (V.int (if b = true then 1 else 0) = V.int 1) = b := by
  cases b <;> decide
section
variable {P : Program} {w : World} {K : PySem.W.Frag} {mg : Str → Option Value} {base : Heap}
theorem scMember : FnScope ["plan", "thing", "rows", "_", "asked_rows", "leaves", "look", "number"] ["plan", "thing"] (defScope s_is_member) := ⟨rfl, rfl, rfl, by decide +kernel, rfl, by decide +kernel, by decide +kernel⟩
theorem ok_member {f fL fN aV : Addr} {fd dL dN : FuncData} (F : Fun K "is_member" "is_member" s_is_member f fd) (T : Nm mg) (gV : mg "LEAVES" = some (.ref aV)) (GL : FnOk P w K mg base CX0 2 fL dL ["asked_rows", "leaves", "value"] (spLook K)) (gL : mg "list_look" = some (.ref fL)) (kL : PySem.W.keepIn K (.ref fL) = true) (bL : Binds K dL ["asked_rows", "leaves", "value"] [])
    (GN : FnOk P w K mg base CX0 1 fN dN ["thing"] (spLeafN K)) (gN : mg "leaf_number" = some (.ref fN)) (kN : PySem.W.keepIn K (.ref fN) = true) (bN : Binds K dN ["thing"] []) : FnOk P w K mg base CX0 3 f fd ["plan", "thing"] (spMember K aV) := by
  refine F.ok scMember (fun vs H Q E h => ?_) (fun cdv A outer s H vs Q E hr h => ?_)
  · obtain ⟨pl, aW, u, aR, aL, ps, p, ws, ar, lv, row, v, d, Hv, rfl, _⟩ := h
    rfl
  · obtain ⟨pl, aW, u, aR, aL, ps, p, ws, ar, lv, row, v, d, Hv, rfl, PA, hV, sv, hd, hb, hn, q1, q2⟩ := h
    have r1 : Room 1 _ := hr.mono (by decide)
    refine ⟨_, pss_cons (ps_asg (pv 0) (pg_tup rfl (pgs_cons (pg_name (i := 2) scMember.nd rfl (.inl rfl)) (pgs_cons (pg_name (i := 3) scMember.nd rfl (.inl rfl)) (pgs_cons (pg_name (i := 4) scMember.nd rfl (.inl rfl)) (pgs_cons (pg_name (i := 5) scMember.nd rfl (.inl rfl)) pgs_nil)))))) <|
      pss_cons (ps_if (pt_val (pe_callB call_isi (by rfl) T.isi (by decide +kernel) (pa_cons (pv 1) (pa_cons (pe_bltn (v := .ty "list") (by rfl) T.lst (by decide +kernel) rfl) pa_nil))))
        (pss_cons (ps_set (i := 6) scMember.nd rfl (.inl rfl) (pe_call GL hr (by rfl) gL kL bL .nil pass0 (pa_cons (pv 4) (pa_cons (pv 5) (pa_cons (pv 1) pa_nil))))) <|
         pss_one (ps_ret (pe_and (pe_cmp (pc_notN (pv 6))) (pe_one (pe_cmpR op_eq (pe_op op_and (pe_op op_shr (pe_ix ix_list (pv 2) (pe_un un_neg pe_int) (fun _ _ => rfl)) (pv 6)) pe_int) pe_int (nomark _)))))) pss_nil) <|
      pss_cons (ps_set (i := 7) scMember.nd rfl (.inl rfl) (pe_call GN r1 (by rfl) gN kN bN .nil pass0 (pa_cons (pv 1) pa_nil))) <|
      pss_one (ps_ret (pe_and (pe_cmp (pc_notN (pv 7))) (pe_one (pe_cmpR op_eq (pe_op op_and (pe_op op_shr (pe_ix ix_list (pv 2) (pe_un un_neg pe_int) (fun _ _ => rfl)) (pe_ix ix_tup (pe_glob (v := .ref aV) (by rfl) gV rfl) (pv 7) (fun _ _ => rfl))) pe_int) pe_int (nomark _))))), ?_⟩
    have hlast : atI (ws.map V.int) (-1) = some (.int row) := by
      obtain ⟨ini, ei⟩ := List.getLast?_eq_some_iff.mp PA.last
      rw [ei, List.map_append]
      exact atI_last _ _
    refine ⟨_, rfl, pl, _, rfl, same_sqt sv PA.at_, rfl, _, _, rfl, _, _, rfl, _, _, rfl, _, _, rfl, rfl, ?_⟩
    refine ⟨_, rfl, v, .ty "list", .type (tyD d), .type "list", _, rfl, .ty _, dp_ty (dp_same sv _ _ hd), kitL d K, _, rfl, ?_⟩
    by_cases hl : (tyD d == "list") = true
    · rw [hl]
      refine iteT ?_
      obtain ⟨es, rfl⟩ : ∃ es, d = .list es := by
        cases d with
        | list es => exact ⟨es, rfl⟩
        | _ => simp [tyD] at hl
      refine ⟨_, rfl, _, rfl, _, rfl, aR, aL, ar, lv, v, .list es, Hv, rfl, PA.asked, PA.leaves, PA.six, sv, hd, hb, hn, ⟨es, rfl⟩, fun vd es2 e2 H' s' => ?_, fun nv H' s' => ?_⟩
      · cases e2
        have hlk := Asked.look PA.ok es vd
        have hbit := PA.row.2.2 (.list es) _ hlk
        refine ⟨_, rfl, _, rfl, iteT ?_⟩
        refine ⟨_, rfl, 1, rfl, aW, _, -1, _, rfl, rfl, (sv.trans s').seq PA.rows, hlast, _, rfl, _, _, rfl, rfl, (by show (0 : Int) ≤ _; omega), _, _, rfl, rfl, rfl, ?_⟩
        have eb := bit_of row (shN (toldAllD ar lv es))
        rw [← hbit] at q1
        show Q (.bl (decide (V.int (Builtin.bitAnd (row / 2 ^ ((shN (toldAllD ar lv es) : Nat) : Int).toNat) 1) = V.int 1))) H'
        rw [Int.toNat_natCast, eb, bit_one]
        exact q1 vd H' s'
      · refine ⟨_, rfl, _, rfl, iteF ?_⟩
        exact q2 nv H' s'
    · have hl2 : (tyD d == "list") = false := by simpa using hl
      rw [hl2]
      refine iteF ⟨_, rfl, v, d, Hv, rfl, sv, hd, ?_, ?_⟩
      · cases d <;> simp [sz, bdD, tyD] at hb hl2 ⊢ <;> omega
      · cases hlf : leafN d with
        | none =>
          refine ⟨_, rfl, _, rfl, iteF (q2 (fun z => ?_) H (Same.refl _))⟩
          cases d with
          | none => simp [leafN] at hlf
          | str y =>
            have hl3 : ltB y = true := lt_ltB z
            have e3 : leafN (.str y) = some (min y.length 4 + 1) := by
              show (if ltB y = true then some (min y.length 4 + 1) else none) = _
              rw [hl3]
              rfl
            rw [e3] at hlf
            cases hlf
          | list es => simp [tyD] at hl2
          | _ => exact z
        | some n =>
          obtain ⟨vd, n6, et⟩ := leaf_told (ar := ar) (lv := lv) hlf
          have hlk : LookOf ps d (256 + n) := by
            cases d with
            | none =>
              have e : 0 = n := by simpa [leafN] using hlf
              subst e
              rfl
            | str y =>
              have h' : (if ltB y = true then some (min y.length 4 + 1) else none) = some n := hlf
              rw [lt_ltB vd] at h'
              have e : min y.length 4 + 1 = n := by simpa using h'
              show 256 + n = 257 + min y.length 4
              omega
            | list es => simp [tyD] at hl2
            | _ => exact vd.elim
          have hbit := PA.row.2.2 d _ hlk
          have hle : leavesL[n]? = some (V.int ((256 + n : Nat) : Int)) := by
            have : n = 0 ∨ n = 1 ∨ n = 2 ∨ n = 3 ∨ n = 4 ∨ n = 5 := by omega
            rcases this with rfl | rfl | rfl | rfl | rfl | rfl <;> rfl
          refine ⟨_, rfl, _, rfl, iteT ?_⟩
          refine ⟨_, rfl, 1, rfl, aW, _, -1, _, rfl, rfl, sv.seq PA.rows, hlast, _, rfl, aV, leavesL, n, _, rfl, rfl, same_sqt sv hV, atI_nat hle, _, _, rfl, rfl, (by show (0 : Int) ≤ _; omega), _, _, rfl, rfl, rfl, ?_⟩
          show Q (.bl (decide (V.int (Builtin.bitAnd (row / 2 ^ ((256 + n : Nat) : Int).toNat) 1) = V.int 1))) H
          rw [Int.toNat_natCast, bit_of, hbit, bit_one]
          exact q1 vd H (Same.refl _)
end
end TX
namespace TX
open PySem PySem.Spec PyProof.Rows L2
def rMaxI (K : PySem.W.Frag) : List V → Hp → VK → Prop := fun vs H Q => ∃ (p : Addr) (ns : List Int), vs = [.ref p] ∧ SqL K H p (ns.map V.int) ∧ 0 < ns.length ∧ ∀ M, M ∈ ns → (∀ a ∈ ns, a ≤ M) → Q (.int M) H
theorem call_maxI {X : Cx} (hc : X.calm = true) : CallR X (.builtin "max") (rMaxI X.K) := by
  intro pins s σ H vs us Q I r h
  obtain ⟨p, ns, rfl, hs, hne, q⟩ := h
  obtain ⟨its, rv, hl, _⟩ := I.list hs
  rw [Vals.ref1 r]
  have hi : IntsAre its ns := rv.ints
  obtain ⟨xs, e⟩ := hi.allInts.items
  have hns : ns = xs.toList.map (·.1) := by
    rw [← hi.numsOf, ← nums_intItems, ← e]
  have hsz : 0 < xs.size := by
    have h3 := hne
    rw [hns, List.length_map, Array.length_toList] at h3
    exact h3
  have hl2 := hl.isList
  rw [e] at hl2
  refine max_intList (I.ok.hd hc) hl2 hsz fun v h' tk hv hk => ?_
  obtain ⟨t, rfl⟩ := intItems_at hv
  obtain ⟨h1, h2⟩ := argBest_gt (numAt xs) (xs.size - 1)
  refine ⟨.int _, H, I.kept hk, ⟨t, rfl⟩, q _ ?_ fun a ha => ?_⟩
  · rw [hns, numAt_eq]
    exact getD_mem (by rw [List.length_map, Array.length_toList]; omega)
  · rw [hns] at ha
    obtain ⟨j, hj, rfl⟩ := mem_getD ha
    rw [List.length_map, Array.length_toList] at hj
    rw [← numAt_eq]
    exact h2 j (by omega)
end TX
namespace TX
open PySem PySem.Spec PyProof.Rows L2
/-! ### the steps of a recipe -/
inductive Sg where
  | every | never | nothing
  | texts (lo : Nat) (hi : Option Nat)
  | lists (k : Nat) | nested (k : Nat) | outside (k : Nat)
  | either (j k : Nat) | both (j k : Nat) | minus (j k : Nat)
def Sg.sign : Sg → Str
  | .every => "every"
  | .never => "never"
  | .nothing => "nothing"
  | .texts _ _ => "texts"
  | .lists _ => "lists"
  | .nested _ => "nested"
  | .outside _ => "outside"
  | .either _ _ => "either"
  | .both _ _ => "both"
  | .minus _ _ => "minus"
def Sg.parts : Sg → List Nat
  | .lists k => [k]
  | .nested k => [k]
  | .outside k => [k]
  | .either j k => [j, k]
  | .both j k => [j, k]
  | .minus j k => [j, k]
  | _ => []
def Sg.nums : Sg → List V
  | .texts lo hi => [.int (lo : Nat), hiV hi]
  | _ => []
/-- texts of at most three letters are told apart -/
def Sg.few : Sg → Prop
  | .texts lo hi => lo ≤ 3 ∧ ∀ h, hi = some h → h ≤ 3
  | _ => True
def Sg.asks (n : Nat) : Sg → Option Nat
  | .lists k => some k
  | .nested _ => some n
  | _ => none
/-- the step at a -/
def StepAt (K : PySem.W.Frag) (H : Hp) (a : Addr) (g : Sg) : Prop := ∃ p q, SqT K H a [.str g.sign, .ref p, .ref q] ∧ SqT K H p (g.parts.map fun (n : Nat) => V.int n) ∧ SqT K H q g.nums
theorem StepAt.up {K : PySem.W.Frag} {H G : Hp} {a : Addr} {g : Sg} (h : StepAt K H a g) (s : Same H G) : StepAt K G a g := by
  obtain ⟨p, q, h1, h2, h3⟩ := h
  exact ⟨p, q, same_sqt s h1, same_sqt s h2, same_sqt s h3⟩
def fullN : Nat := 2 ^ 262 - 1
theorem full_is : (7410693711188236507108543040556026102609279018600996098525285376506440296955903 : Int) = ((fullN : Nat) : Int) := by decide +kernel
/-- the row of a step, by the rows ahead of it -/
def RowIs (ws : List Int) (l r : Int) : Sg → Prop
  | .every => r = ((fullN : Nat) : Int)
  | .never => r = l
  | .nothing => r = 1 * 2 ^ 256
  | .texts lo hi => ∃ n : Nat, r = (n : Int) ∧ TextRow lo (hiN lo hi) n
  | .lists _ => r = l
  | .nested k => r = Builtin.bitOr (ws.getD k 0) l
  | .outside k => r = Builtin.bitXor ((fullN : Nat) : Int) (ws.getD k 0)
  | .either j k => r = Builtin.bitOr (ws.getD j 0) (ws.getD k 0)
  | .both j k => r = Builtin.bitAnd (ws.getD j 0) (ws.getD k 0)
  | .minus j k => r = Builtin.bitAnd (ws.getD j 0) (Builtin.bitNot (ws.getD k 0))
theorem sT {x y : Str} {A B : Prop} (h : x = y) (a : A) : if decide (V.str x = V.str y) = true then A else B := by
  rw [h, decide_eq_true rfl]
  exact iteT a
theorem sF {x y : Str} {A B : Prop} (h : x ≠ y) (b : B) : if decide (V.str x = V.str y) = true then A else B := by
  rw [decide_eq_false fun e => h (V.str.inj e)]
  exact iteF b
theorem at_map {ws : List Int} {k : Nat} (h : k < ws.length) : atI (ws.map V.int) (k : Int) = some (.int (ws.getD k 0)) := by
  refine atI_nat ?_
  rw [List.getElem?_map, List.getElem?_eq_getElem h, List.getD_eq_getElem?_getD, List.getElem?_eq_getElem h]
  rfl
def spRow (K : PySem.W.Frag) : Sp := fun vs H Q _ => ∃ (a aW : Addr) (g : Sg) (ws : List Int) (l : Int), vs = [.ref a, .ref aW, .int l] ∧ StepAt K H a g ∧ SqL K H aW (ws.map V.int) ∧ g.few ∧ (∀ k ∈ g.parts, k < ws.length) ∧ ∀ r, RowIs ws l r g → Q (.int r) H
def spAsked (K : PySem.W.Frag) : Sp := fun vs H Q _ => ∃ (n : Nat) (a : Addr) (g : Sg), vs = [.int (n : Nat), .ref a] ∧ StepAt K H a g ∧ Q (optV (g.asks n)) H
def spHasRow (K : PySem.W.Frag) : Sp := fun vs H Q _ => ∃ (a : Addr) (g : Sg), vs = [.ref a] ∧ StepAt K H a g ∧ g.few ∧ ∀ H', Same H H' → Q (.bl true) H'
section
variable {P : Program} {w : World} {K : PySem.W.Frag} {mg : Str → Option Value} {base : Heap}
theorem scRow : FnScope ["step", "rows", "lists", "sign", "parts", "numbers"] ["step", "rows", "lists"] (defScope s_row_of_step) := ⟨rfl, rfl, rfl, by decide +kernel, rfl, by decide +kernel, by decide +kernel⟩
theorem ok_row {f fT : Addr} {fd dT : FuncData} {t1 t2 : Tok} (F : Fun K "row_of_step" "row_of_step" s_row_of_step f fd) (gE : mg "EVERY_LOOK" = some (.int 7410693711188236507108543040556026102609279018600996098525285376506440296955903 t1)) (gN : mg "NOTHING" = some (.int 256 t2))
    (GT : FnOk P w K mg base CX0 1 fT dT ["numbers"] (spRowT K)) (gT : mg "row_of_texts" = some (.ref fT)) (kT : PySem.W.keepIn K (.ref fT) = true) (bT : Binds K dT ["numbers"] []) : FnOk P w K mg base CX0 2 f fd ["step", "rows", "lists"] (spRow K) := by
  refine F.ok scRow (fun vs H Q E h => ?_) (fun cdv A outer s H vs Q E hr h => ?_)
  · obtain ⟨a, aW, g, ws, l, rfl, _⟩ := h
    rfl
  · obtain ⟨a, aW, g, ws, l, rfl, hs, hW, hf, hp, q⟩ := h
    obtain ⟨p, qn, h1, h2, h3⟩ := hs
    refine ⟨_, pss_cons (ps_asg (pv 0) (pg_tup rfl (pgs_cons (pg_name (i := 3) scRow.nd rfl (.inl rfl)) (pgs_cons (pg_name (i := 4) scRow.nd rfl (.inl rfl)) (pgs_cons (pg_name (i := 5) scRow.nd rfl (.inl rfl)) pgs_nil))))) <|
      pss_cons (ps_if (pt_cmpR op_eq (pv 3) pe_str (nomark _)) (pss_one (ps_ret (pe_call GT hr (by rfl) gT kT bT .nil pass0 (pa_cons (pv 5) pa_nil)))) pss_nil) <|
      pss_cons (ps_if (pt_cmpR op_eq (pv 3) pe_str (nomark _)) (pss_one (ps_ret (pe_op op_or (pe_ix ix_list (pv 1) (pe_ix ix_tup (pv 4) pe_int (fun _ _ => rfl)) (fun _ _ => rfl)) (pe_ix ix_list (pv 1) (pe_ix ix_tup (pv 4) pe_int (fun _ _ => rfl)) (fun _ _ => rfl))))) pss_nil) <|
      pss_cons (ps_if (pt_cmpR op_eq (pv 3) pe_str (nomark _)) (pss_one (ps_ret (pe_op op_and (pe_ix ix_list (pv 1) (pe_ix ix_tup (pv 4) pe_int (fun _ _ => rfl)) (fun _ _ => rfl)) (pe_ix ix_list (pv 1) (pe_ix ix_tup (pv 4) pe_int (fun _ _ => rfl)) (fun _ _ => rfl))))) pss_nil) <|
      pss_cons (ps_if (pt_cmpR op_eq (pv 3) pe_str (nomark _)) (pss_one (ps_ret (pe_op op_and (pe_ix ix_list (pv 1) (pe_ix ix_tup (pv 4) pe_int (fun _ _ => rfl)) (fun _ _ => rfl)) (pe_un un_inv (pe_ix ix_list (pv 1) (pe_ix ix_tup (pv 4) pe_int (fun _ _ => rfl)) (fun _ _ => rfl)))))) pss_nil) <|
      pss_cons (ps_if (pt_cmpR op_eq (pv 3) pe_str (nomark _)) (pss_one (ps_ret (pe_op op_xor (pe_glob (v := .int 7410693711188236507108543040556026102609279018600996098525285376506440296955903) (by rfl) gE ⟨_, rfl⟩) (pe_ix ix_list (pv 1) (pe_ix ix_tup (pv 4) pe_int (fun _ _ => rfl)) (fun _ _ => rfl))))) pss_nil) <|
      pss_cons (ps_if (pt_cmpR op_eq (pv 3) pe_str (nomark _)) (pss_one (ps_ret (pe_op op_or (pe_ix ix_list (pv 1) (pe_ix ix_tup (pv 4) pe_int (fun _ _ => rfl)) (fun _ _ => rfl)) (pv 2)))) pss_nil) <|
      pss_cons (ps_if (pt_cmpR op_eq (pv 3) pe_str (nomark _)) (pss_one (ps_ret (pe_op op_shl pe_int (pe_glob (v := .int 256) (by rfl) gN ⟨_, rfl⟩)))) pss_nil) <|
      pss_one (ps_ret (pe_ifExp (pt_cmpR op_eq (pv 3) pe_str (nomark _)) (pe_glob (v := .int 7410693711188236507108543040556026102609279018600996098525285376506440296955903) (by rfl) gE ⟨_, rfl⟩) (pv 2))), ?_⟩
    refine ⟨_, rfl, a, _, rfl, h1, rfl, _, _, rfl, _, _, rfl, _, _, rfl, rfl, ?_⟩
    cases g with
    | every =>
      exact ⟨_, rfl, rfl, _, rfl, sF (by simp only [Sg.sign]; decide +kernel) ⟨_, rfl, rfl, _, rfl, sF (by simp only [Sg.sign]; decide +kernel) ⟨_, rfl, rfl, _, rfl, sF (by simp only [Sg.sign]; decide +kernel) ⟨_, rfl, rfl, _, rfl, sF (by simp only [Sg.sign]; decide +kernel) ⟨_, rfl, rfl, _, rfl, sF (by simp only [Sg.sign]; decide +kernel) ⟨_, rfl, rfl, _, rfl, sF (by simp only [Sg.sign]; decide +kernel) ⟨_, rfl, rfl, _, rfl, sF (by simp only [Sg.sign]; decide +kernel) ⟨_, rfl, rfl, _, rfl, sT rfl (q _ full_is)⟩⟩⟩⟩⟩⟩⟩⟩
    | never =>
      exact ⟨_, rfl, rfl, _, rfl, sF (by simp only [Sg.sign]; decide +kernel) ⟨_, rfl, rfl, _, rfl, sF (by simp only [Sg.sign]; decide +kernel) ⟨_, rfl, rfl, _, rfl, sF (by simp only [Sg.sign]; decide +kernel) ⟨_, rfl, rfl, _, rfl, sF (by simp only [Sg.sign]; decide +kernel) ⟨_, rfl, rfl, _, rfl, sF (by simp only [Sg.sign]; decide +kernel) ⟨_, rfl, rfl, _, rfl, sF (by simp only [Sg.sign]; decide +kernel) ⟨_, rfl, rfl, _, rfl, sF (by simp only [Sg.sign]; decide +kernel) ⟨_, rfl, rfl, _, rfl, sF (by simp only [Sg.sign]; decide +kernel) ⟨_, rfl, q _ rfl⟩⟩⟩⟩⟩⟩⟩⟩⟩
    | lists k =>
      exact ⟨_, rfl, rfl, _, rfl, sF (by simp only [Sg.sign]; decide +kernel) ⟨_, rfl, rfl, _, rfl, sF (by simp only [Sg.sign]; decide +kernel) ⟨_, rfl, rfl, _, rfl, sF (by simp only [Sg.sign]; decide +kernel) ⟨_, rfl, rfl, _, rfl, sF (by simp only [Sg.sign]; decide +kernel) ⟨_, rfl, rfl, _, rfl, sF (by simp only [Sg.sign]; decide +kernel) ⟨_, rfl, rfl, _, rfl, sF (by simp only [Sg.sign]; decide +kernel) ⟨_, rfl, rfl, _, rfl, sF (by simp only [Sg.sign]; decide +kernel) ⟨_, rfl, rfl, _, rfl, sF (by simp only [Sg.sign]; decide +kernel) ⟨_, rfl, q _ rfl⟩⟩⟩⟩⟩⟩⟩⟩⟩
    | nothing =>
      refine ⟨_, rfl, rfl, _, rfl, sF (by simp only [Sg.sign]; decide +kernel) ⟨_, rfl, rfl, _, rfl, sF (by simp only [Sg.sign]; decide +kernel) ⟨_, rfl, rfl, _, rfl, sF (by simp only [Sg.sign]; decide +kernel) ⟨_, rfl, rfl, _, rfl, sF (by simp only [Sg.sign]; decide +kernel) ⟨_, rfl, rfl, _, rfl, sF (by simp only [Sg.sign]; decide +kernel) ⟨_, rfl, rfl, _, rfl, sF (by simp only [Sg.sign]; decide +kernel) ⟨_, rfl, rfl, _, rfl, sT rfl ⟨_, _, rfl, rfl, ⟨by decide, by decide, by decide⟩, ?_⟩⟩⟩⟩⟩⟩⟩⟩
      exact q _ rfl
    | texts lo hi =>
      refine ⟨_, rfl, rfl, _, rfl, sT rfl ⟨_, rfl, qn, lo, hi, rfl, h3, hf.1, hf.2, fun r hr => q _ ⟨r, rfl, hr⟩⟩⟩
    | nested k =>
      refine ⟨_, rfl, rfl, _, rfl, sF (by simp only [Sg.sign]; decide +kernel) ⟨_, rfl, rfl, _, rfl, sF (by simp only [Sg.sign]; decide +kernel) ⟨_, rfl, rfl, _, rfl, sF (by simp only [Sg.sign]; decide +kernel) ⟨_, rfl, rfl, _, rfl, sF (by simp only [Sg.sign]; decide +kernel) ⟨_, rfl, rfl, _, rfl, sF (by simp only [Sg.sign]; decide +kernel) ⟨_, rfl, rfl, _, rfl, sT rfl ⟨_, rfl, _, rfl, p, _, 0, .int (k : Nat), rfl, rfl, h2, atI_nat (j := 0) rfl, aW, _, k, _, rfl, rfl, hW, at_map (hp k (by simp [Sg.parts])), _, rfl, _, _, rfl, rfl, q _ rfl⟩⟩⟩⟩⟩⟩⟩
    | outside k =>
      refine ⟨_, rfl, rfl, _, rfl, sF (by simp only [Sg.sign]; decide +kernel) ⟨_, rfl, rfl, _, rfl, sF (by simp only [Sg.sign]; decide +kernel) ⟨_, rfl, rfl, _, rfl, sF (by simp only [Sg.sign]; decide +kernel) ⟨_, rfl, rfl, _, rfl, sF (by simp only [Sg.sign]; decide +kernel) ⟨_, rfl, rfl, _, rfl, sT rfl ⟨_, rfl, _, rfl, p, _, 0, .int (k : Nat), rfl, rfl, h2, atI_nat (j := 0) rfl, aW, _, k, _, rfl, rfl, hW, at_map (hp k (by simp [Sg.parts])), _, _, rfl, rfl, ?_⟩⟩⟩⟩⟩⟩
      refine q _ ?_
      show _ = Builtin.bitXor ((fullN : Nat) : Int) (ws.getD k 0)
      rw [← full_is]
    | either j k =>
      refine ⟨_, rfl, rfl, _, rfl, sF (by simp only [Sg.sign]; decide +kernel) ⟨_, rfl, rfl, _, rfl, sT rfl ⟨_, rfl, _, rfl, p, _, 0, .int (j : Nat), rfl, rfl, h2, atI_nat (j := 0) rfl, aW, _, j, _, rfl, rfl, hW, at_map (hp j (by simp [Sg.parts])), _, rfl, _, rfl, p, _, 1, .int (k : Nat), rfl, rfl, h2, atI_nat (j := 1) rfl, aW, _, k, _, rfl, rfl, hW, at_map (hp k (by simp [Sg.parts])), _, _, rfl, rfl, q _ rfl⟩⟩⟩
    | both j k =>
      refine ⟨_, rfl, rfl, _, rfl, sF (by simp only [Sg.sign]; decide +kernel) ⟨_, rfl, rfl, _, rfl, sF (by simp only [Sg.sign]; decide +kernel) ⟨_, rfl, rfl, _, rfl, sT rfl ⟨_, rfl, _, rfl, p, _, 0, .int (j : Nat), rfl, rfl, h2, atI_nat (j := 0) rfl, aW, _, j, _, rfl, rfl, hW, at_map (hp j (by simp [Sg.parts])), _, rfl, _, rfl, p, _, 1, .int (k : Nat), rfl, rfl, h2, atI_nat (j := 1) rfl, aW, _, k, _, rfl, rfl, hW, at_map (hp k (by simp [Sg.parts])), _, _, rfl, rfl, q _ rfl⟩⟩⟩⟩
    | minus j k =>
      refine ⟨_, rfl, rfl, _, rfl, sF (by simp only [Sg.sign]; decide +kernel) ⟨_, rfl, rfl, _, rfl, sF (by simp only [Sg.sign]; decide +kernel) ⟨_, rfl, rfl, _, rfl, sF (by simp only [Sg.sign]; decide +kernel) ⟨_, rfl, rfl, _, rfl, sT rfl ⟨_, rfl, _, rfl, p, _, 0, .int (j : Nat), rfl, rfl, h2, atI_nat (j := 0) rfl, aW, _, j, _, rfl, rfl, hW, at_map (hp j (by simp [Sg.parts])), _, rfl, _, rfl, p, _, 1, .int (k : Nat), rfl, rfl, h2, atI_nat (j := 1) rfl, aW, _, k, _, rfl, rfl, hW, at_map (hp k (by simp [Sg.parts])), _, rfl, _, _, rfl, rfl, q _ rfl⟩⟩⟩⟩⟩
theorem scAsked : FnScope ["number", "step", "sign", "parts", "_"] ["number", "step"] (defScope s_step_asked) := ⟨rfl, rfl, rfl, by decide +kernel, rfl, by decide +kernel, by decide +kernel⟩
theorem ok_asked {f : Addr} {fd : FuncData} (F : Fun K "step_asked" "step_asked" s_step_asked f fd) : FnOk P w K mg base CX0 1 f fd ["number", "step"] (spAsked K) := by
  refine F.ok scAsked (fun vs H Q E h => ?_) (fun cdv A outer s H vs Q E hr h => ?_)
  · obtain ⟨n, a, g, rfl, _⟩ := h
    rfl
  · obtain ⟨n, a, g, rfl, hs, q⟩ := h
    obtain ⟨p, qn, h1, h2, h3⟩ := hs
    refine ⟨_, pss_cons (ps_asg (pv 1) (pg_tup rfl (pgs_cons (pg_name (i := 2) scAsked.nd rfl (.inl rfl)) (pgs_cons (pg_name (i := 3) scAsked.nd rfl (.inl rfl)) (pgs_cons (pg_name (i := 4) scAsked.nd rfl (.inl rfl)) pgs_nil))))) <|
      pss_cons (ps_if (pt_cmpR op_eq (pv 2) pe_str (nomark _)) (pss_one (ps_ret (pe_ix ix_tup (pv 3) pe_int (fun _ _ => rfl)))) pss_nil) <|
      pss_one (ps_ret (pe_ifExp (pt_cmpR op_eq (pv 2) pe_str (nomark _)) (pv 0) pe_non)), ?_⟩
    refine ⟨_, rfl, a, _, rfl, h1, rfl, _, _, rfl, _, _, rfl, _, _, rfl, rfl, ?_⟩
    cases g with
    | lists k => exact ⟨_, rfl, rfl, _, rfl, sT rfl ⟨_, rfl, p, _, 0, .int (k : Nat), rfl, rfl, h2, atI_nat (j := 0) rfl, q⟩⟩
    | nested k => exact ⟨_, rfl, rfl, _, rfl, sF (by simp only [Sg.sign]; decide +kernel) ⟨_, rfl, rfl, _, rfl, sT rfl ⟨_, rfl, q⟩⟩⟩
    | _ => exact ⟨_, rfl, rfl, _, rfl, sF (by simp only [Sg.sign]; decide +kernel) ⟨_, rfl, rfl, _, rfl, sF (by simp only [Sg.sign]; decide +kernel) q⟩⟩
theorem scHasRow : FnScope ["step", "many"] ["step"] (defScope s_has_row) := ⟨rfl, rfl, rfl, by decide +kernel, rfl, by decide +kernel, by decide +kernel⟩
def numsL (lo : Nat) (hi : Option Nat) : Nat → List Int
  | 0 => []
  | 1 => [(lo : Int)]
  | _ => (lo : Int) :: (match hi with | .none => [] | some h => [(h : Int)])
theorem ok_hasRow {f : Addr} {fd : FuncData} {t1 : Tok} (F : Fun K "has_row" "has_row" s_has_row f fd) (gL : mg "LONG" = some (.int 4 t1)) (gM : mg "max" = none) : FnOk P w K mg base CX0 1 f fd ["step"] (spHasRow K) := by
  refine F.ok scHasRow (fun vs H Q E h => ?_) (fun cdv A outer s H vs Q E hr h => ?_)
  · obtain ⟨a, g, rfl, _⟩ := h
    rfl
  · obtain ⟨a, g, rfl, hs, hf, q⟩ := h
    obtain ⟨p, qn, h1, h2, h3⟩ := hs
    refine ⟨_, pss_one (ps_ret (pe_or (pe_cmpR op_ne (pe_ix ix_tup (pv 0) pe_int (fun _ _ => rfl)) pe_str (nomark _)) (pe_one (pe_cmpR op_lt (pe_callB (call_maxI rfl) (by rfl) gM (by decide +kernel) (pa_cons
      (pe_lc (own := [("many", 1)]) (g := gName 1) (tt := tB (tNotN (tVar 1))) (te := tVar 1) rfl scHasRow.nd (pi_tup (pe_ix ix_tup (pv 0) pe_int (fun _ _ => rfl))) (blkOk_by (own := [("many", 1)]) (N := ["step", "many"]) (sc := defScope s_has_row) (by decide +kernel))
        (fun _ _ _ _ _ => pg_name (i := 1) scHasRow.nd rfl (Or.inl rfl)) (fun _ _ _ _ _ => pts_one (pt_cmp (pc_notN (pv 1)))) (fun _ _ _ _ _ => pv 1)) pa_nil)) (pe_glob (v := .int 4) (by rfl) gL ⟨_, rfl⟩) (nomark _))))), ?_⟩
    cases g with
    | texts lo hi =>
      refine ⟨_, rfl, a, _, 0, _, rfl, rfl, h1, atI_nat (j := 0) rfl, rfl, _, rfl, ?_⟩
      refine iteF ⟨_, rfl, a, _, 2, _, rfl, rfl, h1, atI_nat (j := 2) rfl, ?_⟩
      refine ⟨qn, rfl, ⟨_, h3⟩, fun D nD => lc_tup (K := K) (a := qn) (xs := [.int (lo : Nat), hiV hi]) (fun j H' => H' D = some (.lst ((numsL lo hi j).map V.int)) ∧ Same H H') ⟨upd_same, same_upd nD⟩ (fun j H' hj ⟨_, sm⟩ => same_sqt sm h3) ?_ ?_⟩
      · rintro j x H' hx ⟨hD, sm⟩
        have jl : j < 2 := (List.getElem?_eq_some_iff.mp hx).1
        have hj : j = 0 ∨ j = 1 := by omega
        rcases hj with rfl | rfl
        · cases hx
          exact ⟨rfl, _, rfl, _, rfl, iteT ⟨_, rfl, _, hD, (by show 0 < sizeLine; decide), upd_same, same_fresh nD sm⟩⟩
        · have ex : x = hiV hi := by simpa using hx.symm
          subst ex
          cases hi with
          | none => exact ⟨rfl, _, rfl, _, rfl, iteF ⟨hD, sm⟩⟩
          | some h => exact ⟨rfl, _, rfl, _, rfl, iteT ⟨_, rfl, _, hD, (by show 1 < sizeLine; decide), upd_same, same_fresh nD sm⟩⟩
      · rintro H' ⟨hD, sm⟩
        refine ⟨D, _, rfl, SqL.of hD, Nat.zero_lt_succ _, fun M hM _ => ?_⟩
        have h4 : M < 4 := by
          cases hi with
          | none =>
            have : M = (lo : Int) := by simpa [numsL] using hM
            have := hf.1
            omega
          | some h =>
            have : M = (lo : Int) ∨ M = (h : Int) := by simpa [numsL] using hM
            have := hf.1
            have := hf.2 h rfl
            omega
        refine ⟨_, _, rfl, rfl, ?_⟩
        show Q (.bl (decide (M < 4))) H'
        rw [decide_eq_true h4]
        exact q H' sm
    | _ => exact ⟨_, rfl, a, _, 0, _, rfl, rfl, h1, atI_nat (j := 0) rfl, rfl, _, rfl, iteT (q H (Same.refl _))⟩
end
end TX
namespace TX
open PySem PySem.Spec PyProof.Rows L2
/-! ### what a plan says of the steps -/
def nv : PyData → Bool := fun _ => false
/-- the values of a step, by those of the steps ahead of it -/
def Sg.pred (ps : List (PyData → Bool)) : Sg → PyData → Bool
  | .every => fun _ => true
  | .never => fun _ => false
  | .nothing => noneP
  | .texts lo hi => textP lo hi
  | .lists k => listsP (ps.getD k nv)
  | .nested k => nestP (ps.getD k nv)
  | .outside k => fun d => !(ps.getD k nv d)
  | .either j k => fun d => ps.getD j nv d || ps.getD k nv d
  | .both j k => fun d => ps.getD j nv d && ps.getD k nv d
  | .minus j k => fun d => ps.getD j nv d && !ps.getD k nv d
def predsOf : List (PyData → Bool) → List Sg → List (PyData → Bool)
  | ps, [] => ps
  | ps, g :: gs => predsOf (ps ++ [g.pred ps]) gs
def askP (ps : List (PyData → Bool)) (ak : List Nat) : List (PyData → Bool) := ak.map fun k => ps.getD k nv
structure PInv (ps : List (PyData → Bool)) (ak : List Nat) (ws : List Int) : Prop where
  len : ws.length = ps.length
  few : ak.length ≤ 8
  inn : ∀ k ∈ ak, k < ps.length
  row : ∀ (i : Nat) (r : Int) (p : PyData → Bool), ws[i]? = some r → ps[i]? = some p → RowOk (askP ps ak) r p
def askMore (ak : List Nat) : Option Nat → List Nat
  | .none => ak
  | some k => if k ∈ ak then ak else ak ++ [k]
theorem askMore_some {ak : List Nat} {k : Nat} : askMore ak (some k) = if k ∈ ak then ak else ak ++ [k] := rfl
def listsN (ak : List Nat) : Option Nat → Int
  | .none => 0
  | some k => ((allIn.getD (ak.idxOf k) 0 : Nat) : Int)
theorem getD_old {ps : List (PyData → Bool)} {q : PyData → Bool} {k : Nat} (h : k < ps.length) : (ps ++ [q]).getD k nv = ps.getD k nv := by
  rw [List.getD_eq_getElem?_getD, List.getD_eq_getElem?_getD, List.getElem?_append_left h]
theorem getD_new {ps : List (PyData → Bool)} {q : PyData → Bool} : (ps ++ [q]).getD ps.length nv = q := by
  rw [List.getD_eq_getElem?_getD, List.getElem?_append_right (Nat.le_refl _), Nat.sub_self]
  rfl
theorem askP_old {ps : List (PyData → Bool)} {q : PyData → Bool} {ak : List Nat} (h : ∀ k ∈ ak, k < ps.length) : askP (ps ++ [q]) ak = askP ps ak :=
  List.map_congr_left fun k hk => getD_old (h k hk)
theorem askMore_mem {ak : List Nat} {k : Nat} : k ∈ askMore ak (some k) := by
  rw [askMore_some]
  by_cases h : k ∈ ak
  · rw [if_pos h]
    exact h
  · rw [if_neg h]
    exact List.mem_append_right _ List.mem_cons_self
theorem askMore_in {ak : List Nat} {o : Option Nat} {n : Nat} (h : ∀ k ∈ ak, k < n) (ho : ∀ k, o = some k → k < n + 1) : ∀ k ∈ askMore ak o, k < n + 1 := by
  intro k hk
  cases o with
  | none =>
    have := h k hk
    omega
  | some j =>
    rw [askMore_some] at hk
    by_cases hj : j ∈ ak
    · rw [if_pos hj] at hk
      have := h k hk
      omega
    · rw [if_neg hj] at hk
      rcases List.mem_append.mp hk with z | z
      · have := h k z
        omega
      · rw [List.mem_singleton.mp z]
        exact ho j rfl
theorem askP_more {qs : List (PyData → Bool)} {ak : List Nat} {o : Option Nat} : ∃ r, askP qs (askMore ak o) = askP qs ak ++ r := by
  cases o with
  | none => exact ⟨[], by rw [List.append_nil]; rfl⟩
  | some k =>
    rw [askMore_some]
    by_cases h : k ∈ ak
    · rw [if_pos h]
      exact ⟨[], by rw [List.append_nil]⟩
    · rw [if_neg h]
      exact ⟨[qs.getD k nv], by simp [askP]⟩
theorem askP_at {qs : List (PyData → Bool)} {ak : List Nat} {k : Nat} (h : k ∈ ak) : (askP qs ak)[ak.idxOf k]? = some (qs.getD k nv) := by
  have hl := List.idxOf_lt_length_of_mem h
  unfold askP
  rw [List.getElem?_map, List.getElem?_eq_getElem hl, List.getElem_idxOf hl]
  rfl
theorem asks_lt {g : Sg} {n k : Nat} (hp : ∀ j ∈ g.parts, j < n) (h : g.asks n = some k) : k < n + 1 := by
  cases g with
  | lists j =>
    have e : j = k := by simpa [Sg.asks] using h
    have := hp j (by simp [Sg.parts])
    omega
  | nested j =>
    have e : n = k := by simpa [Sg.asks] using h
    omega
  | _ => simp [Sg.asks] at h
theorem PInv.step {ps : List (PyData → Bool)} {ak : List Nat} {ws : List Int} (h : PInv ps ak ws) (g : Sg) (hf : g.few) (hp : ∀ k ∈ g.parts, k < ps.length) {r : Int} (h8 : (askMore ak (g.asks ps.length)).length ≤ 8)
    (hr : RowIs ws (listsN (askMore ak (g.asks ps.length)) (g.asks ps.length)) r g) : PInv (ps ++ [g.pred ps]) (askMore ak (g.asks ps.length)) (ws ++ [r]) := by
  have old : ∀ (i : Nat) (r' : Int) (p : PyData → Bool), ws[i]? = some r' → ps[i]? = some p → RowOk (askP (ps ++ [g.pred ps]) (askMore ak (g.asks ps.length))) r' p := by
    intro i r' p e1 e2
    obtain ⟨m, em⟩ := askP_more (qs := ps ++ [g.pred ps]) (ak := ak) (o := g.asks ps.length)
    rw [em, askP_old h.inn]
    exact (h.row i r' p e1 e2).more
  have at_ : ∀ k, k < ps.length → RowOk (askP (ps ++ [g.pred ps]) (askMore ak (g.asks ps.length))) (ws.getD k 0) (ps.getD k nv) := by
    intro k hk
    have hw : k < ws.length := by
      rw [h.len]
      exact hk
    have e1 := List.getElem?_eq_getElem hw
    have e2 := List.getElem?_eq_getElem hk
    have := old k _ _ e1 e2
    rw [List.getD_eq_getElem?_getD, List.getD_eq_getElem?_getD, e1, e2]
    exact this
  have nat_ : ∀ k, k < ps.length → ∃ a : Nat, ws.getD k 0 = (a : Int) ∧ RowOk (askP (ps ++ [g.pred ps]) (askMore ak (g.asks ps.length))) (a : Int) (ps.getD k nv) := by
    intro k hk
    have z := at_ k hk
    obtain ⟨a, ha⟩ := Int.eq_ofNat_of_zero_le z.1
    refine ⟨a, ha, ?_⟩
    rw [ha] at z
    exact z
  have new : RowOk (askP (ps ++ [g.pred ps]) (askMore ak (g.asks ps.length))) r (g.pred ps) := by
    cases g with
    | every =>
      obtain rfl : r = ((fullN : Nat) : Int) := hr
      exact rowOk_every
    | never =>
      obtain rfl : r = 0 := hr
      exact rowOk_never
    | nothing =>
      obtain rfl : r = 1 * 2 ^ 256 := hr
      exact rowOk_nothing
    | texts lo hi =>
      obtain ⟨n, rfl, ht⟩ := hr
      refine rowOk_texts hf.1 hf.2 ?_
      cases hi <;> exact ht
    | lists k =>
      have hk := hp k (by simp [Sg.parts])
      obtain rfl : r = ((allIn.getD ((askMore ak (some k)).idxOf k) 0 : Nat) : Int) := hr
      have hm : k ∈ askMore ak (some k) := askMore_mem
      have e := askP_at (qs := ps ++ [(Sg.lists k).pred ps]) hm
      rw [getD_old hk] at e
      exact rowOk_lists e (Nat.lt_of_lt_of_le (List.idxOf_lt_length_of_mem hm) h8)
    | nested k =>
      have hk := hp k (by simp [Sg.parts])
      obtain ⟨a, ha, ra⟩ := nat_ k hk
      have hr' : r = Builtin.bitOr (ws.getD k 0) ((allIn.getD ((askMore ak (some ps.length)).idxOf ps.length) 0 : Nat) : Int) := hr
      rw [ha] at hr'
      subst hr'
      have hm : ps.length ∈ askMore ak (some ps.length) := askMore_mem
      have e := askP_at (qs := ps ++ [(Sg.nested k).pred ps]) hm
      rw [getD_new] at e
      exact rowOk_nested ra e (Nat.lt_of_lt_of_le (List.idxOf_lt_length_of_mem hm) h8)
    | outside k =>
      obtain ⟨a, ha, ra⟩ := nat_ k (hp k (by simp [Sg.parts]))
      have hr' : r = Builtin.bitXor ((fullN : Nat) : Int) (ws.getD k 0) := hr
      rw [ha] at hr'
      subst hr'
      exact rowOk_outside ra
    | either j k =>
      obtain ⟨a, ha, ra⟩ := nat_ j (hp j (by simp [Sg.parts]))
      obtain ⟨b, hb, rb⟩ := nat_ k (hp k (by simp [Sg.parts]))
      have hr' : r = Builtin.bitOr (ws.getD j 0) (ws.getD k 0) := hr
      rw [ha, hb] at hr'
      subst hr'
      exact rowOk_or ra rb
    | both j k =>
      obtain ⟨a, ha, ra⟩ := nat_ j (hp j (by simp [Sg.parts]))
      obtain ⟨b, hb, rb⟩ := nat_ k (hp k (by simp [Sg.parts]))
      have hr' : r = Builtin.bitAnd (ws.getD j 0) (ws.getD k 0) := hr
      rw [ha, hb] at hr'
      subst hr'
      exact rowOk_and ra rb
    | minus j k =>
      obtain ⟨a, ha, ra⟩ := nat_ j (hp j (by simp [Sg.parts]))
      obtain ⟨b, hb, rb⟩ := nat_ k (hp k (by simp [Sg.parts]))
      have hr' : r = Builtin.bitAnd (ws.getD j 0) (Builtin.bitNot (ws.getD k 0)) := hr
      rw [ha, hb] at hr'
      subst hr'
      exact rowOk_minus ra rb
  refine ⟨by rw [List.length_append, List.length_append, h.len]; rfl, h8, ?_, ?_⟩
  · rw [List.length_append]
    exact askMore_in h.inn fun k e => asks_lt hp e
  · intro i r' p e1 e2
    by_cases hi : i < ps.length
    · rw [List.getElem?_append_left (by rw [h.len]; exact hi)] at e1
      rw [List.getElem?_append_left hi] at e2
      exact old i r' p e1 e2
    · have hlen := (List.getElem?_eq_some_iff.mp e2).1
      rw [List.length_append, List.length_singleton] at hlen
      have hi2 : i = ps.length := by omega
      subst hi2
      rw [List.getElem?_append_right (Nat.le_refl _), Nat.sub_self] at e2
      rw [List.getElem?_append_right (by rw [h.len]; exact Nat.le_refl _), h.len, Nat.sub_self] at e1
      cases e1
      cases e2
      exact new
/-- a plan as it stands -/
structure PlanF (K : PySem.W.Frag) (H : Hp) (pl : Addr) (ps : List (PyData → Bool)) (ak : List Nat) (ws : List Int) (aW aA aR aL : Addr) (ar : List Int) (lv : List Nat) : Prop where
  at_ : SqT K H pl [.ref aW, .ref aA, .ref aR, .ref aL]
  rows : SeqOr K H aW (ws.map V.int)
  askd : SeqOr K H aA (ak.map fun (n : Nat) => V.int n)
  arow : SqL K H aR (ar.map V.int) ∨ SqT K H aR [] ∧ ar = []
  leav : SeqOr K H aL (lv.map fun (n : Nat) => V.int n)
  six : lv.length = 6
  inv : PInv ps ak ws
  arr : ar = ak.map fun k => ws.getD k 0
  ok : ∀ n, n < 6 → lv.getD n 0 = toldN (256 + n) ar
theorem SeqOr.up {K : PySem.W.Frag} {H G : Hp} {a : Addr} {xs : List V} (h : SeqOr K H a xs) (s : Same H G) : SeqOr K G a xs := h.imp (fun z => s.seq z) fun z => same_sqt s z
theorem PlanF.up {K : PySem.W.Frag} {H G : Hp} {pl : Addr} {ps : List (PyData → Bool)} {ak : List Nat} {ws : List Int} {aW aA aR aL : Addr} {ar : List Int} {lv : List Nat} (h : PlanF K H pl ps ak ws aW aA aR aL ar lv) (s : Same H G) : PlanF K G pl ps ak ws aW aA aR aL ar lv :=
  ⟨same_sqt s h.at_, h.rows.up s, h.askd.up s, h.arow.imp (fun z => s.seq z) fun z => ⟨same_sqt s z.1, z.2⟩, h.leav.up s, h.six, h.inv, h.arr, h.ok⟩
theorem PInv.asked {ps : List (PyData → Bool)} {ak : List Nat} {ws : List Int} (h : PInv ps ak ws) {lv : List Nat} (hl : ∀ n, n < 6 → lv.getD n 0 = toldN (256 + n) (ak.map fun k => ws.getD k 0)) : Asked (askP ps ak) (ak.map fun k => ws.getD k 0) lv := by
  refine ⟨by simp [askP], by simp [askP]; exact h.few, fun k r p e1 e2 => ?_, hl⟩
  unfold askP at e2
  rw [List.getElem?_map] at e1 e2
  cases e3 : ak[k]? with
  | none =>
    rw [e3] at e1
    cases e1
  | some j =>
    rw [e3] at e1 e2
    have hj := h.inn j (List.mem_of_getElem? e3)
    have hw : j < ws.length := by
      rw [h.len]
      exact hj
    have f1 := List.getElem?_eq_getElem hw
    have f2 := List.getElem?_eq_getElem hj
    have g1 : ws.getD j 0 = r := Option.some.inj e1
    have g2 : ps.getD j nv = p := Option.some.inj e2
    rw [List.getD_eq_getElem?_getD, f1] at g1
    rw [List.getD_eq_getElem?_getD, f2] at g2
    have := h.row j _ _ f1 f2
    rw [show ws[j] = r from g1, show ps[j] = p from g2] at this
    exact this
/-- what is_member takes -/
theorem PlanF.at_last {K : PySem.W.Frag} {H : Hp} {pl : Addr} {ps : List (PyData → Bool)} {ak : List Nat} {ws : List Int} {aW aA aR aL : Addr} {ar : List Int} {lv : List Nat} {p : PyData → Bool} (h : PlanF K H pl (ps ++ [p]) ak ws aW aA aR aL ar lv) (hw : SqL K H aW (ws.map V.int)) :
    ∃ row, PlanAt K H pl (askP (ps ++ [p]) ak) p aW (.ref aA) aR aL ws ar lv row := by
  have hl := h.inv.len
  rw [List.length_append, List.length_singleton] at hl
  have hi : ps.length < ws.length := by omega
  have e1 := List.getElem?_eq_getElem hi
  have e2 : (ps ++ [p])[ps.length]? = some p := by
    rw [List.getElem?_append_right (Nat.le_refl _), Nat.sub_self]
    rfl
  refine ⟨ws[ps.length], h.at_, hw, ?_, h.inv.row _ _ _ e1 e2, h.arow, h.leav, h.six, ?_⟩
  · rw [List.getLast?_eq_getElem?, show ws.length - 1 = ps.length by omega]
    exact e1
  · have a := h.arr
    subst a
    exact h.inv.asked h.ok
end TX
namespace TX
open PySem PySem.Spec PyProof.Rows L2
theorem pe_cut {X : Cx} {e : Expr} {t : TE} (h : PE X e t) : PE X e (fun σ H Q => ∃ R : VK, t σ H R ∧ ∀ v H', R v H' → Q v H') :=
  ⟨fun pins s σ H Q I ⟨R, h1, h2⟩ => thn (h.run pins s σ H R I h1) fun v s1 ⟨x, H1, I1, r1, q1⟩ => ⟨x, H1, I1, r1, h2 _ _ q1⟩⟩
theorem predsOf_snoc : ∀ (gs : List Sg) (ps : List (PyData → Bool)) (g : Sg), predsOf ps (gs ++ [g]) = predsOf ps gs ++ [g.pred (predsOf ps gs)]
  | [], ps, g => rfl
  | h :: gs, ps, g => by
    simp only [List.cons_append, predsOf]
    exact predsOf_snoc gs _ g
theorem predsOf_len : ∀ (gs : List Sg) (ps : List (PyData → Bool)), (predsOf ps gs).length = ps.length + gs.length
  | [], ps => by simp [predsOf]
  | h :: gs, ps => by
    simp only [predsOf, List.length_cons]
    rw [predsOf_len gs, List.length_append, List.length_singleton]
    omega
def Sg.askB : Sg → Nat
  | .lists _ => 1
  | .nested _ => 1
  | _ => 0
def asksN : List Sg → Nat
  | [] => 0
  | g :: gs => g.askB + asksN gs
theorem asksN_snoc : ∀ (gs : List Sg) (g : Sg), asksN (gs ++ [g]) = asksN gs + g.askB
  | [], g => by simp [asksN]
  | h :: gs, g => by
    simp only [List.cons_append, asksN, asksN_snoc gs g]
    omega
theorem asksN_take (gs : List Sg) : ∀ i, asksN (gs.take i) ≤ asksN gs := by
  induction gs with
  | nil => intro i; simp [asksN]
  | cons g gs ih =>
    intro i
    cases i with
    | zero => simp [asksN]
    | succ i =>
      simp only [List.take_succ_cons, asksN]
      have := ih i
      omega
theorem askMore_len {ak : List Nat} {g : Sg} {n : Nat} : (askMore ak (g.asks n)).length ≤ ak.length + g.askB := by
  have one : ∀ k, (askMore ak (some k)).length ≤ ak.length + 1 := by
    intro k
    rw [askMore_some]
    by_cases h : k ∈ ak
    · rw [if_pos h]
      omega
    · rw [if_neg h, List.length_append, List.length_singleton]
      exact Nat.le_refl _
  cases g with
  | lists k => exact one k
  | nested k => exact one n
  | _ => exact Nat.le_refl _
theorem askMore_pre {ak : List Nat} {o : Option Nat} : ∃ r, askMore ak o = ak ++ r := by
  cases o with
  | none => exact ⟨[], by rw [List.append_nil]; rfl⟩
  | some k =>
    rw [askMore_some]
    by_cases h : k ∈ ak
    · rw [if_pos h]
      exact ⟨[], by rw [List.append_nil]⟩
    · rw [if_neg h]
      exact ⟨[k], rfl⟩
theorem inV_nat {k : Nat} {ak : List Nat} : inV (.int (k : Nat)) (ak.map fun (n : Nat) => V.int n) = decide (k ∈ ak) := by
  unfold inV
  rw [List.any_map, Bool.eq_iff_iff, List.any_eq_true, decide_eq_true_eq]
  constructor
  · rintro ⟨j, hj, e⟩
    have e2 : ((j : Int) == (k : Int)) = true := e
    have : (j : Int) = (k : Int) := eq_of_beq e2
    have : j = k := by omega
    exact this ▸ hj
  · exact fun h => ⟨k, h, beq_self_eq_true (k : Int)⟩
theorem flat_nats (ak : List Nat) : (ak.map fun (n : Nat) => V.int n).all flatV = true := by
  rw [List.all_map, List.all_eq_true]
  exact fun _ _ => rfl
theorem idxOf_first : ∀ {ak : List Nat} {k m : Nat}, m < ak.idxOf k → ∀ j, ak[m]? = some j → j ≠ k
  | [], _, _, _, j, e => by simp at e
  | a :: ak, k, 0, h, j, e => by
    have e1 : a = j := by simpa using e
    intro z
    rw [e1, z, List.idxOf_cons_self] at h
    exact absurd h (by omega)
  | a :: ak, k, m + 1, h, j, e => by
    have e1 : ak[m]? = some j := by simpa using e
    by_cases z : a = k
    · rw [z, List.idxOf_cons_self] at h
      exact absurd h (by omega)
    · rw [List.idxOf_cons, show (a == k) = false from beq_eq_false_iff_ne.mpr z, cond_false] at h
      exact idxOf_first (by omega) j e1
theorem sqt_del {K : PySem.W.Frag} {H : Hp} {a r : Addr} {xs ys : List V} (h : SqT K H a xs) (hr : H r = some (.lst ys)) : SqT K (del H r) a xs := by
  rcases h with (h | ⟨o, h⟩) | h
  · have e : a ≠ r := fun z => by
      rw [z, hr] at h
      cases h
    exact .inl (.inl (by rw [del_ne e]; exact h))
  · have e : a ≠ r := fun z => by
      rw [z, hr] at h
      cases h
    exact .inl (.inr ⟨o, by rw [del_ne e]; exact h⟩)
  · exact .inr h
/-- two lists under way -/
structure Tw (B H' : Hp) (r1 r2 : Addr) (xs ys : List V) : Prop where
  k : ∀ b o, b ≠ r1 → b ≠ r2 → B b = some o → H' b = some o
  f1 : H' r1 = some (.lst xs)
  f2 : H' r2 = some (.lst ys)
theorem Tw.up {B H' G : Hp} {r1 r2 : Addr} {xs ys : List V} (h : Tw B H' r1 r2 xs ys) (s : Same H' G) : Tw B G r1 r2 xs ys := ⟨fun b o h1 h2 e => s _ _ (h.k b o h1 h2 e), s _ _ h.f1, s _ _ h.f2⟩
theorem Tw.set1 {B H' : Hp} {r1 r2 : Addr} {xs ys zs : List V} (h : Tw B H' r1 r2 xs ys) (hn : r1 ≠ r2) : Tw B (upd H' r1 (.lst zs)) r1 r2 zs ys := ⟨fun b o h1 h2 e => by rw [upd_ne h1]; exact h.k b o h1 h2 e, upd_same, by rw [upd_ne hn.symm]; exact h.f2⟩
theorem Tw.set2 {B H' : Hp} {r1 r2 : Addr} {xs ys zs : List V} (h : Tw B H' r1 r2 xs ys) (hn : r1 ≠ r2) : Tw B (upd H' r2 (.lst zs)) r1 r2 xs zs := ⟨fun b o h1 h2 e => by rw [upd_ne h2]; exact h.k b o h1 h2 e, by rw [upd_ne hn]; exact h.f1, upd_same⟩
theorem Tw.same {B H' H : Hp} {r1 r2 : Addr} {xs ys : List V} (h : Tw B H' r1 r2 xs ys) (s : Same H B) (n1 : H r1 = none) (n2 : H r2 = none) : Same H H' := fun b o e => h.k b o (ne_of_none e n1) (ne_of_none e n2) (s _ _ e)
theorem Tw.tup {K : PySem.W.Frag} {B H' : Hp} {r1 r2 a : Addr} {xs ys zs us ws : List V} (h : Tw B H' r1 r2 xs ys) (ha : SqT K B a zs) (b1 : B r1 = some (.lst us)) (b2 : B r2 = some (.lst ws)) : SqT K H' a zs := by
  have ne : ∀ o, B a = some o → (∀ l, o ≠ .lst l) → a ≠ r1 ∧ a ≠ r2 := fun o e hl => ⟨fun z => by rw [z, b1] at e; exact hl _ (Option.some.inj e).symm, fun z => by rw [z, b2] at e; exact hl _ (Option.some.inj e).symm⟩
  rcases ha with (ha | ⟨o, ha⟩) | ha
  · obtain ⟨n1, n2⟩ := ne _ ha (fun l z => nomatch z)
    exact .inl (.inl (h.k _ _ n1 n2 ha))
  · obtain ⟨n1, n2⟩ := ne _ ha (fun l z => nomatch z)
    exact .inl (.inr ⟨o, h.k _ _ n1 n2 ha⟩)
  · exact .inr ha
theorem cut_from (xs : List V) (n : Nat) : cutV xs (some (n : Int)) none = xs.drop n := by
  unfold cutV
  rw [HT.sIx_nat, HT.sIx_none]
  by_cases h : n ≤ xs.length
  · rw [Nat.min_eq_left h]
    exact List.take_of_length_le (by rw [List.length_drop]; exact Nat.le_refl _)
  · rw [Nat.min_eq_right (by omega), Nat.sub_self, List.take_zero, List.drop_eq_nil_of_le (by omega)]
theorem cut_all {xs : List V} {n : Nat} (h : HT.sIx xs.length 0 (some (n : Int)) = 0) : xs.drop n = xs := by
  rw [HT.sIx_nat] at h
  have : n = 0 ∨ xs.length = 0 := by omega
  rcases this with rfl | z
  · rfl
  · rw [List.length_eq_zero_iff.mp z]
    exact List.drop_nil
/-- what is new behind H, and what stood in Hv -/
def ov (H Hv H' : Hp) : Hp := fun b => match H b with
  | none => H' b
  | some _ => Hv b
theorem ov_new {H Hv H' : Hp} {b : Addr} (h : H b = none) : ov H Hv H' b = H' b := by
  unfold ov
  rw [h]
theorem ov_old {H Hv H' : Hp} {b : Addr} {o : HO} (h : H b = some o) : ov H Hv H' b = Hv b := by
  unfold ov
  rw [h]
theorem ov_sub {H Hv H' : Hp} (s : Same Hv H) : Same Hv (ov H Hv H') := fun b o e => by
  rw [ov_old (s _ _ e)]
  exact e
theorem ov_same {H Hv H' : Hp} (s : Same Hv H) (s1 : Same H H') : Same (ov H Hv H') H' := fun b o e => by
  cases h : H b with
  | none =>
    rw [ov_new h] at e
    exact e
  | some u =>
    rw [ov_old h] at e
    exact s1 _ _ (s _ _ e)
theorem ov_more {H Hv H1 H2 : Hp} (s : Same H1 H2) : Same (ov H Hv H1) (ov H Hv H2) := fun b o e => by
  cases h : H b with
  | none =>
    rw [ov_new h] at e ⊢
    exact s _ _ e
  | some u =>
    rw [ov_old h] at e ⊢
    exact e
theorem ov_step {H Hv H1 H2 : Hp} (s1 : Same H H1) (s2 : Same H1 H2) : Same (ov H1 (ov H Hv H1) H2) (ov H Hv H2) := fun b o e => by
  cases h1 : H1 b with
  | none =>
    rw [ov_new h1] at e
    rw [ov_new (s1.free h1)]
    exact e
  | some u =>
    rw [ov_old h1] at e
    exact ov_more s2 _ _ e
def LongQ (K : PySem.W.Frag) (H Hv : Hp) (ps : List (PyData → Bool)) (m : Nat) (Q : VK) : Prop := ∀ (H' : Hp) (pl aW aA aR aL : Addr) (ak : List Nat) (ws ar : List Int) (lv : List Nat), Same H H' → PlanF K (ov H Hv H') pl ps ak ws aW aA aR aL ar lv → SqL K (ov H Hv H') aW (ws.map V.int) → ak.length ≤ m → Q (.ref pl) H'
structure Recipe (K : PySem.W.Frag) (H : Hp) (rc : Addr) (as : List Addr) (gs : List Sg) : Prop where
  at_ : SqT K H rc (as.map V.ref)
  len : as.length = gs.length
  step : ∀ (i : Nat) (g : Sg) (a : Addr), gs[i]? = some g → as[i]? = some a → StepAt K H a g
  few : ∀ g ∈ gs, g.few
  part : ∀ (i : Nat) (g : Sg), gs[i]? = some g → ∀ k ∈ g.parts, k < i
theorem Recipe.up {K : PySem.W.Frag} {H G : Hp} {rc : Addr} {as : List Addr} {gs : List Sg} (h : Recipe K H rc as gs) (s : Same H G) : Recipe K G rc as gs :=
  ⟨same_sqt s h.at_, h.len, fun i g a e1 e2 => (h.step i g a e1 e2).up s, h.few, h.part⟩
def spLonger (K : PySem.W.Frag) : Sp := fun vs H Q _ => ∃ (pl rc aW aA aR aL : Addr) (ak : List Nat) (ws ar : List Int) (lv : List Nat) (as : List Addr) (g0 gs : List Sg) (Hv : Hp), vs = [.ref pl, .ref rc] ∧ Same Hv H ∧ PlanF K Hv pl (predsOf [] g0) ak ws aW aA aR aL ar lv ∧ Recipe K Hv rc as (g0 ++ gs) ∧
  as.length ≤ 1000 ∧ ak.length + asksN gs ≤ 8 ∧ LongQ K H Hv (predsOf [] (g0 ++ gs)) (ak.length + asksN gs) Q
section
variable {P : Program} {w : World} {K : PySem.W.Frag} {mg : Str → Option Value} {base : Heap}
theorem scLonger : FnScope ["plan", "recipe", "rows", "asked", "step", "inner", "asked_rows", "number", "look"] ["plan", "recipe"] (defScope s_longer_plan) := ⟨rfl, rfl, rfl, by decide +kernel, rfl, by decide +kernel, by decide +kernel⟩
theorem ok_longer {f fA fH fR fT aI aV : Addr} {fd dA dH dR dT : FuncData} {t1 : Tok} (F : Fun K "longer_plan" "longer_plan" s_longer_plan f fd) (T : Nm mg) (B : Nb mg) (gM : mg "MOST_ASKED" = some (.int 8 t1)) (gI : mg "ALL_IN" = some (.ref aI)) (hI : ∀ H, SqT K H aI (allIn.map fun (n : Nat) => V.int n))
    (gV : mg "LEAVES" = some (.ref aV)) (hV : ∀ H, SqT K H aV leavesL)
    (GA : FnOk P w K mg base CX0 1 fA dA ["number", "step"] (spAsked K)) (gA : mg "step_asked" = some (.ref fA)) (kA : PySem.W.keepIn K (.ref fA) = true) (bA : Binds K dA ["number", "step"] [])
    (GH : FnOk P w K mg base CX0 1 fH dH ["step"] (spHasRow K)) (gH : mg "has_row" = some (.ref fH)) (kH : PySem.W.keepIn K (.ref fH) = true) (bH : Binds K dH ["step"] [])
    (GR : FnOk P w K mg base CX0 2 fR dR ["step", "rows", "lists"] (spRow K)) (gR : mg "row_of_step" = some (.ref fR)) (kR : PySem.W.keepIn K (.ref fR) = true) (bR : Binds K dR ["step", "rows", "lists"] [])
    (GT : FnOk P w K mg base CX0 1 fT dT ["rows", "look"] (spToldN K)) (gT : mg "told_by" = some (.ref fT)) (kT : PySem.W.keepIn K (.ref fT) = true) (bT : Binds K dT ["rows", "look"] []) :
    FnOk P w K mg base CX0 3 f fd ["plan", "recipe"] (spLonger K) := by
  refine F.ok scLonger (fun vs H Q E h => ?_) (fun cdv A outer s H vs Q E hr h => ?_)
  · obtain ⟨pl, rc, aW, aA, aR, aL, ak, ws, ar, lv, as, g0, gs, Hv, rfl, _⟩ := h
    rfl
  · obtain ⟨pl, rc, aW, aA, aR, aL, ak, ws, ar, lv, as, g0, gs, Hv, rfl, sv, PF0, RC0, has, h8, q⟩ := h
    have PF := PF0.up sv
    have RC := RC0.up sv
    have r1 : Room 1 _ := hr.mono (by decide)
    refine ⟨_, pss_cons (ps_if (pt_cmp (pc_isN (pv 0))) (pss_one (ps_ret pe_non)) pss_nil) <|
      pss_cons (ps_set (i := 2) scLonger.nd rfl (.inr rfl) (pe_callTy call_list_of (by rfl) T.lst (by decide +kernel) (pa_cons (pe_ix ix_tup (pv 0) pe_int (fun _ _ => rfl)) pa_nil))) <|
      pss_cons (ps_set (i := 3) scLonger.nd rfl (.inl rfl) (pe_callTy call_list_of (by rfl) T.lst (by decide +kernel) (pa_cons (pe_ix ix_tup (pv 0) pe_int (fun _ _ => rfl)) pa_nil))) <|
      pss_cons (ps_for PassesOwn.never rfl (pi_tup (pe_cut (pe_slice sl_tupA (pv 1) (po_some (pe_callB call_len_seq (by rfl) B.len PySem.boot_len (pa_cons (pv 2) pa_nil))) po_none))) (pg_name (i := 4) scLonger.nd rfl (.inl rfl)) (
        pss_cons (ps_set (i := 5) scLonger.nd rfl (.inl rfl) (pe_call GA r1 (by rfl) gA kA bA .nil pass0 (pa_cons (pe_callB call_len_seq (by rfl) B.len PySem.boot_len (pa_cons (pv 2) pa_nil)) (pa_cons (pv 4) pa_nil)))) <|
        C8.pss_cut (ps_if (PW.pt (pw_and (pt_cmp (pc_notN (pv 5))) (pw_and1 (pt_cmpR op_notIn_seq (pv 5) (pv 3) (by rfl))))) (pss_one (ps_expr (pe_bm PySem.F.plainAttrs_list PySem.F.slot_list_append PySem.F.type_list_append mt_append (pv 3) (pa_cons (pv 5) pa_nil)))) pss_nil) <|
        pss_cons (ps_if (PW.pt (pw_or (pt_cmpR op_gt (pe_callB call_len_seq (by rfl) B.len PySem.boot_len (pa_cons (pv 3) pa_nil)) (pe_glob (v := .int 8) (by rfl) gM ⟨_, rfl⟩) (nomark _)) (pw_or1 (pt_not (pt_val (pe_call GH r1 (by rfl) gH kH bH .nil pass0 (pa_cons (pv 4) pa_nil))))))) (pss_one (ps_ret pe_non)) pss_nil) <|
        pss_one (ps_expr (pe_bm PySem.F.plainAttrs_list PySem.F.slot_list_append PySem.F.type_list_append mt_append (pv 2) (pa_cons (pe_call GR hr (by rfl) gR kR bR .nil pass0 (pa_cons (pv 4) (pa_cons (pv 2) (pa_cons
          (pe_ifExp (pt_cmp (pc_isN (pv 5))) pe_int (pe_ix ix_tup (pe_glob (v := .ref aI) (by rfl) gI rfl) (pe_bm PySem.F.plainAttrs_list PySem.F.slot_list_index PySem.F.type_list_index mt_index (pv 3) (pa_cons (pv 5) pa_nil)) (fun _ _ => rfl))) pa_nil)))) pa_nil))))) <|
      pss_cons (ps_if (pt_cmpR op_eq (pe_callB call_len_seq (by rfl) B.len PySem.boot_len (pa_cons (pv 3) pa_nil)) (pe_callB call_len_seq (by rfl) B.len PySem.boot_len (pa_cons (pe_ix ix_tup (pv 0) pe_int (fun _ _ => rfl)) pa_nil)) (nomark _))
        (pss_one (ps_ret (pe_tup (pa_cons (pv 2) (pa_cons (pv 3) (pa_cons (pe_ix ix_tup (pv 0) pe_int (fun _ _ => rfl)) (pa_cons (pe_ix ix_tup (pv 0) pe_int (fun _ _ => rfl)) pa_nil))))))) pss_nil) <|
      pss_cons (ps_set (i := 6) scLonger.nd rfl (.inr rfl) (pe_lc (own := [("number", 7)]) (g := gName 7) (tt := tYes) (te := tOp (rIxL K) (tVar 2) (tVar 7)) rfl scLonger.nd (pi_list (pv 3)) (blkOk_by (own := [("number", 7)]) (N := ["plan", "recipe", "rows", "asked", "step", "inner", "asked_rows", "number", "look"]) (sc := defScope s_longer_plan) (by decide +kernel))
        (fun _ _ _ _ _ => pg_name (i := 7) scLonger.nd rfl (Or.inl rfl)) (fun _ _ _ _ _ => pts_nil) (fun _ _ _ _ _ => pe_ix ix_list (pv 2) (pv 7) (fun _ _ => rfl)))) <|
      pss_one (ps_ret (pe_tup (pa_cons (pv 2) (pa_cons (pv 3) (pa_cons (pv 6) (pa_cons (pe_lc (own := [("look", 8)]) (g := gName 8) (tt := tYes) (te := tCall (spToldN K) [] E0 (tCons (tVar 6) (tCons (tVar 8) tNil))) rfl scLonger.nd (pi_tup (pe_glob (v := .ref aV) (by rfl) gV rfl)) (blkOk_by (own := [("look", 8)]) (N := ["plan", "recipe", "rows", "asked", "step", "inner", "asked_rows", "number", "look"]) (sc := defScope s_longer_plan) (by decide +kernel))
        (fun _ _ _ _ _ => pg_name (i := 8) scLonger.nd rfl (Or.inl rfl)) (fun _ _ _ _ _ => pts_nil) (fun _ _ _ _ _ => pe_call GT r1 (by rfl) gT kT bT .nil pass0 (pa_cons (pv 6) (pa_cons (pv 8) pa_nil)))) pa_nil)))))), ?_⟩
    have n0 : (predsOf [] g0).length = g0.length := by
      rw [predsOf_len]
      simp
    have wl : ws.length = g0.length := by rw [PF.inv.len, n0]
    refine ⟨_, rfl, _, rfl, iteF ?_⟩
    refine ⟨_, rfl, pl, _, 0, _, rfl, rfl, PF.at_, atI_nat (j := 0) rfl, aW, _, rfl, PF.rows, fun rR nR => ?_⟩
    have s1 := same_upd (o := .lst (ws.map V.int)) nR
    refine ⟨_, rfl, pl, _, 1, _, rfl, rfl, same_sqt s1 PF.at_, atI_nat (j := 1) rfl, aA, _, rfl, PF.askd.up s1, fun rA nA => ?_⟩
    have s2 := s1.trans (same_upd (o := .lst (ak.map fun (n : Nat) => V.int n)) nA)
    have fR1 : (upd H rR (.lst (ws.map V.int))) rR = some (.lst (ws.map V.int)) := upd_same
    have hne : rR ≠ rA := ne_of_none fR1 nA
    have nA0 : H rA = none := s1.free nA
    have fR2 : (upd (upd H rR (.lst (ws.map V.int))) rA (.lst (ak.map fun (n : Nat) => V.int n))) rR = some (.lst (ws.map V.int)) := by
      rw [upd_ne hne]
      exact fR1
    have fA2 : (upd (upd H rR (.lst (ws.map V.int))) rA (.lst (ak.map fun (n : Nat) => V.int n))) rA = some (.lst (ak.map fun (n : Nat) => V.int n)) := upd_same
    generalize upd (upd H rR (.lst (ws.map V.int))) rA (.lst (ak.map fun (n : Nat) => V.int n)) = B0 at s2 fR2 fA2
    refine ⟨fun v H' => ∃ a, v = .ref a ∧ Same B0 H' ∧ SqT K H' a ((as.drop g0.length).map V.ref), ?_, ?_⟩
    · refine ⟨_, rfl, _, rfl, rR, _, rfl, .inl (SqL.of fR2), _, rfl, rc, _, rfl, same_sqt s2 RC.at_, fun hw => ?_, fun hw p np => ?_⟩
      · refine ⟨rc, rfl, Same.refl _, ?_⟩
        have e := cut_all hw.1
        rw [List.length_map, wl] at e
        rw [List.map_drop, e]
        exact same_sqt s2 RC.at_
      · refine ⟨p, rfl, same_upd np, SqT.of ?_⟩
        rw [upd_same, cut_from, List.length_map, wl, List.map_drop]
    rintro v B1 ⟨a, rfl, s3, ha⟩
    have fR3 := s3 _ _ fR2
    have fA3 := s3 _ _ fA2
    have sH := s2.trans s3
    have la : (as.drop g0.length).length = gs.length := by
      rw [List.length_drop, RC.len, List.length_append]
      omega
    refine ⟨a, rfl, ⟨_, ha⟩, for_tup (K := K) (a := a) (xs := (as.drop g0.length).map V.ref) (fun i σ H' => ∃ (y4 y5 : Option V) (ak' : List Nat) (ws' : List Int), σ = [some (.ref pl), some (.ref rc), some (.ref rR), some (.ref rA), y4, y5, none, none, none] ∧ Tw B1 H' rR rA (ws'.map V.int) (ak'.map fun (n : Nat) => V.int n) ∧ PInv (predsOf [] (g0 ++ gs.take i)) ak' ws' ∧
      ak'.length ≤ ak.length + asksN (gs.take i) ∧ (∃ r, ak' = ak ++ r) ∧ (∃ r, ws' = ws ++ r)) ?_ ?_ ?_ ?_⟩
    · refine ⟨none, none, ak, ws, rfl, ⟨fun b o _ _ e => e, fR3, fA3⟩, ?_, Nat.le_add_right _ _, ⟨[], by simp⟩, ⟨[], by simp⟩⟩
      rw [List.take_zero, List.append_nil]
      exact PF.inv
    · rintro i σ H' hi ⟨y4, y5, ak', ws', rfl, tw, _⟩
      exact tw.tup ha fR3 fA3
    · rintro i x σ H' hx ⟨y4, y5, ak', ws', rfl, tw, inv, hl, hpa, hpw⟩
      have il : i < gs.length := by
        have := (List.getElem?_eq_some_iff.mp hx).1
        rw [List.length_map, la] at this
        exact this
      have eg := List.getElem?_eq_getElem il
      obtain ⟨g, hg⟩ : ∃ g, gs[i] = g := ⟨_, rfl⟩
      rw [hg] at eg
      have eg2 : (g0 ++ gs)[g0.length + i]? = some g := by
        rw [List.getElem?_append_right (by omega), Nat.add_sub_cancel_left]
        exact eg
      obtain ⟨b, rfl, hb⟩ : ∃ b, x = .ref b ∧ as[g0.length + i]? = some b := by
        rw [List.getElem?_map, List.getElem?_drop] at hx
        cases e : as[g0.length + i]? with
        | none =>
          rw [e] at hx
          cases hx
        | some b =>
          rw [e] at hx
          cases hx
          exact ⟨b, rfl, rfl⟩
      have st0 := RC.step _ _ _ eg2 hb
      have hfew := RC.few g (List.mem_of_getElem? eg2)
      have hpart := RC.part _ _ eg2
      have sHH : Same H H' := tw.same sH nR nA0
      have st := st0.up sHH
      have etk : gs.take (i + 1) = gs.take i ++ [g] := by
        rw [List.take_add_one, eg]
        rfl
      have epr : predsOf [] (g0 ++ gs.take (i + 1)) = predsOf [] (g0 ++ gs.take i) ++ [g.pred (predsOf [] (g0 ++ gs.take i))] := by
        rw [etk, ← List.append_assoc, predsOf_snoc]
      have epl : (predsOf [] (g0 ++ gs.take i)).length = g0.length + i := by
        rw [predsOf_len, List.length_append, List.length_take]
        simp
        omega
      have wsl : (ws'.map V.int).length = g0.length + i := by rw [List.length_map, inv.len, epl]
      have askb : asksN (gs.take (i + 1)) = asksN (gs.take i) + g.askB := by rw [etk, asksN_snoc]
      have askt := asksN_take gs (i + 1)
      refine ⟨_, rfl, rR, _, rfl, .inl (SqL.of tw.f1), _, rfl, g0.length + i, b, g, ?_, st, ?_⟩
      · rw [wsl]
        rfl
      refine ⟨fun σ' G' => σ' = [some (.ref pl), some (.ref rc), some (.ref rR), some (.ref rA), some (.ref b), some (optV (g.asks (g0.length + i))), none, none, none] ∧ Tw B1 G' rR rA (ws'.map V.int) ((askMore ak' (g.asks (g0.length + i))).map fun (n : Nat) => V.int n), ?_, ?_⟩
      · cases ea : g.asks (g0.length + i) with
        | none => exact ⟨_, rfl, _, rfl, iteF (iteF ⟨rfl, tw⟩)⟩
        | some k =>
          refine ⟨_, rfl, _, rfl, iteT ⟨_, rfl, _, rfl, rA, _, rfl, .inl (SqL.of tw.f2), rfl, flat_nats ak', !decide (k ∈ ak'), by rw [← inV_nat]; rfl, ?_⟩⟩
          rw [askMore_some]
          by_cases hk : k ∈ ak'
          · rw [decide_eq_true hk, if_pos hk]
            exact iteF ⟨rfl, tw⟩
          · rw [decide_eq_false hk, if_neg hk]
            refine iteT ⟨_, rfl, .inl ⟨rfl, _, SqL.of tw.f2⟩, _, rfl, rA, _, _, rfl, rfl, tw.f2, ?_, rfl, ?_⟩
            · rw [List.length_map]
              exact Nat.lt_of_le_of_lt (show ak'.length ≤ 8 from inv.few) (by decide)
            · rw [List.map_append]
              exact tw.set2 hne
      rintro σ G ⟨rfl, tw2⟩
      have h2 : (askMore ak' (g.asks (g0.length + i))).length ≤ ak'.length + g.askB := askMore_len
      have hG : Same H G := tw2.same sH nR nA0
      refine ⟨_, rfl, rA, _, rfl, .inl (SqL.of tw2.f2), _, _, rfl, rfl, _, rfl, ltF (by rw [List.length_map]; omega) ⟨_, rfl, b, g, rfl, st0.up hG, hfew, fun G2 s2 => ⟨_, rfl, iteF ?_⟩⟩⟩
      have sG : Same H G2 := hG.trans s2
      refine ⟨_, rfl, .inl ⟨rfl, _, SqL.of (s2 _ _ tw2.f1)⟩, _, rfl, _, rfl, ?_⟩
      cases ea : g.asks (g0.length + i) with
      | none =>
        refine ⟨_, rfl, _, rfl, iteT ?_⟩
        rw [ea] at h2 tw2
        refine ⟨b, rR, g, ws', listsN (askMore ak' (.none : Option Nat)) (.none : Option Nat), rfl, st0.up sG, SqL.of (s2 _ _ tw2.f1), hfew, ?_, fun r hrow => ⟨rR, _, .int r, rfl, rfl, s2 _ _ tw2.f1, ?_, some (.ref b), some (optV (.none : Option Nat)), askMore ak' (.none : Option Nat), ws' ++ [r], rfl, ?_, ?_, ?_, ?_, ?_⟩⟩
        · intro k hk
          have := hpart k hk
          rw [List.length_map] at wsl
          omega
        · rw [wsl]
          exact Nat.lt_of_le_of_lt (show g0.length + i ≤ 1000 by rw [RC.len, List.length_append] at has; omega) (by decide)
        · rw [List.map_append]
          exact (tw2.up s2).set1 hne
        · rw [epr]
          have ea2 := ea
          rw [← epl] at ea2
          have z := inv.step (r := r) g hfew (by rw [epl]; exact hpart) (by rw [ea2]; omega) (by rw [ea2]; exact hrow)
          rw [ea2] at z
          exact z
        · omega
        · obtain ⟨r1, e1⟩ := hpa
          obtain ⟨r2, e2⟩ := askMore_pre (ak := ak') (o := .none)
          exact ⟨r1 ++ r2, by rw [e2, e1, List.append_assoc]⟩
        · obtain ⟨r1, e1⟩ := hpw
          exact ⟨r1 ++ [r], by rw [e1, List.append_assoc]⟩
      | some k =>
        refine ⟨_, rfl, _, rfl, iteF ?_⟩
        rw [ea] at h2 tw2
        have hm : k ∈ askMore ak' (some k) := askMore_mem
        have hj := List.idxOf_lt_length_of_mem hm
        have hjv : ((askMore ak' (some k)).map fun (n : Nat) => V.int n)[(askMore ak' (some k)).idxOf k]? = some (.int (k : Nat)) := by
          rw [List.getElem?_map, List.getElem?_eq_getElem hj, List.getElem_idxOf hj]
          rfl
        have hj8 : (askMore ak' (some k)).idxOf k < allIn.length := by
          show _ < 8
          omega
        refine ⟨_, rfl, .inl ⟨rfl, _, SqL.of (s2 _ _ tw2.f2)⟩, _, rfl, rA, _, .int (k : Nat), _, _, rfl, rfl, SqL.of (s2 _ _ tw2.f2), rfl, flat_nats _, hjv, beq_self_eq_true (k : Int), fun m z hm2 ez => ?_, aI, _, _, .int ((allIn.getD ((askMore ak' (some k)).idxOf k) 0 : Nat) : Int), rfl, rfl, hI _, atI_nat ?_, ?_⟩
        · rw [List.getElem?_map] at ez
          cases e3 : (askMore ak' (some k))[m]? with
          | none =>
            rw [e3] at ez
            cases ez
          | some j =>
            rw [e3] at ez
            cases ez
            have := idxOf_first hm2 j e3
            exact beq_eq_false_iff_ne.mpr (show (j : Int) ≠ (k : Int) by omega)
        · rw [List.getElem?_map, List.getElem?_eq_getElem hj8, List.getD_eq_getElem?_getD, List.getElem?_eq_getElem hj8]
          rfl
        refine ⟨b, rR, g, ws', listsN (askMore ak' (some k)) (some k), rfl, st0.up sG, SqL.of (s2 _ _ tw2.f1), hfew, ?_, fun r hrow => ⟨rR, _, .int r, rfl, rfl, s2 _ _ tw2.f1, ?_, some (.ref b), some (optV (some k)), askMore ak' (some k), ws' ++ [r], rfl, ?_, ?_, ?_, ?_, ?_⟩⟩
        · intro k hk
          have := hpart k hk
          rw [List.length_map] at wsl
          omega
        · rw [wsl]
          exact Nat.lt_of_le_of_lt (show g0.length + i ≤ 1000 by rw [RC.len, List.length_append] at has; omega) (by decide)
        · rw [List.map_append]
          exact (tw2.up s2).set1 hne
        · rw [epr]
          have ea2 := ea
          rw [← epl] at ea2
          have z := inv.step (r := r) g hfew (by rw [epl]; exact hpart) (by rw [ea2]; omega) (by rw [ea2]; exact hrow)
          rw [ea2] at z
          exact z
        · omega
        · obtain ⟨r1, e1⟩ := hpa
          obtain ⟨r2, e2⟩ := askMore_pre (ak := ak') (o := some k)
          exact ⟨r1 ++ r2, by rw [e2, e1, List.append_assoc]⟩
        · obtain ⟨r1, e1⟩ := hpw
          exact ⟨r1 ++ [r], by rw [e1, List.append_assoc]⟩
    · rintro σ H' ⟨y4, y5, ak', ws', rfl, tw, inv, hl, ⟨ra, ha'⟩, ⟨rw_, hw'⟩⟩
      have eall : gs.take ((as.drop g0.length).map V.ref).length = gs := by
        rw [List.length_map, la]
        exact List.take_length
      rw [eall] at inv hl
      have sHH : Same H H' := tw.same sH nR nA0
      have getW : ∀ k, k ∈ ak' → k < ws'.length := fun k hk => by
        have := inv.inn k hk
        rw [inv.len]
        exact this
      refine ⟨_, rfl, rA, _, rfl, .inl (SqL.of tw.f2), _, rfl, pl, _, 1, _, rfl, rfl, same_sqt sHH PF.at_, atI_nat (j := 1) rfl, aA, _, rfl, PF.askd.up sHH, rfl, _, rfl, ?_⟩
      by_cases he : ak'.length = ak.length
      · refine eqT (by rw [List.length_map, List.length_map, he]) ?_
        have era : ra = [] := by
          have e := congrArg List.length ha'
          rw [List.length_append] at e
          exact List.length_eq_zero_iff.mp (by omega)
        subst era
        rw [List.append_nil] at ha'
        subst ha'
        refine ⟨_, rfl, _, rfl, _, rfl, pl, _, 2, _, rfl, rfl, same_sqt sHH PF.at_, atI_nat (j := 2) rfl, _, rfl, pl, _, 3, _, rfl, rfl, same_sqt sHH PF.at_, atI_nat (j := 3) rfl, (by show 4 ≤ sizeLine; decide), fun t nt => ?_⟩
        have s9 := sHH.trans (same_upd (o := .tup [.ref rR, .ref rA, .ref aR, .ref aL]) nt)
        have u := same_upd (o := .tup [.ref rR, .ref rA, .ref aR, .ref aL]) nt
        have so := ov_sub (H' := upd H' t (.tup [.ref rR, .ref rA, .ref aR, .ref aL])) sv
        have nt0 : H t = none := sHH.free nt
        refine q _ t rR rA aR aL ak' ws' ar lv s9 ⟨SqT.of (by rw [ov_new nt0, upd_same]), .inl (SqL.of (by rw [ov_new nR]; exact u _ _ tw.f1)), .inl (SqL.of (by rw [ov_new nA0]; exact u _ _ tw.f2)), (PF0.up so).arow, (PF0.up so).leav, PF.six, inv, ?_, PF.ok⟩ (SqL.of (by rw [ov_new nR]; exact u _ _ tw.f1)) (by omega)
        rw [PF.arr]
        refine List.map_congr_left fun k hk => ?_
        have hk2 := PF.inv.inn k hk
        rw [← PF.inv.len] at hk2
        rw [hw', List.getD_eq_getElem?_getD, List.getD_eq_getElem?_getD, List.getElem?_append_left hk2]
      · refine eqF (by rw [List.length_map, List.length_map]; omega) ?_
        refine ⟨_, rfl, rA, rfl, ⟨_, SqL.of tw.f2⟩, fun D nD => lc_list (K := K) (a := rA) (xs := ak'.map fun (n : Nat) => V.int n) (fun j H2 => H2 D = some (.lst (((ak'.take j).map fun k => ws'.getD k 0).map V.int)) ∧ Same H' H2) ⟨upd_same, same_upd nD⟩ (fun j H2 hj ⟨_, sm⟩ => SqL.of (sm _ _ tw.f2)) ?_ ?_⟩
        · rintro j x H2 hx ⟨hD, sm⟩
          have jl : j < ak'.length := by
            have := (List.getElem?_eq_some_iff.mp hx).1
            rw [List.length_map] at this
            exact this
          have ex : x = .int ((ak'[j] : Nat) : Int) := by
            rw [List.getElem?_map, List.getElem?_eq_getElem jl] at hx
            exact (Option.some.inj hx).symm
          subst ex
          refine ⟨rfl, ⟨_, rfl, _, rfl, rR, _, _, _, rfl, rfl, SqL.of (sm _ _ tw.f1), at_map (getW _ (List.getElem_mem jl)), _, hD, ?_, ?_, same_fresh nD sm⟩⟩
          · rw [List.length_map, List.length_map, List.length_take]
            exact Nat.lt_of_le_of_lt (show min j ak'.length ≤ 8 by have := inv.few; omega) (by decide)
          · rw [upd_same, List.take_add_one, List.getElem?_eq_getElem jl]
            simp only [List.map_append, Option.toList_some, List.map_cons, List.map_nil]
        rintro H2 ⟨hD, sm⟩
        rw [List.length_map, List.take_length] at hD
        obtain ⟨ar', ear⟩ : ∃ ar', ar' = ak'.map fun k => ws'.getD k 0 := ⟨_, rfl⟩
        rw [← ear] at hD
        refine ⟨_, rfl, _, rfl, _, rfl, aV, rfl, ⟨_, hV _⟩, fun D2 nD2 => lc_tup (K := K) (a := aV) (xs := leavesL) (fun j H3 => H3 D2 = some (.lst (((List.range j).map fun n => toldN (256 + n) ar').map fun (n : Nat) => V.int n)) ∧ Same H2 H3) ⟨upd_same, same_upd nD2⟩ (fun j H3 hj _ => hV _) ?_ ?_⟩
        · rintro j x H3 hx ⟨hD3, sm3⟩
          have jl : j < 6 := (List.getElem?_eq_some_iff.mp hx).1
          have ex : x = .int ((256 + j : Nat) : Int) := by
            have : j = 0 ∨ j = 1 ∨ j = 2 ∨ j = 3 ∨ j = 4 ∨ j = 5 := by omega
            rcases this with rfl | rfl | rfl | rfl | rfl | rfl <;> · cases hx; rfl
          subst ex
          refine ⟨rfl, ⟨_, rfl, _, rfl, D, ar', 256 + j, rfl, .inl (SqL.of (sm3 _ _ hD)), fun H4 s4 => ⟨_, s4 _ _ hD3, ?_, ?_, same_fresh nD2 (sm3.trans s4)⟩⟩⟩
          · rw [List.length_map, List.length_map, List.length_range]
            exact Nat.lt_of_lt_of_le jl (by decide)
          · rw [upd_same, List.range_succ]
            simp only [List.map_append, List.map_cons, List.map_nil]
        rintro H3 ⟨hD3, sm3⟩
        refine ⟨(by show 4 ≤ sizeLine; decide), fun t nt => ?_⟩
        have u := same_upd (o := .tup [.ref rR, .ref rA, .ref D, .ref D2]) nt
        have s9 := (sm.trans sm3).trans u
        have nt0 : H t = none := (sHH.trans (sm.trans sm3)).free nt
        have nD0 : H D = none := sHH.free nD
        have nD20 : H D2 = none := (sHH.trans sm).free nD2
        refine q _ t rR rA D D2 ak' ws' ar' ((List.range 6).map fun n => toldN (256 + n) ar') (sHH.trans s9) ⟨SqT.of (by rw [ov_new nt0, upd_same]), .inl (SqL.of (by rw [ov_new nR]; exact s9 _ _ tw.f1)), .inl (SqL.of (by rw [ov_new nA0]; exact s9 _ _ tw.f2)), .inl (SqL.of (by rw [ov_new nD0]; exact (sm3.trans u) _ _ hD)), .inl (SqL.of (by rw [ov_new nD20]; exact u _ _ hD3)), by simp, inv, ear, fun n hn => ?_⟩ (SqL.of (by rw [ov_new nR]; exact s9 _ _ tw.f1)) (by omega)
        rw [List.getD_eq_getElem?_getD, List.getElem?_map, List.getElem?_range hn]
        rfl
end
end TX
namespace TX
open PySem PySem.Spec PyProof.Rows L2
/-! ### sequences beside an object -/
theorem sqt_delO {K : PySem.W.Frag} {H : Hp} {a r C dx : Addr} {xs : List V} {fs : List (Str × V)} (h : SqT K H a xs) (hr : H r = some (.ins C dx fs)) : SqT K (del H r) a xs := by
  rcases h with (h | ⟨o, h⟩) | h
  · have e : a ≠ r := fun z => by
      rw [z, hr] at h
      cases h
    exact .inl (.inl (by rw [del_ne e]; exact h))
  · have e : a ≠ r := fun z => by
      rw [z, hr] at h
      cases h
    exact .inl (.inr ⟨o, by rw [del_ne e]; exact h⟩)
  · exact .inr h
theorem sql_delO {K : PySem.W.Frag} {H : Hp} {a r C dx : Addr} {xs : List V} {fs : List (Str × V)} (h : SqL K H a xs) (hr : H r = some (.ins C dx fs)) : SqL K (del H r) a xs := by
  rcases h with (h | ⟨o, h⟩) | h
  · have e : a ≠ r := fun z => by
      rw [z, hr] at h
      cases h
    exact .inl (.inl (by rw [del_ne e]; exact h))
  · have e : a ≠ r := fun z => by
      rw [z, hr] at h
      cases h
    exact .inl (.inr ⟨o, by rw [del_ne e]; exact h⟩)
  · exact .inr h
end TX
namespace TX
open PySem PySem.Spec PyProof.Rows L2
/-! ### recipes -/
def spFirst (K : PySem.W.Frag) : Sp := fun vs H Q _ => ∃ (g : Sg) (n : Addr) (Hv : Hp), vs = [.str g.sign, .ref n] ∧ Same Hv H ∧ SqT K Hv n g.nums ∧ g.parts = [] ∧ g.few ∧ ∀ (H' : Hp) (rc : Addr) (as : List Addr), Same H H' → Recipe K (ov H Hv H') rc as [g] → Q (.ref rc) H'
def spAbove (K : PySem.W.Frag) : Sp := fun vs H Q _ => ∃ (g : Sg) (rc : Addr) (as : List Addr) (gs : List Sg) (Hv : Hp), vs = [.str g.sign, .ref rc] ∧ Same Hv H ∧ Recipe K Hv rc as gs ∧ gs ≠ [] ∧ g.parts = [gs.length - 1] ∧ g.nums = [] ∧ g.few ∧ as.length ≤ 500 ∧
  ∀ (H' : Hp) (rc' : Addr) (as' : List Addr), Same H H' → Recipe K (ov H Hv H') rc' as' (gs ++ [g]) → Q (.ref rc') H'
section
variable {P : Program} {w : World} {K : PySem.W.Frag} {mg : Str → Option Value} {base : Heap}
theorem scFirst : FnScope ["sign", "numbers"] ["sign", "numbers"] (defScope s_first_step) := ⟨rfl, rfl, rfl, by decide +kernel, rfl, by decide +kernel, by decide +kernel⟩
theorem ok_first {f : Addr} {fd : FuncData} (F : Fun K "first_step" "first_step" s_first_step f fd) : FnOk P w K mg base CX0 1 f fd ["sign", "numbers"] (spFirst K) := by
  refine F.ok scFirst (fun vs H Q E h => ?_) (fun cdv A outer s H vs Q E hr h => ?_)
  · obtain ⟨g, n, Hv, rfl, _⟩ := h
    rfl
  · obtain ⟨g, n, Hv, rfl, sv, hn, hp, hf, q⟩ := h
    refine ⟨_, pss_one (ps_ret (pe_tup (pa_cons (pe_tup (pa_cons (pv 0) (pa_cons (pe_tup pa_nil) (pa_cons (pv 1) pa_nil)))) pa_nil))), ?_⟩
    refine ⟨_, rfl, Nat.zero_le _, fun p np => ⟨_, rfl, (by show 3 ≤ sizeLine; decide), fun a na => ⟨(by show 1 ≤ sizeLine; decide), fun rc nc => ?_⟩⟩⟩
    have s1 := same_upd (o := .tup []) np
    have s2 := same_upd (o := .tup [.str g.sign, .ref p, .ref n]) na
    have s3 := same_upd (o := .tup [.ref a]) nc
    have na0 : H a = none := s1.free na
    have nc0 : H rc = none := (s1.trans s2).free nc
    have so := ov_sub (H' := upd (upd (upd H p (.tup [])) a (.tup [.str g.sign, .ref p, .ref n])) rc (.tup [.ref a])) sv
    refine q _ rc [a] ((s1.trans s2).trans s3) ⟨SqT.of (by rw [ov_new nc0, upd_same]; rfl), rfl, fun i g' a' e1 e2 => ?_, fun g' hg => ?_, fun i g' e1 k hk => ?_⟩
    · have hi : i = 0 := by
        have := (List.getElem?_eq_some_iff.mp e1).1
        simp at this
        omega
      subst hi
      cases e1
      cases e2
      refine ⟨p, n, SqT.of (by rw [ov_new na0]; exact s3 _ _ upd_same), ?_, same_sqt so hn⟩
      rw [hp]
      exact SqT.of (by rw [ov_new np]; exact (s2.trans s3) _ _ upd_same)
    · rw [List.mem_singleton.mp hg]
      exact hf
    · have hi : i = 0 := by
        have := (List.getElem?_eq_some_iff.mp e1).1
        simp at this
        omega
      subst hi
      cases e1
      rw [hp] at hk
      cases hk
theorem Recipe.snoc {H : Hp} {rc a : Addr} {as : List Addr} {gs : List Sg} {g : Sg} {rc0 : Addr} (h : Recipe K H rc0 as gs) (ha : SqT K H rc ((as ++ [a]).map V.ref)) (hs : StepAt K H a g) (hf : g.few) (hp : ∀ k ∈ g.parts, k < gs.length) : Recipe K H rc (as ++ [a]) (gs ++ [g]) := by
  refine ⟨ha, by rw [List.length_append, List.length_append, h.len]; rfl, fun i g' a' e1 e2 => ?_, fun g' hg => ?_, fun i g' e1 k hk => ?_⟩
  · by_cases hi : i < gs.length
    · rw [List.getElem?_append_left hi] at e1
      rw [List.getElem?_append_left (by rw [h.len]; exact hi)] at e2
      exact h.step i g' a' e1 e2
    · have hl := (List.getElem?_eq_some_iff.mp e1).1
      rw [List.length_append, List.length_singleton] at hl
      have hi2 : i = gs.length := by omega
      subst hi2
      rw [List.getElem?_append_right (Nat.le_refl _), Nat.sub_self] at e1
      rw [List.getElem?_append_right (by rw [h.len]; exact Nat.le_refl _), h.len, Nat.sub_self] at e2
      cases e1
      cases e2
      exact hs
  · rcases List.mem_append.mp hg with z | z
    · exact h.few g' z
    · rw [List.mem_singleton.mp z]
      exact hf
  · by_cases hi : i < gs.length
    · rw [List.getElem?_append_left hi] at e1
      exact h.part i g' e1 k hk
    · have hl := (List.getElem?_eq_some_iff.mp e1).1
      rw [List.length_append, List.length_singleton] at hl
      have hi2 : i = gs.length := by omega
      subst hi2
      rw [List.getElem?_append_right (Nat.le_refl _), Nat.sub_self] at e1
      cases e1
      exact hp k hk
theorem scAbove : FnScope ["sign", "recipe"] ["sign", "recipe"] (defScope s_step_above) := ⟨rfl, rfl, rfl, by decide +kernel, rfl, by decide +kernel, by decide +kernel⟩
theorem ok_above {f : Addr} {fd : FuncData} (F : Fun K "step_above" "step_above" s_step_above f fd) (B : Nb mg) : FnOk P w K mg base CX0 1 f fd ["sign", "recipe"] (spAbove K) := by
  refine F.ok scAbove (fun vs H Q E h => ?_) (fun cdv A outer s H vs Q E hr h => ?_)
  · obtain ⟨g, rc, as, gs, Hv, rfl, _⟩ := h
    rfl
  · obtain ⟨g, rc, as, gs, Hv, rfl, sv, RC0, hne, hp, hn, hf, hz, q⟩ := h
    have RC := RC0.up sv
    refine ⟨_, pss_one (ps_ret (pe_tup (StX.pa_star (pv 1) (pa_cons (pe_tup (pa_cons (pv 0) (pa_cons (pe_tup (pa_cons (pe_op op_sub (pe_callB call_len_seq (by rfl) B.len PySem.boot_len (pa_cons (pv 1) pa_nil)) pe_int) pa_nil)) (pa_cons (pe_tup pa_nil) pa_nil)))) pa_nil)))), ?_⟩
    have gl : 0 < gs.length := List.length_pos_iff.mpr hne
    have al := RC.len
    refine ⟨_, rfl, rc, _, rfl, .inl RC.at_, _, rfl, _, rfl, rc, _, rfl, .inr RC.at_, _, _, rfl, rfl, (by show 1 ≤ sizeLine; decide), fun p np => ⟨Nat.zero_le _, fun n nn => ⟨(by show 3 ≤ sizeLine; decide), fun a na => ⟨?_, fun rc' nc => ?_⟩⟩⟩⟩
    · rw [List.length_append, List.length_map]
      exact Nat.le_trans (show as.length + 1 ≤ 1000 by omega) (by decide)
    · have e1 : ((as.map V.ref).length : Int) - 1 = ((gs.length - 1 : Nat) : Int) := by
        rw [List.length_map]
        omega
      have e0 : (HO.tup [(fun i j : Int => V.int (i - j)) (((as.map V.ref).length : Nat) : Int) 1]) = HO.tup [.int ((gs.length - 1 : Nat) : Int)] := by
        show HO.tup [.int ((((as.map V.ref).length : Nat) : Int) - 1)] = _
        rw [e1]
      rw [e0] at na nn nc ⊢
      have s1 := same_upd (o := .tup [.int ((gs.length - 1 : Nat) : Int)]) np
      have s2 := same_upd (o := .tup []) nn
      have s3 := same_upd (o := .tup [.str g.sign, .ref p, .ref n]) na
      have s4 := same_upd (o := .tup (as.map V.ref ++ [.ref a])) nc
      have so := ov_sub (H' := upd (upd (upd (upd H p (.tup [.int ((gs.length - 1 : Nat) : Int)])) n (.tup [])) a (.tup [.str g.sign, .ref p, .ref n])) rc' (.tup (as.map V.ref ++ [.ref a]))) sv
      refine q _ rc' (as ++ [a]) (((s1.trans s2).trans s3).trans s4) ((RC0.up so).snoc ?_ ⟨p, n, SqT.of (by rw [ov_new ((s1.trans s2).free na)]; exact s4 _ _ upd_same), ?_, ?_⟩ hf ?_)
      · rw [List.map_append]
        exact SqT.of (by rw [ov_new (((s1.trans s2).trans s3).free nc), upd_same]; rfl)
      · rw [hp]
        exact SqT.of (by rw [ov_new np]; exact ((s2.trans s3).trans s4) _ _ upd_same)
      · rw [hn]
        exact SqT.of (by rw [ov_new (s1.free nn)]; exact (s3.trans s4) _ _ upd_same)
      · intro k hk
        rw [hp, List.mem_singleton] at hk
        omega
end
/-! ### shapes -/
def shF (rc pl : Addr) : List (Str × V) := putF "_plan" (.ref pl) (putF "recipe" (.ref rc) [])
theorem shF_rec (rc pl : Addr) : (shF rc pl).lookup ("recipe" : Str) = some (.ref rc) := by
  unfold shF
  rw [lookup_putF, if_neg (by decide +kernel), lookup_putF, if_pos rfl]
theorem shF_plan (rc pl : Addr) : (shF rc pl).lookup ("_plan" : Str) = some (.ref pl) := by
  unfold shF
  rw [lookup_putF, if_pos rfl]
structure Ek (K : PySem.W.Frag) (mg : Str → Option Value) (C : Addr) : Prop where
  cl : Cls K C
  nR : NoAttr K C "recipe"
  nP : NoAttr K C "_plan"
  mgC : mg "Shape" = some (.ref C)
/-- a shape: the steps of its recipe -/
def ShAt (K : PySem.W.Frag) (H : Hp) (C x : Addr) (gs : List Sg) : Prop := ∃ (dx rc pl aW aA aR aL : Addr) (as : List Addr) (ak : List Nat) (ws ar : List Int) (lv : List Nat), H x = some (.ins C dx (shF rc pl)) ∧ Recipe K H rc as gs ∧ PlanF K H pl (predsOf [] gs) ak ws aW aA aR aL ar lv ∧ SqL K H aW (ws.map V.int) ∧ ak.length ≤ asksN gs
theorem ShAt.up {K : PySem.W.Frag} {H G : Hp} {C x : Addr} {gs : List Sg} (h : ShAt K H C x gs) (s : Same H G) : ShAt K G C x gs := by
  obtain ⟨dx, rc, pl, aW, aA, aR, aL, as, ak, ws, ar, lv, h1, h2, h3, h4, h5⟩ := h
  exact ⟨dx, rc, pl, aW, aA, aR, aL, as, ak, ws, ar, lv, s _ _ h1, h2.up s, h3.up s, s.seq h4, h5⟩
def spInitS (K : PySem.W.Frag) (C : Addr) : Sp := fun vs H Q _ => ∃ (p dx rc pl aW aA aR aL : Addr) (ak : List Nat) (ws ar : List Int) (lv : List Nat) (as : List Addr) (g0 gs : List Sg) (H0 Hv : Hp), vs = [.ref p, .ref rc, .ref pl] ∧ H p = some (.ins C dx []) ∧ Same H0 H ∧ H0 p = none ∧ Same Hv H0 ∧
  PlanF K Hv pl (predsOf [] g0) ak ws aW aA aR aL ar lv ∧ Recipe K Hv rc as (g0 ++ gs) ∧ as.length ≤ 500 ∧ ak.length ≤ asksN g0 ∧ asksN g0 + asksN gs ≤ 8 ∧ asksN (g0 ++ gs) = asksN g0 + asksN gs ∧ ∀ H', Same H0 H' → ShAt K (ov H0 Hv H') C p (g0 ++ gs) → Q .non H'
/-- what a new shape gives -/
def NewS (K : PySem.W.Frag) (C : Addr) (H Hv : Hp) (gs : List Sg) (Q : VK) : Prop := ∀ (H' : Hp) (x : Addr), Same H H' → H x = none → ShAt K (ov H Hv H') C x gs → Q (.ref x) H'
theorem NewS.up {K : PySem.W.Frag} {C : Addr} {H G Hv : Hp} {gs : List Sg} {Q : VK} (q : NewS K C H Hv gs Q) (s : Same H G) : NewS K C G (ov H Hv G) gs Q := fun H' x s1 nx sh => q H' x (s.trans s1) (s.free nx) (sh.up (ov_step s s1))
theorem mk_shape {K : PySem.W.Frag} {C : Addr} {H Hv : Hp} {Q : VK} {E : XK} {rc pl aW aA aR aL : Addr} {ak : List Nat} {ws ar : List Int} {lv : List Nat} {as : List Addr} {g0 gs : List Sg} (sv : Same Hv H) (PF : PlanF K Hv pl (predsOf [] g0) ak ws aW aA aR aL ar lv) (RC : Recipe K Hv rc as (g0 ++ gs)) (hz : as.length ≤ 500) (hk : ak.length ≤ asksN g0)
    (h8 : asksN g0 + asksN gs ≤ 8) (ha : asksN (g0 ++ gs) = asksN g0 + asksN gs) (q : NewS K C H Hv (g0 ++ gs) Q) : ∀ x dx, H x = none → H dx = none → dx ≠ x → spInitS K C [.ref x, .ref rc, .ref pl] (upd (upd H dx (.own x)) x (.ins C dx [])) (fun v H2 => v = .non ∧ Q (.ref x) H2) E := by
  intro x dx nx ndx hne
  have s0 : Same H (upd (upd H dx (.own x)) x (.ins C dx [])) := same_fresh nx (same_upd ndx)
  exact ⟨x, dx, rc, pl, aW, aA, aR, aL, ak, ws, ar, lv, as, g0, gs, H, Hv, rfl, upd_same, s0, nx, sv, PF, RC, hz, hk, h8, ha, fun H' s1 sh => ⟨rfl, q H' x s1 nx sh⟩⟩
section
variable {P : Program} {w : World} {K : PySem.W.Frag} {mg : Str → Option Value} {base : Heap} {C : Addr}
theorem scInitS : FnScope ["self", "recipe", "before"] ["self", "recipe", "before"] (defScope mShape_init) := ⟨rfl, rfl, rfl, by decide +kernel, rfl, by decide +kernel, by decide +kernel⟩
theorem ok_initS {f fL : Addr} {fd dL : FuncData} (F : Fun K "__init__" "Shape.__init__" mShape_init f fd) (T : Ek K mg C) (GL : FnOk P w K mg base CX0 3 fL dL ["plan", "recipe"] (spLonger K)) (gL : mg "longer_plan" = some (.ref fL)) (kL : PySem.W.keepIn K (.ref fL) = true) (bL : Binds K dL ["plan", "recipe"] []) :
    FnOk P w K mg base CX0 4 f fd ["self", "recipe", "before"] (spInitS K C) := by
  refine F.ok scInitS (fun vs H Q E h => ?_) (fun cdv A outer s H vs Q E hr h => ?_)
  · obtain ⟨p, dx, rc, pl, aW, aA, aR, aL, ak, ws, ar, lv, as, g0, gs, H0, Hv, rfl, _⟩ := h
    rfl
  · obtain ⟨p, dx, rc, pl, aW, aA, aR, aL, ak, ws, ar, lv, as, g0, gs, H0, Hv, rfl, hp, s0, np, sv, PF, RC, hz, hk, h8, ha, q⟩ := h
    refine ⟨_, pss_cons (ps_fld (pv 0) (pv 1) rfl) <| pss_one (ps_fld (pv 0) (pe_call GL hr (by rfl) gL kL bL .nil pass0 (pa_cons (pv 2) (pa_cons (pv 1) pa_nil))) rfl), ?_⟩
    refine ⟨_, rfl, _, rfl, p, C, dx, [], rfl, hp, T.cl, T.nR, (by show 0 < 1000; decide), ?_⟩
    have s1 : Same H0 (upd H p (.ins C dx (putF "recipe" (.ref rc) []))) := same_fresh np s0
    have hp1 : (upd H p (.ins C dx (putF "recipe" (.ref rc) []))) p = some (.ins C dx (putF "recipe" (.ref rc) [])) := upd_same
    generalize upd H p (.ins C dx (putF "recipe" (.ref rc) [])) = H1 at s1 hp1
    refine ⟨_, rfl, _, rfl, pl, rc, aW, aA, aR, aL, ak, ws, ar, lv, as, g0, gs, Hv, rfl, sv.trans s1, PF, RC, by omega, by omega, fun H' pl' aW' aA' aR' aL' ak' ws' ar' lv' s2 PF' hW' hk' => ?_⟩
    refine ⟨_, rfl, p, C, dx, _, rfl, s2 _ _ hp1, T.cl, T.nP, (by show 1 < 1000; decide), ?_⟩
    have s3 : Same H0 (upd H' p (.ins C dx (shF rc pl'))) := same_fresh np (s1.trans s2)
    have sA : Same (ov H1 Hv H') (ov H0 Hv (upd H' p (.ins C dx (shF rc pl')))) := fun b o e => by
      cases h1 : H1 b with
      | none =>
        rw [ov_new h1] at e
        rw [ov_new (s1.free h1), upd_ne (ne_of_none hp1 h1).symm]
        exact e
      | some u =>
        rw [ov_old h1] at e
        rw [ov_old (sv _ _ e)]
        exact e
    refine q _ s3 ⟨dx, rc, pl', aW', aA', aR', aL', as, ak', ws', ar', lv', by rw [ov_new np, upd_same]; rfl, RC.up (ov_sub sv), PF'.up sA, sA.seq hW', by omega⟩
end
end TX
namespace TX
open PySem PySem.Spec PyProof.Rows L2
section
variable {X : Cx} {CX : CXT} {C f : Addr} {k : Nat} {fd : FuncData} {ps : List Str} {sp : Sp} {E : XK} {ds dvs : List V} {us0 : List Value}
/-- C(..), C held by a name of the def -/
def tMakeV (i : Nat) (C : Addr) (sp : Sp) (E : XK) (t : TA) : TE := fun σ H Q => σ[i]? = some (some (.ref C)) ∧ t σ H fun vs H1 => ∀ x dx, H1 x = none → H1 dx = none → dx ≠ x → sp (.ref x :: (vs ++ [])) (upd (upd H1 dx (.own x)) x (.ins C dx [])) (fun v H2 => v = .non ∧ Q (.ref x) H2) E
theorem pe_makeV {i : Nat} {x : Str} {p pos : Pos} {e : Expr} {es : List Expr} {t : TA} (M : Mk X.K C f) (F : FnOk X.prog X.w X.K X.mg X.base CX k f fd ps sp) (hr : Room (k + 1) X.A) (hN : X.N[i]? = some x) (hv : Vis X.env.scope x) (hb : Binds X.K fd ps []) (hx : Passes CX X E) (ha : PA X (e :: es) t)
    (hd : (x == ("__debug__" : Str)) = false := by decide) (hcd : (x == ("__classdict__" : Str)) = false := by decide)
    (he : starEach (e :: es) X.env = (false, eval e X.env) :: starEach es X.env := by rfl) (hpl : (backTo pos (starEach es X.env)).any (·.1) = false := by rfl) :
    PE X (.Call (.Name x p) (e :: es) [] pos) (tMakeV i C sp E t) := by
  refine ⟨fun pins s σ H Q I h => ?_⟩
  obtain ⟨hs, ht⟩ := h
  refine wpAny_Call_Name_kw (thn ((pe_var (pos := p) hN hv hd hcd).run pins s σ H (fun v H1 => v = .ref C ∧ H1 = H) I ⟨.ref C, hs, rfl, rfl⟩) fun u s1 ⟨v, H1, I1, r1, q1⟩ => ?_)
  obtain ⟨rfl, rfl⟩ := q1
  cases r1
  refine PySem.W.callWith_K (h₀ := X.base) I.ok.mod.kin M.kp (thn (ha.run pos pins s1 σ _ _ I1 ht) fun us s2 ⟨vs, H2, I2, r, q⟩ => ⟨I2.kIn, ?_⟩) he hpl
  exact run_make M F hr hb .nil hx I2 r q
end
section
variable {X : Cx} {CX : CXT} {k : Nat} {C p g : Addr} {mc : Value} {sp : Sp} {E : XK} {o : Expr} {m : Str} {pos apos : Pos} {ta : TE} {pl : Sem Bool}
/-- C.m() -/
theorem pe_cmeth0 (he : PE X o ta) (r : ClX.CRead X.K C mc) (c : ClX.CMet X.K C mc m p g) (F : FnR X.prog X.w X.K X.mg X.base CX k g sp) (hr : Room k X.A) (hx : Passes CX X E)
    (ht : eval (.Call (.Attribute o m apos) [] [] pos) X.env = (do
      let ov ← eval o X.env
      standAt apos.atName
      let (f, first) ← holding [ov] (getMethod ov m pl)
      callWith pos f first (backTo pos (starEach [] X.env)) (backToKw pos (keywordEach [] X.env))) := by rfl) :
    PE X (.Call (.Attribute o m apos) [] [] pos) (ClX.tCMeth C sp E ta tNil) := by
  refine ⟨fun pins s σ H Q I h => ?_⟩
  refine PySem.W.methodCall_KW (pl := pl) (thn (he.run pins s σ H _ I h) fun u s1 ⟨x, H1, I1, rx, ex, q⟩ => ?_) ht
  subst ex
  obtain rfl : u = Value.ref C := rx
  refine ClX.getmethcm_ok I1 r c fun s2 I2 => ?_
  refine PySem.W.callWith_M0 (first := []) ⟨ClX.pin_at I2, I2.kIn⟩ c.fi ?_
  exact ClX.run_cm F hr hx I2 .nil q
end
end TX
namespace TX
open PySem PySem.Spec PyProof.Rows L2
/-! ### the class -/
structure Np (K : PySem.W.Frag) (aN e1 e2 e3 e4 : Addr) : Prop where
  at_ : ∀ H, SqT K H aN [.ref e1, .ref e2, .ref e3, .ref e4]
  a1 : ∀ H, SqT K H e1 []
  a2 : ∀ H, SqT K H e2 []
  a3 : ∀ H, SqT K H e3 []
  a4 : ∀ H, SqT K H e4 [.int 0, .int 0, .int 0, .int 0, .int 0, .int 0]
theorem Np.plan {K : PySem.W.Frag} {aN e1 e2 e3 e4 : Addr} (N : Np K aN e1 e2 e3 e4) (H : Hp) : PlanF K H aN (predsOf [] []) [] [] e1 e2 e3 e4 [] [0, 0, 0, 0, 0, 0] := by
  refine ⟨N.at_ H, .inr (N.a1 H), .inr (N.a2 H), .inr ⟨N.a3 H, rfl⟩, .inr (N.a4 H), rfl, ⟨rfl, Nat.zero_le _, fun k hk => (nomatch hk), fun i r p e1 _ => ?_⟩, rfl, fun n hn => ?_⟩
  · simp at e1
  · have : n = 0 ∨ n = 1 ∨ n = 2 ∨ n = 3 ∨ n = 4 ∨ n = 5 := by omega
    rcases this with rfl | rfl | rfl | rfl | rfl | rfl <;> rfl
def spOne (K : PySem.W.Frag) (C : Addr) (g : Sg) : Sp := fun vs H Q _ => ∃ Hv, vs = [.ref C] ∧ Same Hv H ∧ NewS K C H Hv [g] Q
def spTexts (K : PySem.W.Frag) (C : Addr) : Sp := fun vs H Q _ => ∃ (lo : Nat) (hi : Option Nat) (Hv : Hp), vs = [.ref C, .int (lo : Nat), hiV hi] ∧ Same Hv H ∧ lo ≤ 3 ∧ (∀ h, hi = some h → h ≤ 3) ∧ NewS K C H Hv [.texts lo hi] Q
def spOver (K : PySem.W.Frag) (C : Addr) (mk : Nat → Sg) : Sp := fun vs H Q _ => ∃ (x : Addr) (gs : List Sg) (Hv : Hp), vs = [.ref C, .ref x] ∧ Same Hv H ∧ ShAt K Hv C x gs ∧ gs ≠ [] ∧ gs.length ≤ 400 ∧ asksN gs + 1 ≤ 8 ∧ NewS K C H Hv (gs ++ [mk (gs.length - 1)]) Q
def spConS (K : PySem.W.Frag) (C : Addr) : Sp := fun vs H Q _ => ∃ (x : Addr) (gs : List Sg) (g : Sg) (v : V) (d : PyData) (Hv : Hp), vs = [.ref x, v] ∧ ShAt K Hv C x (gs ++ [g]) ∧ Same Hv H ∧ Dp K Hv v d ∧ bdD d ∧ nd d ≤ 50000 ∧
  (valD d → ∀ H', Same H H' → Q (.bl (g.pred (predsOf [] gs) d)) H') ∧ (¬ valD d → ∀ H', Same H H' → Q (.bl false) H')
section
variable {P : Program} {w : World} {K : PySem.W.Frag} {mg : Str → Option Value} {base : Heap} {C : Addr}
theorem scEvery : FnScope ["cls"] ["cls"] (defScope mShape_every) := ⟨rfl, rfl, rfl, by decide +kernel, rfl, by decide +kernel, by decide +kernel⟩
theorem ok_every {f fI fF aN e1 e2 e3 e4 : Addr} {fd dI dF : FuncData} (F : Fun K "every" "Shape.every" mShape_every f fd) (M : Mk K C fI) (GI : FnOk P w K mg base CX0 4 fI dI ["self", "recipe", "before"] (spInitS K C)) (bI : Binds K dI ["self", "recipe", "before"] [])
    (GF : FnOk P w K mg base CX0 1 fF dF ["sign", "numbers"] (spFirst K)) (gF : mg "first_step" = some (.ref fF)) (kF : PySem.W.keepIn K (.ref fF) = true) (bF : Binds K dF ["sign", "numbers"] []) (N : Np K aN e1 e2 e3 e4) (gN : mg "NO_PLAN" = some (.ref aN)) : FnOk P w K mg base CX0 6 f fd ["cls"] (spOne K C .every) := by
  refine F.ok scEvery (fun vs H Q E h => ?_) (fun cdv A outer s H vs Q E hr h => ?_)
  · obtain ⟨Hv, rfl, _⟩ := h
    rfl
  · obtain ⟨Hv, rfl, sv, q⟩ := h
    refine ⟨_, pss_one (ps_ret (pe_makeV (i := 0) (E := E0) M GI hr rfl (.inl rfl) bI pass0 (pa_cons (pe_call GF (hr.mono (by decide)) (by rfl) gF kF bF .nil pass0 (pa_cons pe_str (pa_cons (pe_tup pa_nil) pa_nil))) (pa_cons (pe_glob (v := .ref aN) (by rfl) gN rfl) pa_nil)))), ?_⟩
    refine ⟨rfl, Nat.zero_le _, fun n nn => ⟨.every, n, ov H Hv (upd H n (.tup [])), rfl, ov_same sv (same_upd nn), SqT.of (by rw [ov_new nn, upd_same]; rfl), rfl, trivial, fun H' rc as s RC => ?_⟩⟩
    have s1 := same_upd (o := .tup []) nn
    exact mk_shape (g0 := []) (gs := [.every]) (ov_same (ov_same sv s1) s) (N.plan _) RC (by rw [RC.len]; decide) (Nat.le_refl _) (by decide) rfl ((q.up s1).up s)
theorem scNever : FnScope ["cls"] ["cls"] (defScope mShape_never) := ⟨rfl, rfl, rfl, by decide +kernel, rfl, by decide +kernel, by decide +kernel⟩
theorem ok_never {f fI fF aN e1 e2 e3 e4 : Addr} {fd dI dF : FuncData} (F : Fun K "never" "Shape.never" mShape_never f fd) (M : Mk K C fI) (GI : FnOk P w K mg base CX0 4 fI dI ["self", "recipe", "before"] (spInitS K C)) (bI : Binds K dI ["self", "recipe", "before"] [])
    (GF : FnOk P w K mg base CX0 1 fF dF ["sign", "numbers"] (spFirst K)) (gF : mg "first_step" = some (.ref fF)) (kF : PySem.W.keepIn K (.ref fF) = true) (bF : Binds K dF ["sign", "numbers"] []) (N : Np K aN e1 e2 e3 e4) (gN : mg "NO_PLAN" = some (.ref aN)) : FnOk P w K mg base CX0 6 f fd ["cls"] (spOne K C .never) := by
  refine F.ok scNever (fun vs H Q E h => ?_) (fun cdv A outer s H vs Q E hr h => ?_)
  · obtain ⟨Hv, rfl, _⟩ := h
    rfl
  · obtain ⟨Hv, rfl, sv, q⟩ := h
    refine ⟨_, pss_one (ps_ret (pe_makeV (i := 0) (E := E0) M GI hr rfl (.inl rfl) bI pass0 (pa_cons (pe_call GF (hr.mono (by decide)) (by rfl) gF kF bF .nil pass0 (pa_cons pe_str (pa_cons (pe_tup pa_nil) pa_nil))) (pa_cons (pe_glob (v := .ref aN) (by rfl) gN rfl) pa_nil)))), ?_⟩
    refine ⟨rfl, Nat.zero_le _, fun n nn => ⟨.never, n, ov H Hv (upd H n (.tup [])), rfl, ov_same sv (same_upd nn), SqT.of (by rw [ov_new nn, upd_same]; rfl), rfl, trivial, fun H' rc as s RC => ?_⟩⟩
    have s1 := same_upd (o := .tup []) nn
    exact mk_shape (g0 := []) (gs := [.never]) (ov_same (ov_same sv s1) s) (N.plan _) RC (by rw [RC.len]; decide) (Nat.le_refl _) (by decide) rfl ((q.up s1).up s)
theorem scNothing : FnScope ["cls"] ["cls"] (defScope mShape_nothing) := ⟨rfl, rfl, rfl, by decide +kernel, rfl, by decide +kernel, by decide +kernel⟩
theorem ok_nothing {f fI fF aN e1 e2 e3 e4 : Addr} {fd dI dF : FuncData} (F : Fun K "nothing" "Shape.nothing" mShape_nothing f fd) (M : Mk K C fI) (GI : FnOk P w K mg base CX0 4 fI dI ["self", "recipe", "before"] (spInitS K C)) (bI : Binds K dI ["self", "recipe", "before"] [])
    (GF : FnOk P w K mg base CX0 1 fF dF ["sign", "numbers"] (spFirst K)) (gF : mg "first_step" = some (.ref fF)) (kF : PySem.W.keepIn K (.ref fF) = true) (bF : Binds K dF ["sign", "numbers"] []) (N : Np K aN e1 e2 e3 e4) (gN : mg "NO_PLAN" = some (.ref aN)) : FnOk P w K mg base CX0 6 f fd ["cls"] (spOne K C .nothing) := by
  refine F.ok scNothing (fun vs H Q E h => ?_) (fun cdv A outer s H vs Q E hr h => ?_)
  · obtain ⟨Hv, rfl, _⟩ := h
    rfl
  · obtain ⟨Hv, rfl, sv, q⟩ := h
    refine ⟨_, pss_one (ps_ret (pe_makeV (i := 0) (E := E0) M GI hr rfl (.inl rfl) bI pass0 (pa_cons (pe_call GF (hr.mono (by decide)) (by rfl) gF kF bF .nil pass0 (pa_cons pe_str (pa_cons (pe_tup pa_nil) pa_nil))) (pa_cons (pe_glob (v := .ref aN) (by rfl) gN rfl) pa_nil)))), ?_⟩
    refine ⟨rfl, Nat.zero_le _, fun n nn => ⟨.nothing, n, ov H Hv (upd H n (.tup [])), rfl, ov_same sv (same_upd nn), SqT.of (by rw [ov_new nn, upd_same]; rfl), rfl, trivial, fun H' rc as s RC => ?_⟩⟩
    have s1 := same_upd (o := .tup []) nn
    exact mk_shape (g0 := []) (gs := [.nothing]) (ov_same (ov_same sv s1) s) (N.plan _) RC (by rw [RC.len]; decide) (Nat.le_refl _) (by decide) rfl ((q.up s1).up s)
theorem scTexts : FnScope ["cls", "least", "most"] ["cls", "least", "most"] (defScope mShape_texts) := ⟨rfl, rfl, rfl, by decide +kernel, rfl, by decide +kernel, by decide +kernel⟩
theorem ok_texts {f fI fF aN e1 e2 e3 e4 : Addr} {fd dI dF : FuncData} {dvs : List V} {kws : List (Str × V)} (F : FunD K "texts" "Shape.texts" (defArgs mShape_texts) (defBody mShape_texts) (defScope mShape_texts) dvs kws f fd) (M : Mk K C fI) (GI : FnOk P w K mg base CX0 4 fI dI ["self", "recipe", "before"] (spInitS K C)) (bI : Binds K dI ["self", "recipe", "before"] [])
    (GF : FnOk P w K mg base CX0 1 fF dF ["sign", "numbers"] (spFirst K)) (gF : mg "first_step" = some (.ref fF)) (kF : PySem.W.keepIn K (.ref fF) = true) (bF : Binds K dF ["sign", "numbers"] []) (N : Np K aN e1 e2 e3 e4) (gN : mg "NO_PLAN" = some (.ref aN)) : FnOk P w K mg base CX0 6 f fd ["cls", "least", "most"] (spTexts K C) := by
  refine F.ok scTexts (fun vs H Q E h => ?_) (fun cdv A outer s H vs Q E hr h => ?_)
  · obtain ⟨lo, hi, Hv, rfl, _⟩ := h
    rfl
  · obtain ⟨lo, hi, Hv, rfl, sv, hl, hh, q⟩ := h
    refine ⟨_, pss_one (ps_ret (pe_makeV (i := 0) (E := E0) M GI hr rfl (.inl rfl) bI pass0 (pa_cons (pe_call GF (hr.mono (by decide)) (by rfl) gF kF bF .nil pass0 (pa_cons pe_str (pa_cons (pe_tup (pa_cons (pv 1) (pa_cons (pv 2) pa_nil))) pa_nil))) (pa_cons (pe_glob (v := .ref aN) (by rfl) gN rfl) pa_nil)))), ?_⟩
    refine ⟨rfl, _, rfl, _, rfl, (by show 2 ≤ sizeLine; decide), fun n nn => ⟨.texts lo hi, n, ov H Hv (upd H n (.tup [.int (lo : Nat), hiV hi])), rfl, ov_same sv (same_upd nn), SqT.of (by rw [ov_new nn, upd_same]; rfl), rfl, ⟨hl, hh⟩, fun H' rc as s RC => ?_⟩⟩
    have s1 := same_upd (o := .tup [.int (lo : Nat), hiV hi]) nn
    exact mk_shape (g0 := []) (gs := [.texts lo hi]) (ov_same (ov_same sv s1) s) (N.plan _) RC (by rw [RC.len]; exact (by decide : 1 ≤ 500)) (Nat.le_refl _) (show 0 + 0 ≤ 8 by decide) rfl ((q.up s1).up s)
theorem scLists : FnScope ["cls", "shape"] ["cls", "shape"] (defScope mShape_lists) := ⟨rfl, rfl, rfl, by decide +kernel, rfl, by decide +kernel, by decide +kernel⟩
theorem ok_listsS {f fI fA : Addr} {fd dI dA : FuncData} (F : Fun K "lists" "Shape.lists" mShape_lists f fd) (T : Ek K mg C) (M : Mk K C fI) (GI : FnOk P w K mg base CX0 4 fI dI ["self", "recipe", "before"] (spInitS K C)) (bI : Binds K dI ["self", "recipe", "before"] [])
    (GA : FnOk P w K mg base CX0 1 fA dA ["sign", "recipe"] (spAbove K)) (gA : mg "step_above" = some (.ref fA)) (kA : PySem.W.keepIn K (.ref fA) = true) (bA : Binds K dA ["sign", "recipe"] []) : FnOk P w K mg base CX0 6 f fd ["cls", "shape"] (spOver K C .lists) := by
  refine F.ok scLists (fun vs H Q E h => ?_) (fun cdv A outer s H vs Q E hr h => ?_)
  · obtain ⟨x, gs, Hv, rfl, _⟩ := h
    rfl
  · obtain ⟨x, gs, Hv, rfl, sv, ⟨dx, rc, pl, aW, aA, aR, aL, as, ak, ws, ar, lv, hx0, RC, PF, hW, hk⟩, hne, hl, h8, q⟩ := h
    have hx := sv _ _ hx0
    refine ⟨_, pss_one (ps_ret (pe_makeV (i := 0) (E := E0) M GI hr rfl (.inl rfl) bI pass0 (pa_cons (pe_call GA (hr.mono (by decide)) (by rfl) gA kA bA .nil pass0 (pa_cons pe_str (pa_cons (pe_fld (pv 1) rfl) pa_nil))) (pa_cons (pe_fld (pv 1) rfl) pa_nil)))), ?_⟩
    have al := RC.len
    refine ⟨rfl, _, rfl, x, C, dx, _, _, rfl, hx, T.cl, T.nR, shF_rec rc pl, .lists (gs.length - 1), rc, as, gs, Hv, rfl, sv, RC, hne, rfl, rfl, trivial, by omega, fun H' rc' as' s RC' => ?_⟩
    refine ⟨_, rfl, x, C, dx, _, _, rfl, s _ _ hx, T.cl, T.nP, shF_plan rc pl, ?_⟩
    have al' := RC'.len
    rw [List.length_append, List.length_singleton] at al'
    exact mk_shape (g0 := gs) (gs := [.lists (gs.length - 1)]) (ov_same sv s) (PF.up (ov_sub sv)) RC' (by omega) hk h8 (asksN_snoc gs _) (q.up s)
theorem scNested : FnScope ["cls", "shape"] ["cls", "shape"] (defScope mShape_nested) := ⟨rfl, rfl, rfl, by decide +kernel, rfl, by decide +kernel, by decide +kernel⟩
theorem ok_nestedS {f fI fA : Addr} {fd dI dA : FuncData} (F : Fun K "nested" "Shape.nested" mShape_nested f fd) (T : Ek K mg C) (M : Mk K C fI) (GI : FnOk P w K mg base CX0 4 fI dI ["self", "recipe", "before"] (spInitS K C)) (bI : Binds K dI ["self", "recipe", "before"] [])
    (GA : FnOk P w K mg base CX0 1 fA dA ["sign", "recipe"] (spAbove K)) (gA : mg "step_above" = some (.ref fA)) (kA : PySem.W.keepIn K (.ref fA) = true) (bA : Binds K dA ["sign", "recipe"] []) : FnOk P w K mg base CX0 6 f fd ["cls", "shape"] (spOver K C .nested) := by
  refine F.ok scNested (fun vs H Q E h => ?_) (fun cdv A outer s H vs Q E hr h => ?_)
  · obtain ⟨x, gs, Hv, rfl, _⟩ := h
    rfl
  · obtain ⟨x, gs, Hv, rfl, sv, ⟨dx, rc, pl, aW, aA, aR, aL, as, ak, ws, ar, lv, hx0, RC, PF, hW, hk⟩, hne, hl, h8, q⟩ := h
    have hx := sv _ _ hx0
    refine ⟨_, pss_one (ps_ret (pe_makeV (i := 0) (E := E0) M GI hr rfl (.inl rfl) bI pass0 (pa_cons (pe_call GA (hr.mono (by decide)) (by rfl) gA kA bA .nil pass0 (pa_cons pe_str (pa_cons (pe_fld (pv 1) rfl) pa_nil))) (pa_cons (pe_fld (pv 1) rfl) pa_nil)))), ?_⟩
    have al := RC.len
    refine ⟨rfl, _, rfl, x, C, dx, _, _, rfl, hx, T.cl, T.nR, shF_rec rc pl, .nested (gs.length - 1), rc, as, gs, Hv, rfl, sv, RC, hne, rfl, rfl, trivial, by omega, fun H' rc' as' s RC' => ?_⟩
    refine ⟨_, rfl, x, C, dx, _, _, rfl, s _ _ hx, T.cl, T.nP, shF_plan rc pl, ?_⟩
    have al' := RC'.len
    rw [List.length_append, List.length_singleton] at al'
    exact mk_shape (g0 := gs) (gs := [.nested (gs.length - 1)]) (ov_same sv s) (PF.up (ov_sub sv)) RC' (by omega) hk h8 (asksN_snoc gs _) (q.up s)
theorem scConS : FnScope ["self", "x"] ["self", "x"] (defScope mShape_contains) := ⟨rfl, rfl, rfl, by decide +kernel, rfl, by decide +kernel, by decide +kernel⟩
theorem ok_conS {f fM aV : Addr} {fd dM : FuncData} (F : Fun K "__contains__" "Shape.__contains__" mShape_contains f fd) (T : Ek K mg C) (hV : ∀ H, SqT K H aV leavesL) (GM : FnOk P w K mg base CX0 3 fM dM ["plan", "thing"] (spMember K aV)) (gM : mg "is_member" = some (.ref fM)) (kM : PySem.W.keepIn K (.ref fM) = true) (bM : Binds K dM ["plan", "thing"] []) :
    FnOk P w K mg base CX0 4 f fd ["self", "x"] (spConS K C) := by
  refine F.ok scConS (fun vs H Q E h => ?_) (fun cdv A outer s H vs Q E hr h => ?_)
  · obtain ⟨x, gs, g, v, d, Hv, rfl, _⟩ := h
    rfl
  · obtain ⟨x, gs, g, v, d, Hv, rfl, ⟨dx, rc, pl, aW, aA, aR, aL, as, ak, ws, ar, lv, hx0, RC, PF, hW, hk⟩, sv, hd, hb, hn, q1, q2⟩ := h
    have hx := sv _ _ hx0
    refine ⟨_, pss_cons (ps_if (pt_cmp (pc_isN (pe_fld (pv 0) rfl))) (pss_one ps_never) pss_nil) <| pss_one (ps_ret (pe_call GM hr (by rfl) gM kM bM .nil pass0 (pa_cons (pe_fld (pv 0) rfl) (pa_cons (pv 1) pa_nil)))), ?_⟩
    rw [predsOf_snoc] at PF
    obtain ⟨row, PA⟩ := PF.at_last hW
    refine ⟨_, rfl, x, C, dx, _, _, rfl, hx, T.cl, T.nP, shF_plan rc pl, _, rfl, iteF ?_⟩
    exact ⟨_, rfl, x, C, dx, _, _, rfl, hx, T.cl, T.nP, shF_plan rc pl, _, rfl, pl, aW, _, aR, aL, _, _, ws, ar, lv, row, v, d, Hv, rfl, PA, hV Hv, sv, hd, hb, hn, q1, q2⟩
end
end TX
namespace TX
open PySem PySem.Spec PyProof.Rows L2
/-! ### nodes, and which values they have -/
inductive Nd where
  | every | never | nothing
  | texts (lo hi : Nat)
  | lists (n : Nd) | nested (n : Nd) | not_ (n : Nd) | not3 (n m : Nd)
  | or_ (n m : Nd) | and_ (n m : Nd) | less (n m : Nd)
def Nd.dat : Nd → PyData
  | .every => .tuple [.str "every"]
  | .never => .tuple [.str "never"]
  | .nothing => .tuple [.str "nothing"]
  | .texts lo hi => .tuple [.str "texts", .int (lo : Nat), .int (hi : Nat)]
  | .lists n => .tuple [.str "lists", n.dat]
  | .nested n => .tuple [.str "nested", n.dat]
  | .not_ n => .tuple [.str "not", n.dat]
  | .not3 n m => .tuple [.str "not", n.dat, m.dat]
  | .or_ n m => .tuple [.str "or", n.dat, m.dat]
  | .and_ n m => .tuple [.str "and", n.dat, m.dat]
  | .less n m => .tuple [.str "less", n.dat, m.dat]
def Nd.word : Nd → Str
  | .every => "every"
  | .never => "never"
  | .nothing => "nothing"
  | .texts _ _ => "texts"
  | .lists _ => "lists"
  | .nested _ => "nested"
  | .not_ _ => "not"
  | .not3 _ _ => "not"
  | .or_ _ _ => "or"
  | .and_ _ _ => "and"
  | .less _ _ => "less"
def Nd.deep : Nd → Nat
  | .lists n => n.deep + 1
  | .nested n => n.deep + 1
  | .not_ n => n.deep + 1
  | .not3 n m => max n.deep m.deep + 1
  | .or_ n m => max n.deep m.deep + 1
  | .and_ n m => max n.deep m.deep + 1
  | .less n m => max n.deep m.deep + 1
  | _ => 0
def textQ (lo hi : Nat) : PyData → Bool
  | .str z => decide (lo ≤ z.length) && decide (z.length ≤ hi)
  | _ => false
def Nd.has : Nd → PyData → Bool
  | .every => fun _ => true
  | .never => fun _ => false
  | .nothing => noneP
  | .texts lo hi => textQ lo hi
  | .lists n => listsP n.has
  | .nested n => nestP n.has
  | .not_ n => fun d => !n.has d
  | .not3 n _ => fun d => !n.has d
  | .or_ n m => fun d => n.has d || m.has d
  | .and_ n m => fun d => n.has d && m.has d
  | .less n m => fun d => n.has d && !m.has d
/-- a node's words on the heap -/
theorem Nd.at_ {K : PySem.W.Frag} {H : Hp} {v : V} {n : Nd} (h : Dp K H v n.dat) : ∃ (a : Addr) (us : List V) (es : List PyData), v = .ref a ∧ SqT K H a (.str n.word :: us) ∧ n.dat = .tuple (.str n.word :: es) ∧ DpAll K H us es := by
  cases n <;> · cases h with
    | tup h1 h2 =>
      cases h2 with
      | cons g1 g2 =>
        cases g1
        exact ⟨_, _, _, rfl, h1, rfl, g2⟩
theorem dep_mem {ds : List PyData} {d : PyData} (h : d ∈ ds) : d.depth ≤ PyData.depthAll ds := by
  induction ds with
  | nil => cases h
  | cons e ds ih =>
    simp only [PyData.depthAll]
    rcases List.mem_cons.mp h with rfl | z
    · omega
    · have := ih z
      omega
theorem nd_mem {ds : List PyData} {d : PyData} (h : d ∈ ds) : nd d ≤ ndAll ds := by
  induction ds with
  | nil => cases h
  | cons e ds ih =>
    simp only [ndAll]
    rcases List.mem_cons.mp h with rfl | z
    · omega
    · have := ih z
      omega
theorem bd_mem {ds : List PyData} {d : PyData} (hb : bdAll ds) (h : d ∈ ds) : bdD d := by
  induction ds with
  | nil => cases h
  | cons e ds ih =>
    rcases List.mem_cons.mp h with rfl | z
    · exact hb.1
    · exact ih hb.2 z
theorem valIn {ds : List PyData} {d : PyData} (hb : valAll ds) (h : d ∈ ds) : valD d := by
  induction ds with
  | nil => cases h
  | cons e ds ih =>
    rcases List.mem_cons.mp h with rfl | z
    · exact hb.1
    · exact ih hb.2 z
theorem DpAll.at_ {K : PySem.W.Frag} {H : Hp} : ∀ {ds : List PyData} {vs : List V} {j : Nat} {x : V}, DpAll K H vs ds → vs[j]? = some x → ∃ d, ds[j]? = some d ∧ Dp K H x d
  | [], _, j, x, h, e => by
    cases h
    simp at e
  | d :: ds, _, j, x, h, e => by
    cases h with
    | cons h1 h2 =>
      cases j with
      | zero =>
        simp only [List.getElem?_cons_zero, Option.some.injEq] at e
        subst e
        exact ⟨d, rfl, h1⟩
      | succ j =>
        simp only [List.getElem?_cons_succ] at e
        obtain ⟨d', e', h'⟩ := DpAll.at_ h2 e
        exact ⟨d', e', h'⟩
/-- what _law_has may be asked -/
structure AskOk (d : PyData) : Prop where
  val : valD d
  bd : bdD d
  nd : nd d ≤ 50000
theorem AskOk.item {es : List PyData} (h : AskOk (.list es)) {e : PyData} (he : e ∈ es) : AskOk e := by
  have := nd_mem he
  have h2 := h.nd
  simp only [TX.nd] at h2
  exact ⟨valIn h.val he, bd_mem h.bd he, by omega⟩
def spHas (K : PySem.W.Frag) (N : Nat) : Sp := fun vs H Q _ => ∃ (u : V) (n : Nd) (v : V) (d : PyData), vs = [u, v] ∧ Dp K H u n.dat ∧ Dp K H v d ∧ AskOk d ∧ n.deep + d.depth ≤ N ∧ ∀ H', Same H H' → Q (.bl (n.has d)) H'
def teHas (K : PySem.W.Frag) (N : Nat) (t : TE) : TE := fun σ H Q => ∃ j : { M : Nat // M + 1 = N }, tCall (spHas K j.1) [] E0 (tCons t (tCons (tVar 3) tNil)) σ H Q
structure Mh (mg : Str → Option Value) : Prop where
  all : mg "all" = none
section
variable {P : Program} {w : World} {K : PySem.W.Frag} {mg : Str → Option Value} {base : Heap}
theorem scHas : FnScope ["_law_node", "_law_value_here", "_law_word", "_law_one"] ["_law_node", "_law_value_here"] (defScope s__law_has) := ⟨rfl, rfl, rfl, by decide +kernel, rfl, by decide +kernel, by decide +kernel⟩
theorem ok_has1 {f : Addr} {fd : FuncData} (F : Fun K "_law_has" "_law_has" s__law_has f fd) (b : Binds K fd ["_law_node", "_law_value_here"] []) (g : mg "_law_has" = some (.ref f)) (T : Nm mg) (k : Nk mg) (B : Nb mg) (M : Mh mg) (N : Nat)
    (G : ∀ j : { M : Nat // M + 1 = N }, FnOk P w K mg base CX0 (j.1 + 1) f fd ["_law_node", "_law_value_here"] (spHas K j.1)) : FnOk P w K mg base CX0 (N + 1) f fd ["_law_node", "_law_value_here"] (spHas K N) := by
  refine F.ok scHas (fun vs H Q E h => ?_) (fun cdv A outer s H vs Q E hr h => ?_)
  · obtain ⟨u, n, v, d, rfl, _⟩ := h
    rfl
  · obtain ⟨u, n, v, d, rfl, hn, hd, hk, hN, q⟩ := h
    have hrR : ∀ j : { M : Nat // M + 1 = N }, Room (j.1 + 1) _ := fun j => hr.mono (by have := j.2; omega)
    refine ⟨_, pss_cons (ps_set (i := 2) scHas.nd rfl (.inl rfl) (pe_ix ix_tup (pv 0) pe_int (fun _ _ => rfl))) <|
      pss_cons (ps_if (pt_cmpR op_eq (pv 2) pe_str (nomark _)) (pss_one (ps_ret (pe_and (pe_callB call_isi (by rfl) T.isi (by decide +kernel) (pa_cons (pv 1) (pa_cons (pe_bltn (v := .ty "str") (by rfl) k.str (by decide +kernel) rfl) pa_nil))) (pe_one (pe_chain op_le op_le (pe_ix ix_tup (pv 0) pe_int (fun _ _ => rfl)) (pe_callB call_len_str (by rfl) B.len PySem.boot_len (pa_cons (pv 1) pa_nil)) (pe_ix ix_tup (pv 0) pe_int (fun _ _ => rfl))))))) pss_nil) <|
      pss_cons (ps_if (pt_cmpR op_eq (pv 2) pe_str (nomark _)) (pss_one (ps_ret (pe_and (pe_callB call_isi (by rfl) T.isi (by decide +kernel) (pa_cons (pv 1) (pa_cons (pe_bltn (v := .ty "list") (by rfl) T.lst (by decide +kernel) rfl) pa_nil))) (pe_one (pe_callB (cr_all rfl) (by rfl) M.all (by decide +kernel) (pa_cons (pe_lc (own := [("_law_one", 3)]) (g := gName 3) (tt := tYes) (te := teHas K N (tOp (rIxT K) (tVar 0) (tC (.int 1)))) rfl scHas.nd (pi_list (pv 1)) (blkOk_by (own := [("_law_one", 3)]) (N := ["_law_node", "_law_value_here", "_law_word", "_law_one"]) (sc := defScope s__law_has) (by decide +kernel))
        (fun _ _ _ _ _ => pg_name (i := 3) scHas.nd rfl (Or.inl rfl)) (fun _ _ _ _ _ => pts_nil) (fun _ _ _ _ _ => (pe_ex fun j => pe_call (G j) (hrR j) (by rfl) g F.kp b .nil pass0 (pa_cons (pe_ix ix_tup (pv 0) pe_int (fun _ _ => rfl)) (pa_cons (pv 3) pa_nil))))) pa_nil)))))) pss_nil) <|
      pss_cons (ps_if (pt_cmpR op_eq (pv 2) pe_str (nomark _)) (pss_cons (ps_if (pt_val (pe_ex fun j => pe_call (G j) (hrR j) (by rfl) g F.kp b .nil pass0 (pa_cons (pe_ix ix_tup (pv 0) pe_int (fun _ _ => rfl)) (pa_cons (pv 1) pa_nil)))) (pss_one (ps_ret pe_bl)) pss_nil) <| pss_one (ps_ret (pe_and (pe_callB call_isi (by rfl) T.isi (by decide +kernel) (pa_cons (pv 1) (pa_cons (pe_bltn (v := .ty "list") (by rfl) T.lst (by decide +kernel) rfl) pa_nil))) (pe_one (pe_callB (cr_all rfl) (by rfl) M.all (by decide +kernel) (pa_cons (pe_lc (own := [("_law_one", 3)]) (g := gName 3) (tt := tYes) (te := teHas K N (tVar 0)) rfl scHas.nd (pi_list (pv 1)) (blkOk_by (own := [("_law_one", 3)]) (N := ["_law_node", "_law_value_here", "_law_word", "_law_one"]) (sc := defScope s__law_has) (by decide +kernel))
        (fun _ _ _ _ _ => pg_name (i := 3) scHas.nd rfl (Or.inl rfl)) (fun _ _ _ _ _ => pts_nil) (fun _ _ _ _ _ => (pe_ex fun j => pe_call (G j) (hrR j) (by rfl) g F.kp b .nil pass0 (pa_cons (pv 0) (pa_cons (pv 3) pa_nil))))) pa_nil)))))) pss_nil) <|
      pss_cons (ps_if (pt_cmpR op_eq (pv 2) pe_str (nomark _)) (pss_one (ps_ret (pe_not (pe_ex fun j => pe_call (G j) (hrR j) (by rfl) g F.kp b .nil pass0 (pa_cons (pe_ix ix_tup (pv 0) pe_int (fun _ _ => rfl)) (pa_cons (pv 1) pa_nil)))))) pss_nil) <|
      pss_cons (ps_if (pt_cmpR op_eq (pv 2) pe_str (nomark _)) (pss_one (ps_ret (pe_or (pe_ex fun j => pe_call (G j) (hrR j) (by rfl) g F.kp b .nil pass0 (pa_cons (pe_ix ix_tup (pv 0) pe_int (fun _ _ => rfl)) (pa_cons (pv 1) pa_nil))) (pe_one (pe_ex fun j => pe_call (G j) (hrR j) (by rfl) g F.kp b .nil pass0 (pa_cons (pe_ix ix_tup (pv 0) pe_int (fun _ _ => rfl)) (pa_cons (pv 1) pa_nil))))))) pss_nil) <|
      pss_cons (ps_if (pt_cmpR op_eq (pv 2) pe_str (nomark _)) (pss_one (ps_ret (pe_and (pe_ex fun j => pe_call (G j) (hrR j) (by rfl) g F.kp b .nil pass0 (pa_cons (pe_ix ix_tup (pv 0) pe_int (fun _ _ => rfl)) (pa_cons (pv 1) pa_nil))) (pe_one (pe_ex fun j => pe_call (G j) (hrR j) (by rfl) g F.kp b .nil pass0 (pa_cons (pe_ix ix_tup (pv 0) pe_int (fun _ _ => rfl)) (pa_cons (pv 1) pa_nil))))))) pss_nil) <|
      pss_cons (ps_if (pt_cmpR op_eq (pv 2) pe_str (nomark _)) (pss_one (ps_ret (pe_and (pe_ex fun j => pe_call (G j) (hrR j) (by rfl) g F.kp b .nil pass0 (pa_cons (pe_ix ix_tup (pv 0) pe_int (fun _ _ => rfl)) (pa_cons (pv 1) pa_nil))) (pe_one (pe_not (pe_ex fun j => pe_call (G j) (hrR j) (by rfl) g F.kp b .nil pass0 (pa_cons (pe_ix ix_tup (pv 0) pe_int (fun _ _ => rfl)) (pa_cons (pv 1) pa_nil)))))))) pss_nil) <|
      pss_one (ps_ret (pe_or (pe_cmpR op_eq (pv 2) pe_str (nomark _)) (pe_one (pe_and (pe_cmpR op_eq (pv 2) pe_str (nomark _)) (pe_one (pe_cmp (pc_isN (pv 1)))))))), ?_⟩
    obtain ⟨a, us, es, rfl, ha, edat, hes⟩ := n.at_ hn
    refine ⟨_, rfl, a, _, 0, _, rfl, rfl, ha, atI_nat (j := 0) rfl, ?_⟩
    have ty := dp_ty hd
    cases n with
    | every => exact ⟨_, rfl, rfl, _, rfl, sF (by simp only [Nd.word]; decide +kernel) ⟨_, rfl, rfl, _, rfl, sF (by simp only [Nd.word]; decide +kernel) ⟨_, rfl, rfl, _, rfl, sF (by simp only [Nd.word]; decide +kernel) ⟨_, rfl, rfl, _, rfl, sF (by simp only [Nd.word]; decide +kernel) ⟨_, rfl, rfl, _, rfl, sF (by simp only [Nd.word]; decide +kernel) ⟨_, rfl, rfl, _, rfl, sF (by simp only [Nd.word]; decide +kernel) ⟨_, rfl, rfl, _, rfl, sF (by simp only [Nd.word]; decide +kernel) ⟨_, rfl, rfl, _, rfl, sT rfl (q H (Same.refl _))⟩⟩⟩⟩⟩⟩⟩⟩
    | never => exact ⟨_, rfl, rfl, _, rfl, sF (by simp only [Nd.word]; decide +kernel) ⟨_, rfl, rfl, _, rfl, sF (by simp only [Nd.word]; decide +kernel) ⟨_, rfl, rfl, _, rfl, sF (by simp only [Nd.word]; decide +kernel) ⟨_, rfl, rfl, _, rfl, sF (by simp only [Nd.word]; decide +kernel) ⟨_, rfl, rfl, _, rfl, sF (by simp only [Nd.word]; decide +kernel) ⟨_, rfl, rfl, _, rfl, sF (by simp only [Nd.word]; decide +kernel) ⟨_, rfl, rfl, _, rfl, sF (by simp only [Nd.word]; decide +kernel) ⟨_, rfl, rfl, _, rfl, sF (by simp only [Nd.word]; decide +kernel) ⟨_, rfl, rfl, _, rfl, sF (by simp only [Nd.word]; decide +kernel) (q H (Same.refl _))⟩⟩⟩⟩⟩⟩⟩⟩⟩
    | nothing =>
      refine ⟨_, rfl, rfl, _, rfl, sF (by simp only [Nd.word]; decide +kernel) ⟨_, rfl, rfl, _, rfl, sF (by simp only [Nd.word]; decide +kernel) ⟨_, rfl, rfl, _, rfl, sF (by simp only [Nd.word]; decide +kernel) ⟨_, rfl, rfl, _, rfl, sF (by simp only [Nd.word]; decide +kernel) ⟨_, rfl, rfl, _, rfl, sF (by simp only [Nd.word]; decide +kernel) ⟨_, rfl, rfl, _, rfl, sF (by simp only [Nd.word]; decide +kernel) ⟨_, rfl, rfl, _, rfl, sF (by simp only [Nd.word]; decide +kernel) ⟨_, rfl, rfl, _, rfl, sF (by simp only [Nd.word]; decide +kernel) ⟨_, rfl, rfl, _, rfl, sT rfl ⟨_, rfl, ?_⟩⟩⟩⟩⟩⟩⟩⟩⟩⟩
      have z := q H (Same.refl _)
      have vd := hk.val
      cases hd with
      | non => exact z
      | str x => exact z
      | lst _ _ => exact z
      | _ => exact vd.elim
    | texts lo hi =>
      cases edat
      cases hes with
      | @cons v1 _ _ _ h1 h2 =>
      cases h2 with
      | @cons v2 _ _ _ h3 h4 =>
      cases h4
      cases h1
      cases h3
      refine ⟨_, rfl, rfl, _, rfl, sT rfl ⟨_, rfl, v, .ty "str", _, .type "str", _, rfl, .ty _, ty, kitS d K, _, rfl, ?_⟩⟩
      have z := q H (Same.refl _)
      have vd := hk.val
      cases hd with
      | non => exact iteF z
      | lst _ _ => exact iteF z
      | str x =>
        refine iteT ⟨_, rfl, a, _, 1, .int (lo : Nat), rfl, rfl, ha, atI_nat (j := 1) rfl, _, rfl, x, rfl, ?_, _, _, rfl, rfl, _, rfl, ?_⟩
        · exact Nat.le_trans (show x.length ≤ 90000 from hk.bd) (by decide)
        · by_cases hl : (lo : Int) ≤ (x.length : Int)
          · rw [decide_eq_true hl]
            refine iteT ⟨_, rfl, a, _, 2, .int (hi : Nat), rfl, rfl, ha, atI_nat (j := 2) rfl, _, _, rfl, rfl, ?_⟩
            have e : (Nd.texts lo hi).has (.str x) = decide ((x.length : Int) ≤ (hi : Int)) := by
              simp only [Nd.has, textQ, decide_eq_true (show lo ≤ x.length by omega), Bool.true_and]
              congr 1
              apply propext
              omega
            rw [e] at z
            exact z
          · rw [decide_eq_false hl]
            refine iteF ?_
            have e : (Nd.texts lo hi).has (.str x) = false := by
              simp only [Nd.has, textQ, decide_eq_false (show ¬ lo ≤ x.length by omega), Bool.false_and]
            rw [e] at z
            exact z
      | _ => exact vd.elim
    | lists n =>
      cases edat
      cases hes with
      | @cons v1 _ _ _ h1 h2 =>
      cases h2
      simp only [Nd.deep] at hN
      obtain ⟨M', rfl⟩ : ∃ M', N = M' + 1 := ⟨N - 1, by omega⟩
      refine ⟨_, rfl, rfl, _, rfl, sF (by simp only [Nd.word]; decide +kernel) ⟨_, rfl, rfl, _, rfl, sT rfl ⟨_, rfl, v, .ty "list", _, .type "list", _, rfl, .ty _, ty, kitL d K, _, rfl, ?_⟩⟩⟩
      have vd := hk.val
      cases hd with
      | non => exact iteF (q H (Same.refl _))
      | str x => exact iteF (q H (Same.refl _))
      | @lst va xs es2 hS hA =>
        refine iteT ?_
        have dl0 : (PyData.list es2).depth = 1 + PyData.depthAll es2 := by simp only [PyData.depth]; omega
        refine ⟨_, rfl, va, rfl, ⟨_, (Same.refl H).seq hS⟩, fun D nD => lc_list (K := K) (a := va) (xs := xs) (fun j H2 => H2 D = some (.lst ((es2.take j).map fun e => V.bl (n.has e))) ∧ Same H H2) ⟨upd_same, same_upd nD⟩ (fun j H2 hj ⟨_, sm⟩ => ((Same.refl H).trans sm).seq hS) ?_ ?_⟩
        · rintro j x H2 hx ⟨hD, sm⟩
          obtain ⟨e, he, hxe⟩ := DpAll.at_ hA hx
          have hm := List.mem_of_getElem? he
          have dl := dep_mem hm
          have smH := (Same.refl H).trans sm
          refine ⟨rfl, ⟨⟨M', rfl⟩, _, rfl, a, _, 1, v1, rfl, rfl, same_sqt smH ha, atI_nat (j := 1) rfl, _, rfl, _, n, x, e, rfl, dp_same smH _ _ h1, dp_same smH _ _ hxe, hk.item hm, by rw [dl0] at hN; show _ ≤ M'; omega, fun H3 s3 => ⟨_, s3 _ _ hD, ?_, ?_, same_fresh nD (sm.trans s3)⟩⟩⟩
          · rw [List.length_map, List.length_take]
            exact Nat.lt_of_le_of_lt (show min j es2.length ≤ 50000 by have := hk.nd; have := ndAll_len es2; simp only [nd] at *; omega) (by decide)
          · rw [upd_same, List.take_add_one, he]
            simp only [List.map_append, Option.toList_some, List.map_cons, List.map_nil]
        rintro H2 ⟨hD, sm⟩
        rw [DpAll.length hA, List.take_length] at hD
        refine ⟨D, es2.map n.has, rfl, ?_, ?_⟩
        · rw [List.map_map]
          exact SqL.of hD
        have e : (Nd.lists n).has (.list es2) = (es2.map n.has).all id := by
          simp only [Nd.has, listsP, List.all_map]
          rfl
        have z := q H2 sm
        rw [e] at z
        exact z
      | _ => exact vd.elim
    | nested n =>
      cases edat
      cases hes with
      | @cons v1 _ _ _ h1 h2 =>
      cases h2
      simp only [Nd.deep] at hN
      obtain ⟨M', rfl⟩ : ∃ M', N = M' + 1 := ⟨N - 1, by omega⟩
      refine ⟨_, rfl, rfl, _, rfl, sF (by simp only [Nd.word]; decide +kernel) ⟨_, rfl, rfl, _, rfl, sF (by simp only [Nd.word]; decide +kernel) ⟨_, rfl, rfl, _, rfl, sT rfl ⟨⟨M', rfl⟩, _, rfl, a, _, 1, v1, rfl, rfl, ha, atI_nat (j := 1) rfl, _, rfl, v1, n, v, d, rfl, h1, hd, hk, by show _ ≤ M'; omega, fun H1 s1 => ⟨_, rfl, ?_⟩⟩⟩⟩⟩
      by_cases hh : n.has d = true
      · rw [hh]
        refine iteT ?_
        have z := q H1 s1
        have e : (Nd.nested n).has d = true := by
          simp only [Nd.has]
          cases d <;> simp [nestP, hh]
        rw [e] at z
        exact z
      · have hf : n.has d = false := by simpa using hh
        rw [hf]
        refine iteF ⟨_, rfl, v, .ty "list", _, .type "list", _, rfl, .ty _, dp_ty (dp_same s1 _ _ hd), kitL d K, _, rfl, ?_⟩
        have vd := hk.val
        cases hd with
        | non =>
          have z := q H1 s1
          rw [show (Nd.nested n).has .none = false from hf] at z
          exact iteF z
        | str x =>
          have z := q H1 s1
          rw [show (Nd.nested n).has (.str x) = false from hf] at z
          exact iteF z
        | @lst va xs es2 hS hA =>
          refine iteT ?_
          have dl0 : (PyData.list es2).depth = 1 + PyData.depthAll es2 := by simp only [PyData.depth]; omega
          refine ⟨_, rfl, va, rfl, ⟨_, s1.seq hS⟩, fun D nD => lc_list (K := K) (a := va) (xs := xs) (fun j H2 => H2 D = some (.lst ((es2.take j).map fun e => V.bl ((Nd.nested n).has e))) ∧ Same H1 H2) ⟨upd_same, same_upd nD⟩ (fun j H2 hj ⟨_, sm⟩ => (s1.trans sm).seq hS) ?_ ?_⟩
          · rintro j x H2 hx ⟨hD, sm⟩
            obtain ⟨e, he, hxe⟩ := DpAll.at_ hA hx
            have hm := List.mem_of_getElem? he
            have dl := dep_mem hm
            have smH := s1.trans sm
            refine ⟨rfl, ⟨⟨M', rfl⟩, _, rfl, _, rfl, _, (Nd.nested n), x, e, rfl, dp_same smH _ _ hn, dp_same smH _ _ hxe, hk.item hm, by rw [dl0] at hN; show n.nested.deep + e.depth ≤ M'; simp only [Nd.deep]; omega, fun H3 s3 => ⟨_, s3 _ _ hD, ?_, ?_, same_fresh nD (sm.trans s3)⟩⟩⟩
            · rw [List.length_map, List.length_take]
              exact Nat.lt_of_le_of_lt (show min j es2.length ≤ 50000 by have := hk.nd; have := ndAll_len es2; simp only [nd] at *; omega) (by decide)
            · rw [upd_same, List.take_add_one, he]
              simp only [List.map_append, Option.toList_some, List.map_cons, List.map_nil]
          rintro H2 ⟨hD, sm⟩
          rw [DpAll.length hA, List.take_length] at hD
          refine ⟨D, es2.map (Nd.nested n).has, rfl, ?_, ?_⟩
          · rw [List.map_map]
            exact SqL.of hD
          have e : (Nd.nested n).has (.list es2) = (es2.map (Nd.nested n).has).all id := by
            simp only [Nd.has, nestP, hf, Bool.false_or, nestAll_all, List.all_map]
            rfl
          have z := q H2 (s1.trans sm)
          rw [e] at z
          exact z
        | _ => exact vd.elim
    | not_ n =>
      cases edat
      cases hes with
      | @cons v1 _ _ _ h1 h2 =>
      cases h2
      simp only [Nd.deep] at hN
      obtain ⟨M', rfl⟩ : ∃ M', N = M' + 1 := ⟨N - 1, by omega⟩
      refine ⟨_, rfl, rfl, _, rfl, sF (by simp only [Nd.word]; decide +kernel) ⟨_, rfl, rfl, _, rfl, sF (by simp only [Nd.word]; decide +kernel) ⟨_, rfl, rfl, _, rfl, sF (by simp only [Nd.word]; decide +kernel) ⟨_, rfl, rfl, _, rfl, sT rfl ⟨⟨M', rfl⟩, _, rfl, a, _, 1, v1, rfl, rfl, ha, atI_nat (j := 1) rfl, _, rfl, v1, n, v, d, rfl, h1, hd, hk, by show _ ≤ M'; omega, fun H1 s1 => ⟨_, rfl, q H1 s1⟩⟩⟩⟩⟩⟩
    | not3 n m =>
      cases edat
      cases hes with
      | @cons v1 _ _ _ h1 h2 =>
      cases h2 with
      | @cons v2 _ _ _ h3 h4 =>
      cases h4
      simp only [Nd.deep] at hN
      obtain ⟨M', rfl⟩ : ∃ M', N = M' + 1 := ⟨N - 1, by omega⟩
      refine ⟨_, rfl, rfl, _, rfl, sF (by simp only [Nd.word]; decide +kernel) ⟨_, rfl, rfl, _, rfl, sF (by simp only [Nd.word]; decide +kernel) ⟨_, rfl, rfl, _, rfl, sF (by simp only [Nd.word]; decide +kernel) ⟨_, rfl, rfl, _, rfl, sT rfl ⟨⟨M', rfl⟩, _, rfl, a, _, 1, v1, rfl, rfl, ha, atI_nat (j := 1) rfl, _, rfl, v1, n, v, d, rfl, h1, hd, hk, by show _ ≤ M'; omega, fun H1 s1 => ⟨_, rfl, q H1 s1⟩⟩⟩⟩⟩⟩
    | or_ n m =>
      cases edat
      cases hes with
      | @cons v1 _ _ _ h1 h2 =>
      cases h2 with
      | @cons v2 _ _ _ h3 h4 =>
      cases h4
      simp only [Nd.deep] at hN
      obtain ⟨M', rfl⟩ : ∃ M', N = M' + 1 := ⟨N - 1, by omega⟩
      refine ⟨_, rfl, rfl, _, rfl, sF (by simp only [Nd.word]; decide +kernel) ⟨_, rfl, rfl, _, rfl, sF (by simp only [Nd.word]; decide +kernel) ⟨_, rfl, rfl, _, rfl, sF (by simp only [Nd.word]; decide +kernel) ⟨_, rfl, rfl, _, rfl, sF (by simp only [Nd.word]; decide +kernel) ⟨_, rfl, rfl, _, rfl, sT rfl ⟨⟨M', rfl⟩, _, rfl, a, _, 1, v1, rfl, rfl, ha, atI_nat (j := 1) rfl, _, rfl, v1, n, v, d, rfl, h1, hd, hk, by show _ ≤ M'; omega, fun H1 s1 => ⟨_, rfl, ?_⟩⟩⟩⟩⟩⟩⟩
      simp only [Nd.has] at q
      cases hh : n.has d with
      | true =>
        rw [hh] at q
        exact iteT (q H1 s1)
      | false =>
        rw [hh] at q
        exact iteF ⟨⟨M', rfl⟩, _, rfl, a, _, 2, v2, rfl, rfl, same_sqt s1 ha, atI_nat (j := 2) rfl, _, rfl, v2, m, v, d, rfl, dp_same s1 _ _ h3, dp_same s1 _ _ hd, hk, by show _ ≤ M'; omega, fun H2 s2 => q H2 (s1.trans s2)⟩
    | and_ n m =>
      cases edat
      cases hes with
      | @cons v1 _ _ _ h1 h2 =>
      cases h2 with
      | @cons v2 _ _ _ h3 h4 =>
      cases h4
      simp only [Nd.deep] at hN
      obtain ⟨M', rfl⟩ : ∃ M', N = M' + 1 := ⟨N - 1, by omega⟩
      refine ⟨_, rfl, rfl, _, rfl, sF (by simp only [Nd.word]; decide +kernel) ⟨_, rfl, rfl, _, rfl, sF (by simp only [Nd.word]; decide +kernel) ⟨_, rfl, rfl, _, rfl, sF (by simp only [Nd.word]; decide +kernel) ⟨_, rfl, rfl, _, rfl, sF (by simp only [Nd.word]; decide +kernel) ⟨_, rfl, rfl, _, rfl, sF (by simp only [Nd.word]; decide +kernel) ⟨_, rfl, rfl, _, rfl, sT rfl ⟨⟨M', rfl⟩, _, rfl, a, _, 1, v1, rfl, rfl, ha, atI_nat (j := 1) rfl, _, rfl, v1, n, v, d, rfl, h1, hd, hk, by show _ ≤ M'; omega, fun H1 s1 => ⟨_, rfl, ?_⟩⟩⟩⟩⟩⟩⟩⟩
      simp only [Nd.has] at q
      cases hh : n.has d with
      | false =>
        rw [hh] at q
        exact iteF (q H1 s1)
      | true =>
        rw [hh] at q
        exact iteT ⟨⟨M', rfl⟩, _, rfl, a, _, 2, v2, rfl, rfl, same_sqt s1 ha, atI_nat (j := 2) rfl, _, rfl, v2, m, v, d, rfl, dp_same s1 _ _ h3, dp_same s1 _ _ hd, hk, by show _ ≤ M'; omega, fun H2 s2 => q H2 (s1.trans s2)⟩
    | less n m =>
      cases edat
      cases hes with
      | @cons v1 _ _ _ h1 h2 =>
      cases h2 with
      | @cons v2 _ _ _ h3 h4 =>
      cases h4
      simp only [Nd.deep] at hN
      obtain ⟨M', rfl⟩ : ∃ M', N = M' + 1 := ⟨N - 1, by omega⟩
      refine ⟨_, rfl, rfl, _, rfl, sF (by simp only [Nd.word]; decide +kernel) ⟨_, rfl, rfl, _, rfl, sF (by simp only [Nd.word]; decide +kernel) ⟨_, rfl, rfl, _, rfl, sF (by simp only [Nd.word]; decide +kernel) ⟨_, rfl, rfl, _, rfl, sF (by simp only [Nd.word]; decide +kernel) ⟨_, rfl, rfl, _, rfl, sF (by simp only [Nd.word]; decide +kernel) ⟨_, rfl, rfl, _, rfl, sF (by simp only [Nd.word]; decide +kernel) ⟨_, rfl, rfl, _, rfl, sT rfl ⟨⟨M', rfl⟩, _, rfl, a, _, 1, v1, rfl, rfl, ha, atI_nat (j := 1) rfl, _, rfl, v1, n, v, d, rfl, h1, hd, hk, by show _ ≤ M'; omega, fun H1 s1 => ⟨_, rfl, ?_⟩⟩⟩⟩⟩⟩⟩⟩⟩
      simp only [Nd.has] at q
      cases hh : n.has d with
      | false =>
        rw [hh] at q
        exact iteF (q H1 s1)
      | true =>
        rw [hh] at q
        exact iteT ⟨⟨M', rfl⟩, _, rfl, a, _, 2, v2, rfl, rfl, same_sqt s1 ha, atI_nat (j := 2) rfl, _, rfl, v2, m, v, d, rfl, dp_same s1 _ _ h3, dp_same s1 _ _ hd, hk, by show _ ≤ M'; omega, fun H2 s2 => ⟨_, rfl, q H2 (s1.trans s2)⟩⟩
theorem ok_has {f : Addr} {fd : FuncData} (F : Fun K "_law_has" "_law_has" s__law_has f fd) (b : Binds K fd ["_law_node", "_law_value_here"] []) (g : mg "_law_has" = some (.ref f)) (T : Nm mg) (k : Nk mg) (B : Nb mg) (M : Mh mg) : ∀ N : Nat, FnOk P w K mg base CX0 (N + 1) f fd ["_law_node", "_law_value_here"] (spHas K N)
  | 0 => ok_has1 F b g T k B M 0 fun j => absurd j.2 (Nat.succ_ne_zero _)
  | N + 1 => ok_has1 F b g T k B M (N + 1) fun ⟨M', e⟩ => by
    cases Nat.succ.inj e
    exact ok_has F b g T k B M N
end
end TX
namespace TX
open PySem PySem.Spec PyProof.Rows L2
/-! ### list(text) -/
def signV (z : Str) : List V := z.cps.toList.map fun c => V.str ⟨#[c]⟩
theorem vals_get : ∀ (l : List V) (m : List Value), l.length = m.length → (∀ (j : Nat) v u, l[j]? = some v → m[j]? = some u → RelV v u) → Vals l m
  | [], [], _, _ => .nil
  | v :: l, u :: m, e, h => .cons (h 0 v u rfl rfl) (vals_get l m (by simpa using e) fun j a b ha hb => h (j + 1) a b (by simpa using ha) (by simpa using hb))
theorem call_list_s {X : Cx} (hc : X.calm = true) : CallR X (.type "list") (fun xs H Q => ∃ z : Str, xs = [.str z] ∧ z.length ≤ sizeLine ∧ ∀ l, H l = none → Q (.ref l) (upd H l (.lst (signV z)))) := by
  intro pins s σ H xs us Q I r h
  obtain ⟨z, rfl, hz, q⟩ := h
  obtain ⟨u, rfl, t, rfl⟩ := vals1 r
  have nf : H s.heap.objs.size = none := I.hok.fresh (Nat.le_refl _)
  refine call_list_str (I.ok.hd hc) z t (hn := hz) fun h' tk acc c' hk hS hacc => ⟨.ref _, _, I.laid (t' := tk) (o := .lst (signV z)) hk (Nat.le_refl _) ⟨?_, acc.toList, c', ?_, ?_⟩, rfl, q _ nf⟩
  · unfold signV
    rw [List.length_map]
    exact hz
  · refine vals_get _ _ ?_ fun j v u hv hu => ?_
    · unfold signV
      rw [List.length_map]
      have e := hacc.1
      simp only [Array.length_toList]
      omega
    · obtain ⟨c, t2, hc2, rfl⟩ := hacc.2 j u (by simpa using hu)
      have e : (signV z)[j]? = some (V.str ⟨#[c]⟩) := by
        unfold signV
        rw [List.getElem?_map]
        have e2 : z.cps.toList[j]? = some c := by simpa using hc2
        rw [e2]
        rfl
      rw [e] at hv
      cases hv
      exact ⟨t2, rfl⟩
  · simpa using hS
end TX
namespace TX
open PySem PySem.Spec PyProof.Rows L2
/-! ### the heap without the bag -/
theorem del_mono {A B : Hp} {p : Addr} (s : Same A B) : Same (L2.del A p) (L2.del B p) := fun b o e => by
  have bp : b ≠ p := fun z => by
    rw [z, del_same] at e
    cases e
  rw [del_ne bp] at e ⊢
  exact s _ _ e
theorem del_sub {G : Hp} {p : Addr} : Same (L2.del G p) G := fun b o e => by
  have bp : b ≠ p := fun z => by
    rw [z, del_same] at e
    cases e
  rw [del_ne bp] at e
  exact e
theorem del_bag {G : Hp} {p : Addr} {o : HO} : L2.del (upd G p o) p = L2.del G p := by
  funext b
  by_cases e : b = p
  · rw [e, del_same, del_same]
  · rw [del_ne e, del_ne e, upd_ne e]
theorem bag_some {G : Hp} {p : Addr} (b : BagAt G p) : ∃ o, G p = some o := let ⟨_, _, e⟩ := b; ⟨_, e⟩
theorem bag_ne {G : Hp} {p q : Addr} (b : BagAt G p) (h : G q = none) : q ≠ p := fun z => by
  obtain ⟨x, y, e⟩ := b
  rw [z, e] at h
  cases h
/-- new data are data without the bag -/
theorem ov_del {G G' : Hp} {p : Addr} (b : BagAt G p) (s : Same G G') : Same (ov G (L2.del G p) G') (L2.del G' p) := fun c o e => by
  cases h : G c with
  | none =>
    rw [ov_new h] at e
    rw [del_ne (bag_ne b h)]
    exact e
  | some u =>
    rw [ov_old h] at e
    exact del_mono s _ _ e
theorem newp_del {G G' : Hp} {p : Addr} (b : BagAt G p) : Same (newp G G') (L2.del G' p) := fun c o e => by
  cases h : G c with
  | some u =>
    rw [newp_old h] at e
    cases e
  | none =>
    rw [newp_at h] at e
    rw [del_ne (bag_ne b h)]
    exact e
theorem kept_del {G G' : Hp} {p : Addr} (k : ∀ b o, b ≠ p → G b = some o → G' b = some o) : Same (L2.del G p) (L2.del G' p) := fun b o e => by
  have bp : b ≠ p := fun z => by
    rw [z, del_same] at e
    cases e
  rw [del_ne bp] at e ⊢
  exact k _ _ bp e
theorem del_kept {G G' : Hp} {p : Addr} (s : Same (L2.del G p) (L2.del G' p)) : ∀ b o, b ≠ p → G b = some o → G' b = some o := fun b o h e => by
  have z := s b o (by rw [del_ne h]; exact e)
  rw [del_ne h] at z
  exact z
/-- the heap under way: the bag may have changed -/
structure Kb (H G : Hp) (p : Addr) : Prop where
  k : ∀ b o, b ≠ p → H b = some o → G b = some o
  b : BagAt G p
theorem Kb.draw {H G : Hp} {p : Addr} (h : Kb H G p) (x y : Int) : Kb H (upd G p (.lst [.int x, .int y])) p := ⟨fun b o hb e => by rw [upd_ne hb]; exact h.k b o hb e, ⟨_, _, upd_same⟩⟩
theorem Kb.up {H G G' : Hp} {p : Addr} (h : Kb H G p) (s : Same G G') : Kb H G' p := ⟨fun b o hb e => s _ _ (h.k b o hb e), TX.bag_same h.b s⟩
theorem Kb.del {H G : Hp} {p : Addr} (h : Kb H G p) : Same (L2.del H p) (L2.del G p) := kept_del h.k
theorem Kb.sub {H G : Hp} {p : Addr} (h : Kb H G p) : Same (L2.del H p) G := h.del.trans del_sub
theorem Kb.there {H G : Hp} {p : Addr} (h : Kb H G p) : ∀ b, H b ≠ none → G b ≠ none := TX.there h.k h.b
theorem Kb.fresh {H G : Hp} {p b : Addr} (h : Kb H G p) (e : G b = none) : H b = none := Classical.byContradiction fun z => h.there b z e
theorem ov_kb {H Hv G1 G2 G3 : Hp} {p : Addr} (kb : Kb H G1 p) (sv : Same Hv H) (s : Same G2 G3) : Same (ov G1 Hv G2) (ov H Hv G3) := fun b o e => by
  cases h : G1 b with
  | none =>
    rw [ov_new h] at e
    rw [ov_new (kb.fresh h)]
    exact s _ _ e
  | some u =>
    rw [ov_old h] at e
    rw [ov_old (sv _ _ e)]
    exact e
/-! ### _law_leaf -/
def ShNd (gs : List Sg) (n : Nd) : Prop := ∃ g0 g, gs = g0 ++ [g] ∧ ∀ d, valD d → bdD d → g.pred (predsOf [] g0) d = n.has d
/-- the numbers of a node's texts are small -/
def Nd.fit : Nd → Prop
  | .texts lo hi => lo ≤ 3 ∧ hi ≤ 10 ^ 9
  | .lists n => n.fit
  | .nested n => n.fit
  | .not_ n => n.fit
  | .not3 n m => n.fit ∧ m.fit
  | .or_ n m => n.fit ∧ m.fit
  | .and_ n m => n.fit ∧ m.fit
  | .less n m => n.fit ∧ m.fit
  | _ => True
def LeafQ (K : PySem.W.Frag) (C : Addr) (H Hv : Hp) (p : Addr) (Q : VK) : Prop := ∀ (G : Hp) (t x : Addr) (u : V) (gs : List Sg) (n : Nd), Kb H G p → (ov H Hv G) t = some (.tup [.ref x, u]) → ShAt K (ov H Hv G) C x gs → Dp K (ov H Hv G) u n.dat → ShNd gs n → n.deep = 0 → asksN gs = 0 → gs.length = 1 → Q (.ref t) G
def spLeafS (K : PySem.W.Frag) (C : Addr) : Sp := fun vs H Q _ => ∃ (p : Addr) (Hv : Hp), vs = [.ref p] ∧ BagAt H p ∧ Same Hv (L2.del H p) ∧ LeafQ K C H Hv p Q
theorem text_hi {lo : Nat} {z : Str} (h : z.length ≤ 90000) : textP lo none (.str z) = textQ lo (10 ^ 9) (.str z) := by
  simp only [textP, textQ]
  rw [decide_eq_true (show z.length ≤ 10 ^ 9 by omega)]
theorem leaf_texts {lo : Nat} {hi : Option Nat} {n : Nat} (h : n = match hi with | .none => 10 ^ 9 | some h => h) : ∀ d, valD d → bdD d → (Sg.texts lo hi).pred [] d = (Nd.texts lo n).has d := by
  intro d _ hb
  cases hi with
  | none =>
    subst h
    cases d with
    | str z => exact text_hi hb
    | _ => rfl
  | some h0 =>
    subst h
    cases d <;> rfl
section
variable {P : Program} {w : World} {K : PySem.W.Frag} {mg : Str → Option Value} {base : Heap} {C : Addr}
theorem leaf_end {H Hv : Hp} {p : Addr} {Q : VK} (sv : Same Hv (L2.del H p)) (q : LeafQ K C H Hv p Q)
    (n : Nd) (g : Sg) {us : List V} {es : List PyData} (hn : n.dat = .tuple es) (hu : ∀ G, DpAll K G us es) (hp : ∀ d, valD d → bdD d → g.pred [] d = n.has d) (ha : asksN [g] = 0) (h0 : n.deep = 0) {G1 : Hp} (kb : Kb H G1 p) {G2 : Hp} {x : Addr} (s1 : Same G1 G2)
    (sh : ShAt K (ov G1 Hv G2) C x [g]) {tn : Addr} (ntn : G2 tn = none) {t : Addr} (nt : (upd G2 tn (.tup us)) t = none) : Q (.ref t) (upd (upd G2 tn (.tup us)) t (.tup [.ref x, .ref tn])) := by
  have s2 := same_upd (o := .tup us) ntn
  have s3 := same_upd (o := .tup [.ref x, .ref tn]) nt
  have k2 := kb.up s1
  refine q _ t x (.ref tn) [g] n (k2.up (s2.trans s3)) ?_ (sh.up (ov_kb kb (sv.trans del_sub) (s2.trans s3))) ?_ ⟨[], g, rfl, hp⟩ h0 ha rfl
  · rw [ov_new ((k2.up s2).fresh nt), upd_same]
  · rw [hn]
    refine .tup (SqT.of ?_) (hu _)
    rw [ov_new (k2.fresh ntn)]
    exact s3 _ _ upd_same
structure Lf (P : Program) (w : World) (K : PySem.W.Frag) (mg : Str → Option Value) (base : Heap) (C : Addr) (mc : Value) (fT f1 f2 f3 f4 p1 p2 p3 p4 : Addr) (dT : FuncData) : Prop where
  GT : FnOk P w K mg base CX0 1 fT dT ["_law_bag_here", "_law_many"] spTake
  bT : Binds K dT ["_law_bag_here", "_law_many"] []
  gT : mg "_law_take" = some (.ref fT)
  kT : PySem.W.keepIn K (.ref fT) = true
  r : ClX.CRead K C mc
  c1 : ClX.CMet K C mc "every" p1 f1
  c2 : ClX.CMet K C mc "never" p2 f2
  c3 : ClX.CMet K C mc "nothing" p3 f3
  c4 : ClX.CMet K C mc "texts" p4 f4
  G1 : FnR P w K mg base CX0 6 f1 (spOne K C .every)
  G2 : FnR P w K mg base CX0 6 f2 (spOne K C .never)
  G3 : FnR P w K mg base CX0 6 f3 (spOne K C .nothing)
  G40 : FnR P w K mg base CX0 6 f4 (fun vs H Q E => spTexts K C (vs ++ [.int ((0 : Nat) : Int), hiV none]) H Q E)
  G41 : FnR P w K mg base CX0 6 f4 (fun vs H Q E => spTexts K C (vs ++ [hiV none]) H Q E)
  G42 : FnR P w K mg base CX0 6 f4 (spTexts K C)
theorem scLeafS : FnScope ["_law_bag_here", "_law_pick", "_law_low", "_law_high"] ["_law_bag_here"] (defScope s__law_leaf) := ⟨rfl, rfl, rfl, by decide +kernel, rfl, by decide +kernel, by decide +kernel⟩
theorem ok_leafS {f : Addr} {fd : FuncData} {mc : Value} {fT f1 f2 f3 f4 p1 p2 p3 p4 : Addr} {dT : FuncData} (F : Fun K "_law_leaf" "_law_leaf" s__law_leaf f fd) (T : Ek K mg C) (L : Lf P w K mg base C mc fT f1 f2 f3 f4 p1 p2 p3 p4 dT) : FnOk P w K mg base CX0 7 f fd ["_law_bag_here"] (spLeafS K C) := by
  refine F.ok scLeafS (fun vs H Q E h => ?_) (fun cdv A outer s H vs Q E hr h => ?_)
  · obtain ⟨p, Hv, rfl, _⟩ := h
    rfl
  · obtain ⟨p, Hv, rfl, bag, sv, q⟩ := h
    have r1 : Room 1 _ := hr.mono (by decide)
    have lq := fun n g us es hn hu hp ha h0 G1 kb G2 x s1 sh tn ntn t nt => leaf_end (K := K) (C := C) (H := H) (p := p) (Q := Q) sv q n g (us := us) (es := es) hn hu hp ha h0 (G1 := G1) kb (G2 := G2) (x := x) s1 sh (tn := tn) ntn (t := t) nt
    have k0 : Kb H H p := ⟨fun _ _ _ e => e, bag⟩
    have vsub : ∀ {G : Hp}, Kb H G p → Same Hv G := fun kb => sv.trans (kb.del.trans del_sub)
    refine ⟨_, pss_cons (ps_set (i := 1) scLeafS.nd rfl (.inl rfl) (pe_call L.GT r1 (by rfl) L.gT L.kT L.bT .nil pass0 (pa_cons (pv 0) (pa_cons pe_int pa_nil)))) <|
      pss_cons (ps_if (pt_cmpR op_eq (pv 1) pe_int (nomark _)) (pss_one (ps_ret (pe_tup (pa_cons (pe_cmeth0 (E := E0) (pe_glob (v := .ref C) (by rfl) T.mgC rfl) L.r L.c1 L.G1 hr pass0) (pa_cons (pe_tup (pa_cons pe_str pa_nil)) pa_nil))))) pss_nil) <|
      pss_cons (ps_if (pt_cmpR op_eq (pv 1) pe_int (nomark _)) (pss_one (ps_ret (pe_tup (pa_cons (pe_cmeth0 (E := E0) (pe_glob (v := .ref C) (by rfl) T.mgC rfl) L.r L.c2 L.G2 hr pass0) (pa_cons (pe_tup (pa_cons pe_str pa_nil)) pa_nil))))) pss_nil) <|
      pss_cons (ps_if (pt_cmpR op_eq (pv 1) pe_int (nomark _)) (pss_one (ps_ret (pe_tup (pa_cons (pe_cmeth0 (E := E0) (pe_glob (v := .ref C) (by rfl) T.mgC rfl) L.r L.c3 L.G3 hr pass0) (pa_cons (pe_tup (pa_cons pe_str pa_nil)) pa_nil))))) pss_nil) <|
      pss_cons (ps_if (pt_cmpR op_eq (pv 1) pe_int (nomark _)) (pss_one (ps_ret (pe_tup (pa_cons (pe_cmeth0 (E := E0) (pe_glob (v := .ref C) (by rfl) T.mgC rfl) L.r L.c4 L.G40 hr pass0) (pa_cons (pe_tup (pa_cons pe_str (pa_cons pe_int (pa_cons (pe_op op_pow pe_int pe_int) pa_nil)))) pa_nil))))) pss_nil) <|
      pss_cons (ps_par (i := 2) (j := 3) rfl scLeafS.nd rfl rfl (by decide) rfl rfl (pa_cons (pe_call L.GT r1 (by rfl) L.gT L.kT L.bT .nil pass0 (pa_cons (pv 0) (pa_cons pe_int pa_nil))) (pa_cons (pe_call L.GT r1 (by rfl) L.gT L.kT L.bT .nil pass0 (pa_cons (pv 0) (pa_cons pe_int pa_nil))) pa_nil)) (by rfl)) <|
      pss_cons (ps_if (pt_cmpR op_eq (pv 1) pe_int (nomark _)) (pss_one (ps_ret (pe_tup (pa_cons (ClX.pe_cmeth (E := E0) (pe_glob (v := .ref C) (by rfl) T.mgC rfl) L.r L.c4 L.G41 hr pass0 (pa_cons (pv 2) pa_nil)) (pa_cons (pe_tup (pa_cons pe_str (pa_cons (pv 2) (pa_cons (pe_op op_pow pe_int pe_int) pa_nil)))) pa_nil))))) pss_nil) <|
      (pss_one (ps_ret (pe_tup (pa_cons (ClX.pe_cmeth (E := E0) (pe_glob (v := .ref C) (by rfl) T.mgC rfl) L.r L.c4 L.G42 hr pass0 (pa_cons (pv 2) (pa_cons (pv 3) pa_nil))) (pa_cons (pe_tup (pa_cons pe_str (pa_cons (pv 2) (pa_cons (pv 3) pa_nil)))) pa_nil))))), ?_⟩
    refine ⟨_, rfl, p, 8, rfl, bag, by decide, by decide, fun x1 y1 k hk0 hk1 => ?_⟩
    have k1 := k0.draw x1 y1
    generalize upd H p (.lst [.int x1, .int y1]) = G1 at k1
    obtain ⟨k, rfl⟩ := Int.eq_ofNat_of_zero_le hk0
    have hk8 : k < 8 := by omega
    have one : ∀ (z : Str) (G : Hp), DpAll K G [.str z] [.str z] := fun z G => .cons (.str _) .nil
    have three : ∀ (lo hi : Nat) (G : Hp), DpAll K G [.str "texts", .int (lo : Nat), .int (hi : Nat)] [.str "texts", .int (lo : Nat), .int (hi : Nat)] := fun lo hi G => .cons (.str _) (.cons (.int _) (.cons (.int _) .nil))
    refine ⟨_, rfl, rfl, _, rfl, ?_⟩
    by_cases h0 : k = 0
    · subst h0
      exact eqT rfl ⟨rfl, Hv, rfl, vsub k1, fun G2 x s2 nx sh => ⟨(by show 1 ≤ sizeLine; decide), fun tn ntn => ⟨(by show 2 ≤ sizeLine; decide), fun t nt => lq .every .every _ _ rfl (one _) (fun _ _ _ => rfl) rfl rfl _ k1 _ _ s2 sh _ ntn _ nt⟩⟩⟩
    refine eqF (by omega) ⟨_, rfl, rfl, _, rfl, ?_⟩
    by_cases h1 : k = 1
    · subst h1
      exact eqT rfl ⟨rfl, Hv, rfl, vsub k1, fun G2 x s2 nx sh => ⟨(by show 1 ≤ sizeLine; decide), fun tn ntn => ⟨(by show 2 ≤ sizeLine; decide), fun t nt => lq .never .never _ _ rfl (one _) (fun _ _ _ => rfl) rfl rfl _ k1 _ _ s2 sh _ ntn _ nt⟩⟩⟩
    refine eqF (by omega) ⟨_, rfl, rfl, _, rfl, ?_⟩
    by_cases h2 : k = 2
    · subst h2
      exact eqT rfl ⟨rfl, Hv, rfl, vsub k1, fun G2 x s2 nx sh => ⟨(by show 1 ≤ sizeLine; decide), fun tn ntn => ⟨(by show 2 ≤ sizeLine; decide), fun t nt => lq .nothing .nothing _ _ rfl (one _) (fun _ _ _ => rfl) rfl rfl _ k1 _ _ s2 sh _ ntn _ nt⟩⟩⟩
    refine eqF (by omega) ⟨_, rfl, rfl, _, rfl, ?_⟩
    by_cases h3 : k = 3
    · subst h3
      exact eqT rfl ⟨rfl, 0, none, Hv, rfl, vsub k1, by decide, fun h z => (nomatch z), fun G2 x s2 nx sh => ⟨_, _, rfl, rfl, ⟨by decide, by decide, by decide⟩, (by show 3 ≤ sizeLine; decide), fun tn ntn => ⟨(by show 2 ≤ sizeLine; decide), fun t nt => lq (.texts 0 (10 ^ 9)) (.texts 0 none) _ _ rfl (three 0 (10 ^ 9)) (leaf_texts rfl) rfl rfl _ k1 _ _ s2 sh _ ntn _ nt⟩⟩⟩
    refine eqF (by omega) ⟨_, rfl, p, 4, rfl, k1.b, by decide, by decide, fun x2 y2 lo hlo0 hlo1 => ?_⟩
    have k2 := k1.draw x2 y2
    refine ⟨_, rfl, p, 4, rfl, k2.b, by decide, by decide, fun x3 y3 hi hhi0 hhi1 => ?_⟩
    have k3 := k2.draw x3 y3
    generalize upd (upd G1 p (.lst [.int x2, .int y2])) p (.lst [.int x3, .int y3]) = G3 at k3
    obtain ⟨lo, rfl⟩ := Int.eq_ofNat_of_zero_le hlo0
    obtain ⟨hi, rfl⟩ := Int.eq_ofNat_of_zero_le hhi0
    refine ⟨_, _, rfl, _, rfl, rfl, _, rfl, ?_⟩
    by_cases h4 : k = 4
    · subst h4
      exact eqT rfl ⟨rfl, _, rfl, lo, none, Hv, rfl, vsub k3, by omega, fun h z => (nomatch z), fun G2 x s2 nx sh => ⟨_, rfl, _, _, rfl, rfl, ⟨by decide, by decide, by decide⟩, (by show 3 ≤ sizeLine; decide), fun tn ntn => ⟨(by show 2 ≤ sizeLine; decide), fun t nt => lq (.texts lo (10 ^ 9)) (.texts lo none) _ _ rfl (three lo (10 ^ 9)) (leaf_texts rfl) rfl rfl _ k3 _ _ s2 sh _ ntn _ nt⟩⟩⟩
    exact eqF (by omega) ⟨rfl, _, rfl, _, rfl, lo, some hi, Hv, rfl, vsub k3, by omega, fun h z => (by cases z; omega), fun G2 x s2 nx sh => ⟨_, rfl, _, rfl, (by show 3 ≤ sizeLine; decide), fun tn ntn => ⟨(by show 2 ≤ sizeLine; decide), fun t nt => lq (.texts lo hi) (.texts lo (some hi)) _ _ rfl (three lo hi) (leaf_texts rfl) rfl rfl _ k3 _ _ s2 sh _ ntn _ nt⟩⟩⟩
end
end TX
namespace TX
open PySem PySem.Spec PyProof.Rows L2
/-! ### dicts whose keys are tuples of texts, ints, None and such tuples; their values are ints -/
mutual
def keyD : NestedKey → PyData
  | .none => .none
  | .num i => .int i
  | .text x => .str x
  | .tup ks => .tuple (keyDs ks)
def keyDs : List NestedKey → List PyData
  | [] => []
  | k :: ks => keyD k :: keyDs ks
end
section
variable {X : Cx} {pins : List (Addr × Obj)} {σ : L2.St} {H : Hp} {s : Shared}
mutual
theorem nested_of (I : Inv X pins σ H s) : ∀ (k : NestedKey) (v : V) (u : Value), Dp X.K H v (keyD k) → RelV v u → NestedIs s.heap k u
  | .none, v, u, h, r => by
    cases h
    cases r
    exact .none
  | .num i, v, u, h, r => by
    cases h
    obtain ⟨t, rfl⟩ := r
    exact .int i t
  | .text x, v, u, h, r => by
    cases h
    obtain ⟨t, rfl⟩ := r
    exact .text x t
  | .tup ks, v, u, h, r => by
    simp only [keyD] at h
    cases h with
    | tup h1 h2 =>
      cases r
      obtain ⟨its, rv, p, _⟩ := I.tuple h1
      obtain ⟨o, g1, g2, n, g3⟩ := p
      exact .tup g1 g2 g3 (by simpa using nested_all I ks _ _ h2 rv)
theorem nested_all (I : Inv X pins σ H s) : ∀ (ks : List NestedKey) (vs : List V) (us : List Value), DpAll X.K H vs (keyDs ks) → Vals vs us → NestedAll s.heap ks us
  | [], vs, us, h, r => by
    simp only [keyDs] at h
    cases h
    cases r
    exact .nil
  | k :: ks, vs, us, h, r => by
    simp only [keyDs] at h
    cases h with
    | cons h1 h2 =>
      cases r with
      | cons r1 r2 => exact .cons (nested_of I k _ _ h1 r1) (nested_all I ks _ _ h2 r2)
end
end
/-- rows: a key, where it stands, the value -/
abbrev NRow := NestedKey × Addr × Int
def nfind (xs : List NRow) (k : NestedKey) : Option Int := (xs.find? fun x => decide (x.1 = k)).map (·.2.2)
def nput (xs : List NRow) (k : NestedKey) (b : Addr) (n : Int) : List NRow := if (nfind xs k).isSome then xs.map (fun x => if x.1 = k then (x.1, x.2.1, n) else x) else xs ++ [(k, b, n)]
abbrev NRel : List NRow → List (NestedKey × Addr × Value) → Prop := Paired fun p q => p.1 = q.1 ∧ p.2.1 = q.2.1 ∧ ∃ t, q.2.2 = .int p.2.2 t
def dNO (P : Program) (w : World) (a : Addr) (xs : List NRow) : HO := .ext fun h => xs.length ≤ sizeLine ∧ (a == sysModules) = false ∧ ∃ ys, NRel xs ys ∧ ∃ o es ep, h.get? a = some o ∧ o.ExactDict ∧ o.data = .dict es ep ∧ es.toList = ys.map (entryOfKey (nestedKind P w)) ∧ (ys.map (·.1)).Nodup
/-- the keys as they stand -/
def NKeys (K : PySem.W.Frag) (H : Hp) (xs : List NRow) : Prop := ∀ x ∈ xs, Dp K H (.ref x.2.1) (keyD x.1) ∧ x.1.depth ≤ 8
theorem NRel.find {xs : List NRow} {ys : List (NestedKey × Addr × Value)} (r : NRel xs ys) (k : NestedKey) : (nfind xs k = none ∧ atKey ys k = none) ∨ ∃ n b t, nfind xs k = some n ∧ atKey ys k = some (b, .int n t) := by
  induction r with
  | nil => exact .inl ⟨rfl, rfl⟩
  | @cons p q ps qs h t ih =>
    obtain ⟨h1, h2, tk, h3⟩ := h
    by_cases e : p.1 = k
    · refine .inr ⟨p.2.2, q.2.1, tk, ?_, ?_⟩
      · simp [nfind, List.find?_cons, e]
      · have e' : q.1 = k := h1.symm.trans e
        simp only [atKey, List.find?_cons, decide_eq_true e', Option.map_some]
        rw [show q.2 = (q.2.1, q.2.2) from rfl, h3]
    · have e' : ¬ q.1 = k := fun z => e (h1.trans z)
      have a1 : nfind (p :: ps) k = nfind ps k := by simp [nfind, List.find?_cons, e]
      have a2 : atKey (q :: qs) k = atKey qs k := by simp [atKey, List.find?_cons, e']
      rw [a1, a2]
      exact ih
theorem NRel.repl {xs : List NRow} {ys : List (NestedKey × Addr × Value)} (r : NRel xs ys) (k : NestedKey) (n : Int) (t : Tok) : NRel (xs.map (fun x => if x.1 = k then (x.1, x.2.1, n) else x)) (ys.map (putAt k (.int n t))) := by
  induction r with
  | nil => exact .nil
  | @cons p q ps qs h tl ih =>
    rw [List.map_cons, List.map_cons]
    refine .cons ?_ ih
    obtain ⟨h1, h2, tk, h3⟩ := h
    unfold putAt
    by_cases e : p.1 = k
    · rw [if_pos e, if_pos (h1.symm.trans e)]
      exact ⟨h1, h2, t, rfl⟩
    · rw [if_neg e, if_neg (fun z => e (h1.trans z))]
      exact ⟨h1, h2, tk, h3⟩
theorem NRel.put {xs : List NRow} {ys : List (NestedKey × Addr × Value)} (r : NRel xs ys) (k : NestedKey) (b : Addr) (n : Int) (t : Tok) : NRel (nput xs k b n) (storedH ys k b (.int n t)) := by
  unfold nput storedH
  rcases r.find k with ⟨h1, h2⟩ | ⟨m, c, u, h1, h2⟩
  · simp only [h1, h2, Option.isSome_none, Bool.false_eq_true, if_false]
    exact Paired.snoc r ⟨rfl, rfl, t, rfl⟩
  · simp only [h1, h2, Option.isSome_some, if_true]
    exact r.repl k n t
theorem nput_len (xs : List NRow) (k : NestedKey) (b : Addr) (n : Int) : (nput xs k b n).length ≤ xs.length + 1 := by
  unfold nput
  split <;> simp
theorem nfind_put {xs : List NRow} {k j : NestedKey} {b : Addr} {n m : Int} (h : nfind (nput xs k b n) j = some m) : (j = k ∧ m = n) ∨ nfind xs j = some m := by
  unfold nput at h
  by_cases hs : (nfind xs k).isSome = true
  · rw [if_pos hs] at h
    clear hs
    induction xs with
    | nil => simp [nfind] at h
    | cons x xs ih =>
      rw [List.map_cons] at h
      by_cases e : x.1 = k
      · rw [if_pos e] at h
        by_cases ej : x.1 = j
        · have e2 : n = m := by simpa [nfind, List.find?_cons, ej] using h
          exact .inl ⟨ej.symm.trans e, e2.symm⟩
        · have h2 : nfind (xs.map fun x => if x.1 = k then (x.1, x.2.1, n) else x) j = some m := by simpa [nfind, List.find?_cons, ej] using h
          rcases ih h2 with z | z
          · exact .inl z
          · exact .inr (by simpa [nfind, List.find?_cons, ej] using z)
      · rw [if_neg e] at h
        by_cases ej : x.1 = j
        · exact .inr (by simpa [nfind, List.find?_cons, ej] using h)
        · have h2 : nfind (xs.map fun x => if x.1 = k then (x.1, x.2.1, n) else x) j = some m := by simpa [nfind, List.find?_cons, ej] using h
          rcases ih h2 with z | z
          · exact .inl z
          · exact .inr (by simpa [nfind, List.find?_cons, ej] using z)
  · rw [if_neg hs] at h
    cases hj : nfind xs j with
    | some m' =>
      refine .inr ?_
      have e : nfind (xs ++ [(k, b, n)]) j = some m' := by
        unfold nfind at hj ⊢
        rw [List.find?_append]
        obtain ⟨q, hq, hq2⟩ := Option.map_eq_some_iff.mp hj
        rw [hq]
        simpa using hq2
      rw [e] at h
      exact h
    | none =>
      have hn : xs.find? (fun x => decide (x.1 = j)) = none := by
        unfold nfind at hj
        cases q : xs.find? (fun x => decide (x.1 = j)) with
        | none => rfl
        | some y => rw [q] at hj; cases hj
      unfold nfind at h
      rw [List.find?_append, hn] at h
      by_cases ej : k = j
      · have e2 : n = m := by simpa [List.find?_cons, ej] using h
        exact .inl ⟨ej.symm, e2.symm⟩
      · simp [List.find?_cons, ej] at h
theorem NKeys.put {K : PySem.W.Frag} {H : Hp} {xs : List NRow} (h : NKeys K H xs) {k : NestedKey} {b : Addr} (n : Int) (hb : Dp K H (.ref b) (keyD k)) (hd : k.depth ≤ 8) : NKeys K H (nput xs k b n) := by
  intro x hx
  unfold nput at hx
  by_cases hs : (nfind xs k).isSome = true
  · rw [if_pos hs] at hx
    obtain ⟨y, hy, e⟩ := List.mem_map.mp hx
    by_cases ek : y.1 = k
    · rw [if_pos ek] at e
      rw [← e]
      exact h y hy
    · rw [if_neg ek] at e
      rw [← e]
      exact h y hy
  · rw [if_neg hs] at hx
    rcases List.mem_append.mp hx with z | z
    · exact h x z
    · rw [List.mem_singleton.mp z]
      exact ⟨hb, hd⟩
theorem NKeys.up {K : PySem.W.Frag} {H G : Hp} {xs : List NRow} (h : NKeys K H xs) (s : Same H G) : NKeys K G xs := fun x hx => ⟨dp_same s _ _ (h x hx).1, (h x hx).2⟩
section
variable {X : Cx} {pins : List (Addr × Obj)} {σ : L2.St} {H : Hp} {s : Shared} {a : Addr} {xs : List NRow}
theorem dn_of (I : Inv X pins σ H s) (e : H a = some (dNO X.prog X.w a xs)) (hk : NKeys X.K H xs) : xs.length ≤ sizeLine ∧ (a == sysModules) = false ∧ ∃ ys, NRel xs ys ∧ s.heap.DictOfH (nestedKind X.prog X.w) a ys := by
  obtain ⟨⟨hz, hs, ys, r, o, es, ep, h1, h2, h3, h4, h5⟩, _, _⟩ := (show ObjOk X.prog X.w H s.heap a (dNO X.prog X.w a xs) from I.hok a _ e)
  refine ⟨hz, hs, ys, r, o, es, ep, h1, h2, h3, h4, ?_, h5⟩
  have all : ∀ {l : List NRow} {m : List (NestedKey × Addr × Value)}, NRel l m → (∀ x ∈ l, Dp X.K H (.ref x.2.1) (keyD x.1) ∧ x.1.depth ≤ 8) → ∀ y ∈ m, (nestedKind X.prog X.w).is s.heap y.1 y.2.1 := by
    intro l m q
    induction q with
    | nil => exact fun _ y hy => nomatch hy
    | @cons p q ps qs hq t ih =>
      intro hl y hy
      rcases List.mem_cons.mp hy with z | z
      · subst z
        obtain ⟨c1, c2⟩ := hl p List.mem_cons_self
        obtain ⟨e1, e2, _⟩ := hq
        refine ⟨?_, by rw [← e1]; exact c2⟩
        have := nested_of I p.1 (.ref p.2.1) (.ref p.2.1) c1 rfl
        rw [← e1, ← e2]
        exact this
      · exact ih (fun x hx => hl x (List.mem_cons_of_mem _ hx)) y z
  exact all r hk
end
/-- {} -/
def tDNewN (P : Program) (w : World) : TE := fun _ H Q => ∀ p, H p = none → Q (.ref p) (upd H p (dNO P w p []))
/-- d[y], there -/
def tDGetN (P : Program) (w : World) (K : PySem.W.Frag) (td ty : TE) : TE := fun σ H Q => td σ H fun x H1 => ty σ H1 fun y H2 => ∃ a b xs k n, x = .ref a ∧ y = .ref b ∧ H2 a = some (dNO P w a xs) ∧ NKeys K H2 xs ∧ Dp K H2 (.ref b) (keyD k) ∧ k.depth ≤ 8 ∧ nfind xs k = some n ∧ Q (.int n) H2
def tDNotInN (P : Program) (w : World) (K : PySem.W.Frag) (ty td : TE) : TE := fun σ H Q => ty σ H fun y H1 => td σ H1 fun x H2 => ∃ a b xs k, x = .ref a ∧ y = .ref b ∧ H2 a = some (dNO P w a xs) ∧ NKeys K H2 xs ∧ Dp K H2 (.ref b) (keyD k) ∧ k.depth ≤ 8 ∧ Q (.bl (!(nfind xs k).isSome)) H2
/-- d[y] = n -/
def sDPutN (P : Program) (w : World) (K : PySem.W.Frag) (td ty tv : TE) : TS := fun D σ H => tv σ H fun v H1 => td σ H1 fun x H2 => ty σ H2 fun y H3 => ∃ a b xs k n, v = .int n ∧ x = .ref a ∧ y = .ref b ∧ H3 a = some (dNO P w a xs) ∧ NKeys K H3 xs ∧ Dp K H3 (.ref b) (keyD k) ∧ k.depth ≤ 8 ∧ xs.length < sizeLine ∧ D.nx σ (upd H3 a (dNO P w a (nput xs k b n)))
section
variable {X : Cx} {o i value : Expr} {pos pos' : Pos} {td ty tv : TE}
theorem dn_ok {P : Program} {w : World} {H : Hp} {h : Heap} {a : Addr} {xs : List NRow} (hz : xs.length ≤ sizeLine) (hs : (a == sysModules) = false) {ys : List (NestedKey × Addr × Value)} (r : NRel xs ys) (dd : h.DictOfH (nestedKind P w) a ys) : ObjOk P w H h a (dNO P w a xs) := by
  obtain ⟨o, es, ep, h1, h2, h3, h4, _, h5⟩ := dd
  exact ⟨⟨hz, hs, ys, r, o, es, ep, h1, h2, h3, h4, h5⟩, ⟨o, h1⟩, fun g1 g2 ⟨z, y, vs, q, ob, es', ep', e, c⟩ kp => ⟨z, y, vs, q, ob, es', ep', kp _ e, c⟩⟩
theorem pe_dnewN : PE X (.Dict [] [] pos) (tDNewN X.prog X.w) := ⟨fun pins s σ H Q I h =>
  wpAny_Dict_empty ⟨.ref s.heap.objs.size, _, I.laid (a := s.heap.objs.size) (o := dNO X.prog X.w s.heap.objs.size []) (t' := s.toks) (fun _ _ q => Heap.get?_push_of_some _ q) (Nat.le_refl _)
    (dn_ok (Nat.zero_le _) (beq_eq_false_iff_ne.mpr (Ne.symm (Nat.ne_of_lt I.big))) .nil ⟨_, #[], 0, Heap.get?_push_size _ rfl, ⟨rfl, rfl, rfl⟩, rfl, rfl, (fun x hx => nomatch hx), List.nodup_nil⟩), rfl, h _ (I.hok.fresh (Nat.le_refl _))⟩⟩
theorem room8 {A : Around} (hu : A.units + 64 < cLine) : (nestedKind X.prog X.w).room A.in1 := by
  show A.in1.units + 8 < cLine
  have : A.in1.units ≤ A.units + 1 := by
    first
      | exact Nat.le_refl _
      | (show _ ≤ _; simp [Around.in1])
  omega
theorem pe_dgetN (hu : X.A.units + 64 < cLine) (ho : PE X o td) (hi : PE X i ty) (hs : NoSl i) : PE X (.Subscript o i pos) (tDGetN X.prog X.w X.K td ty) := by
  refine ⟨fun pins s σ H Q I h => ?_⟩
  refine subD_of PySem.F.slot_dict_getitem.lookup hs (thn (ho.run pins s σ H _ I h) fun u s1 ⟨x, H1, I1, rx, q1⟩ => thn (hi.run pins s1 σ H1 _ I1 q1) fun iv s2 ⟨y, H2, I2, ry, a, b, xs, k, n, ex, ey, e, hk, hd, h8, hf, q2⟩ => ?_)
  subst ex ey
  cases rx
  cases ry
  obtain ⟨hz, hm, ys, r, dd⟩ := dn_of I2 e hk
  rcases r.find k with ⟨z, _⟩ | ⟨m, c, t, z1, z2⟩
  · rw [z] at hf
    cases hf
  · rw [z1] at hf
    have em : m = n := Option.some.inj hf
    subst em
    exact ⟨dd.typeIs, wpAny_getItem_heap (room8 hu) ⟨nested_of I2 k _ _ hd rfl, h8⟩ dd z2 ⟨.int m, H2, I2.tok _, ⟨t, rfl⟩, q2⟩⟩
theorem pc_dnotinN2 (hu : X.A.units + 64 < cLine) (hi : PE X i ty) (ho : PE X o td) : PC X .NotIn i o (tDNotInN X.prog X.w X.K ty td) := by
  refine ⟨fun pins s σ H Q I h => ?_⟩
  refine thn (hi.run pins s σ H _ I h) fun iv s1 ⟨y, H1, I1, ry, q1⟩ => thn (ho.run pins s1 σ H1 _ I1 q1) fun u s2 ⟨x, H2, I2, rx, a, b, xs, k, ex, ey, e, hk, hd, h8, q2⟩ => ?_
  subst ex ey
  cases rx
  cases ry
  obtain ⟨hz, hm, ys, r, dd⟩ := dn_of I2 e hk
  refine wpAny_notIn_heap (room8 hu) ⟨nested_of I2 k _ _ hd rfl, h8⟩ hm dd ?_
  have es : (atKey ys k).isSome = (nfind xs k).isSome := by
    rcases r.find k with ⟨z1, z2⟩ | ⟨m, c, t, z1, z2⟩ <;> rw [z1, z2] <;> rfl
  rw [es]
  exact ⟨.bl _, H2, I2.tok _, rfl, q2⟩
theorem ps_dputN (hu : X.A.units + 64 < cLine) (ho : PE X o td) (hi : PE X i ty) (hv : PE X value tv) (hs : swapsWith value (some (.Subscript o i pos')) pos.line X.env = pure false) : PS X (.Assign [.Subscript o i pos'] value pos) (sDPutN X.prog X.w X.K td ty tv) := by
  refine ⟨fun pins s σ H D I h => ?_⟩
  refine wpAny_Assign_Subscript (thn (hv.run pins s σ H _ I h) fun rr s1 ⟨v, H1, I1, rv, q1⟩ => thn (ho.run pins s1 σ H1 _ I1 q1) fun u s2 ⟨x, H2, I2, rx, q2⟩ => thn (hi.run pins s2 σ H2 _ I2 q2) fun iv s3 ⟨y, H3, I3, ry, a, b, xs, k, n, ev, ex, ey, e, hk, hd, h8, hl, q3⟩ => ?_) hs
  subst ev ex ey
  cases rx
  cases ry
  obtain ⟨t, rfl⟩ := rv
  obtain ⟨hz, hm, ys, r, dd⟩ := dn_of I3 e hk
  have hzy : ys.length ≤ sizeLine := by rw [← Paired.length r]; exact hz
  refine wpAny_setItem_heap (hsz := hzy) (room8 hu) ⟨nested_of I3 k _ _ hd rfl, h8⟩ dd fun h' dd' hsb => ?_
  have he : ∃ q, h'.get? a = some q := let ⟨q, _, _, hq, _⟩ := dd'; ⟨q, hq⟩
  exact ⟨σ, _, d_write I3 (by rw [e]; exact True.intro) hsb he (dn_ok (Nat.le_trans (nput_len xs k b n) hl) hm (r.put k b n t) dd'), q3⟩
end
end TX
namespace TX
open PySem PySem.Spec PyProof.Rows L2
/-! ### enumerate(tuple) -/
theorem enum_meets {v : Value} {o : Obj} {L : Heap → Prop} (B : Begins v o L) :
    Meets (Builtin.«enumerate.__new__» ⟨[.type "enumerate", v], []⟩) (fun _ R s => L s.heap ∧ R (.ok (.ret (.ref (s.heap.push o).objs.size)))
        { s with heap := (s.heap.push o).push { cls := .type "enumerate", data := .fields #[.none, .bool false, .ref s.heap.objs.size, rawInt 0, .none, .none] } }) := .of_wp fun pr ww Aa Rr st hst => by
    obtain ⟨hp, gg, dd, tk, oo⟩ := st; obtain ⟨h1, h2⟩ := hst; have hsub := sub_enumerate
    have qb : ∀ {A' : Around} {E' : Value → Shared → Prop} {Q' : Value → Shared → Prop}, Q' (.ref hp.objs.size) ⟨hp.push o, gg, dd, tk, oo⟩ → wpAny (model pr ww) A' (pyIter v) Q' E' ⟨hp, gg, dd, tk, oo⟩ := fun q => B.iter pr ww _ _ ⟨hp, gg, dd, tk, oo⟩ _ h1 q
    wp_walk using qb
    refine wpAny_stack_any fun _ => wpAny_pure ?_; split
    · rename_i c _ _ _ _ _; cases (c == Value.type "enumerate") <;> · wp_walk using qb
                                                                      exact ⟨_, rfl, h2⟩
    · wp_walk using qb; exact ⟨_, rfl, h2⟩
theorem enum_call {prog : Program} {w : World} {A : Around} {E : Value → Shared → Prop} {s : Shared} {v : Value} {o : Obj} {L : Heap → Prop} {Q : Value → Shared → Prop} (B : Begins v o L) (h1 : L s.heap)
    (h : ∀ h', IsEnum h' (s.heap.objs.size + 1) s.heap.objs.size 0 .none → h'.get? s.heap.objs.size = some o → (∀ b u, s.heap.get? b = some u → h'.get? b = some u) → Q (.ref (s.heap.objs.size + 1)) { s with heap := h' }) :
    wpAny (model prog w) A (call (.type "enumerate") [v]) Q E s := by
  refine callType_new F.called_enumerate (by decide) (F.typeCall_enumerate_1 _) (F.newCall_enumerate_1 _) (fun ob => F.args_object_init_2 ob _) F.entry_enumerate_new (enum_meets B) ⟨h1, ?_⟩
  have hz : (s.heap.push o).objs.size = s.heap.objs.size + 1 := Heap.size_push _ _
  show _ ∧ _
  rw [hz]
  have he : IsEnum ((s.heap.push o).push { cls := .type "enumerate", data := .fields #[.none, .bool false, .ref s.heap.objs.size, rawInt 0, .none, .none] }) (s.heap.objs.size + 1) s.heap.objs.size 0 .none := by have q := Heap.get?_push_size (s.heap.push o) (o := { cls := .type "enumerate", data := .fields #[.none, .bool false, .ref s.heap.objs.size, rawInt 0, .none, .none] }) rfl; rw [hz] at q; exact q
  exact ⟨⟨_, he, rfl⟩, h _ he (Heap.get?_push_of_some _ (Heap.get?_push_size _ B.free)) fun b u x => Heap.get?_push_of_some _ (Heap.get?_push_of_some _ x)⟩
def Itet (K : PySem.W.Frag) (a : Addr) (xs : List V) : It :=
  ⟨fun i H => SqT K H a xs ∧ i < xs.length, fun i H v H' => ∃ T x, v = .ref T ∧ H T = none ∧ H' = upd H T (.tup [.int (i : Nat), x]) ∧ xs[i]? = some x, fun i H => SqT K H a xs ∧ xs.length ≤ i⟩
theorem turn_enumT {P : Program} {w : World} {K : PySem.W.Frag} {elts : List Expr} {kk : Nat} {tpos : Pos} (a e it : Addr) (xs : List V) :
    Turn P w K (.Tuple elts kk tpos) (Itet K a xs) [e, it] e (fun i h => (∃ old, IsEnum h e it ((i : Nat) : Int) old) ∧ h.IsTupleIter it a i ∧ e ≠ it ∧ i ≤ xs.length) where
  mem := by simp
  obj := fun i h st b hb => by
    obtain ⟨⟨_, he⟩, ⟨ob, ho, _, hd⟩, _⟩ := st
    rcases (show b = e ∨ b = it by simpa using hb) with z | z
    · rw [z]; exact ⟨_, he, fun v q => nomatch q⟩
    · rw [z]; exact ⟨ob, ho, fun v q => by rw [hd] at q; cases q⟩
  keep := fun i h h' st k => let ⟨⟨old, he⟩, ti, hne, hl⟩ := st; ⟨⟨old, k e (by simp) _ he⟩, ti.at fun o q => k it (by simp) o q, hne, hl⟩
  item := by
    intro X hP hw hK hc i pins s σ H E I hf st hg; subst hP hw hK
    obtain ⟨⟨old, he⟩, ti, hne, hle⟩ := st; obtain ⟨hq, hx0⟩ := hg; have hx := List.getElem?_eq_getElem hx0; obtain ⟨x, ex⟩ : ∃ x, xs[i] = x := ⟨_, rfl⟩; rw [ex] at hx; obtain ⟨its, rv, p, hz⟩ := I.tuple hq; obtain ⟨u, hu, ru⟩ := rv.get hx
    have hel : e < s.heap.objs.size := Heap.lt_size he
    have hil : it < s.heap.objs.size := let ⟨_, q, _⟩ := ti; Heap.lt_size q
    have pt : s.heap.IsTuple a its.toArray := p
    have ait : a ≠ it := fun z => by
      obtain ⟨o1, g1, c1, _⟩ := p
      obtain ⟨o2, g2, c2, _⟩ := ti
      rw [z, g2] at g1
      cases g1
      rw [c2] at c1
      exact absurd c1 (by decide)
    have ae : e ≠ a := fun z => by
      obtain ⟨o1, g1, c1, _⟩ := p
      have e2 : s.heap.get? e = some _ := he
      rw [z, g1] at e2
      cases e2
      exact absurd (show Value.type "enumerate" = Value.type "tuple" from c1) (by decide)
    have hi : i < its.toArray.size := by
      have := (List.getElem?_eq_some_iff.mp hu).1
      rw [List.size_toArray]
      exact this
    refine wpAny_pyNext_enum_itemD (Draws.tuple (A := X.A.in1) (show X.A.in1.handled = none from I.ok.hd hc) it a ait its.toArray) he ⟨ti, pt⟩ hi hne (by simpa using ⟨hne, ae⟩) fun u2 h' tk hu2 ho st' hT hsz hk => ?_
    have eu : u2 = u := by
      have e1 : its[i]? = some u2 := by simpa using hu2
      rw [hu] at e1
      exact (Option.some.inj e1).symm
    subst eu
    refine ⟨_, rfl, wpAny_letOwnedTupleGo_enum (s := { s with heap := h', toks := tk + 1 }) ho fun h'' he' sb => ?_⟩
    have hT2 : h''.get? s.heap.objs.size = some { cls := .type "tuple", data := .seq #[.int i tk, u2] } := (sb.2 _ (Nat.ne_of_gt hel)).trans hT
    have new : ObjOk X.prog X.w (upd H s.heap.objs.size (.tup [.int (i : Nat), x])) h'' s.heap.objs.size (.tup [.int (i : Nat), x]) := ⟨by show 2 ≤ sizeLine; decide, [.int i tk, u2], .cons ⟨_, rfl⟩ (.cons ru .nil), ⟨_, hT2, rfl, _, rfl⟩⟩
    have I1 : Inv X pins σ (upd H s.heap.objs.size (.tup [.int (i : Nat), x])) { s with heap := h'', toks := tk + 1 } := I.turnedNew (ch := [e, it]) (fun b ob hb q => (sb.2 b (fun z => hb (by simp [z]))).trans (hk b ob (fun z => hb (by simp [z])) (fun z => hb (by simp [z])) q)) hf (Nat.le_refl _) new
    refine ⟨.ref s.heap.objs.size, _, I1, rfl, ⟨_, x, rfl, I.hok.fresh (Nat.le_refl _), rfl, hx⟩, ⟨⟨u2, ?_⟩, st'.1.at fun o q => (sb.2 it (Ne.symm hne)).trans q, hne, hx0⟩, fun b hb => ?_⟩
    · rw [show ((i + 1 : Nat) : Int) = (i : Int) + 1 by omega]; exact he'
    · have hb' : b < s.heap.objs.size := by
        rcases (show b = e ∨ b = it by simpa using hb) with z | z
        · rw [z]; exact hel
        · rw [z]; exact hil
      rw [upd_ne (Nat.ne_of_lt hb')]; exact (hf b hb).1
  done := by
    intro X hP hw hK hc i pins s σ H E I hf st hg; subst hP hw hK
    obtain ⟨⟨old, he⟩, ti, hne, hle⟩ := st; obtain ⟨hq, hx⟩ := hg; obtain ⟨its, rv, p, hz⟩ := I.tuple hq
    obtain ⟨f0, f1, f2, f3, f4, f5⟩ := hf it (by simp)
    have pt : s.heap.IsTuple a its.toArray := p
    have ait : a ≠ it := fun z => by
      obtain ⟨o1, g1, c1, _⟩ := p
      obtain ⟨o2, g2, c2, _⟩ := ti
      rw [z, g2] at g1
      cases g1
      rw [c2] at c1
      exact absurd c1 (by decide)
    have ei : i = its.toArray.size := by
      rw [List.size_toArray, ← rv.length]
      omega
    subst ei
    exact wpAny_pyNext_enum_endD (Draws.tuple (A := X.A.in1) (show X.A.in1.handled = none from I.ok.hd hc) it a ait its.toArray) he ⟨ti, pt⟩ fun h' eb => ⟨rfl, I.turned (t' := s.toks) (fun b o hb q => eb b o hb q) f0 f1 f3 f4 f5⟩
  self := fun A i s Q E st h => let ⟨⟨_, he⟩, _⟩ := st; wpAny_pyIter_enum he h
def iEnumT (K : PySem.W.Frag) (ta : TA) : TI := fun σ H R => ta σ H fun vs H1 => ∃ a xs, vs = [.ref a] ∧ SqT K H1 a xs ∧ R (Itet K a xs) H1
theorem pi_enumT {X : Cx} {e : Expr} {ta : TA} {p pos tpos : Pos} {elts : List Expr} {kk : Nat} (hg : Gl X "enumerate") (hm : X.mg "enumerate" = none) (ha : PA X [e] ta) (hs : starEach [e] X.env = [(false, eval e X.env)] := by rfl) : PI X (.Tuple elts kk tpos) (.Call (.Name "enumerate" p) [e] [] pos) (iEnumT X.K ta) := by
  refine ⟨fun pins s σ H R I h => ?_⟩
  refine Call_ (ld_blt I hg hm boot_enumerate (PyProof.Rows.callWith_type1 (thn (ha.run pos pins s σ H _ I h) fun us s1 ⟨vs, H1, I1, r1, q1⟩ => ?_) hs rfl))
  obtain ⟨a, xs, ex, hq, q⟩ := q1
  subst ex
  cases r1 with
  | cons r rr =>
    cases rr; cases r
    obtain ⟨its, rv, p', hz⟩ := I1.tuple hq
    refine enum_call (begins_tuple a its.toArray) (show s1.heap.IsTuple a its.toArray from p') fun h' he hit hk => wpAny_pyIter_enum he ?_
    have I2 : Inv X pins σ H1 { s1 with heap := h' } := I1.kept (t' := s1.toks) hk
    refine ⟨s1.heap.objs.size + 1, [s1.heap.objs.size + 1, s1.heap.objs.size], _, _, H1, rfl, I2, turn_enumT a (s1.heap.objs.size + 1) s1.heap.objs.size xs, ⟨⟨.none, he⟩, ⟨_, hit, rfl, rfl⟩, Nat.succ_ne_self _, Nat.zero_le _⟩, fun b hb => ?_, q⟩
    have hle : s1.heap.objs.size ≤ b := by
      rcases (show b = s1.heap.objs.size + 1 ∨ b = s1.heap.objs.size by simpa using hb) with z | z
      · rw [z]; exact Nat.le_add_right _ _
      · rw [z]; exact Nat.le_refl _
    exact I1.fpOk hle (I1.hok.fresh hle)
theorem walk_enumT {K : PySem.W.Frag} {a : Addr} {xs : List V} : Walk (Itet K a xs) xs.length (fun H => SqT K H a xs) (fun i H v H' => ∃ T x, v = .ref T ∧ H T = none ∧ H' = upd H T (.tup [.int (i : Nat), x]) ∧ xs[i]? = some x) :=
  ⟨fun _ _ hi q => ⟨q, hi⟩, fun _ q => ⟨q, Nat.le_refl _⟩, fun _ _ _ _ _ _ y => y⟩
end TX
namespace TX
open PySem PySem.Spec PyProof.Rows L2
/-! ### steps as keys; two recipes together -/
def optK : Option Nat → NestedKey
  | .none => .none
  | some h => .num (h : Nat)
def Sg.numK : Sg → List NestedKey
  | .texts lo hi => [.num (lo : Nat), optK hi]
  | _ => []
def Sg.key (g : Sg) : NestedKey := .tup [.text g.sign, .tup (g.parts.map fun (n : Nat) => NestedKey.num n), .tup g.numK]
theorem keyDs_nums (ns : List Nat) : keyDs (ns.map fun (n : Nat) => NestedKey.num n) = ns.map fun (n : Nat) => PyData.int n := by
  induction ns with
  | nil => rfl
  | cons n ns ih => simp only [List.map_cons, keyDs, keyD, ih]
theorem dp_nums {K : PySem.W.Frag} {H : Hp} (ns : List Nat) : DpAll K H (ns.map fun (n : Nat) => V.int n) (ns.map fun (n : Nat) => PyData.int n) := by
  induction ns with
  | nil => exact .nil
  | cons n ns ih => exact .cons (.int _) ih
theorem StepAt.dp {K : PySem.W.Frag} {H : Hp} {a : Addr} {g : Sg} (h : StepAt K H a g) : Dp K H (.ref a) (keyD g.key) := by
  obtain ⟨p, q, h1, h2, h3⟩ := h
  have e : keyD g.key = .tuple [.str g.sign, .tuple (g.parts.map fun (n : Nat) => PyData.int n), .tuple (keyDs g.numK)] := by
    simp only [Sg.key, keyD, keyDs, keyDs_nums]
  rw [e]
  refine .tup h1 (.cons (.str _) (.cons (.tup h2 (dp_nums _)) (.cons (.tup h3 ?_) .nil)))
  cases g with
  | texts lo hi =>
    cases hi with
    | none => exact .cons (.int _) (.cons .non .nil)
    | some h => exact .cons (.int _) (.cons (.int _) .nil)
  | _ => exact .nil
theorem nums_dep (ns : List Nat) : NestedKey.depthAll (ns.map fun (n : Nat) => NestedKey.num n) = 0 := by
  induction ns with
  | nil => rfl
  | cons n ns ih => simp only [List.map_cons, NestedKey.depthAll, NestedKey.depth, ih]; rfl
theorem Sg.key_dep (g : Sg) : g.key.depth ≤ 8 := by
  have h : NestedKey.depthAll g.numK = 0 := by
    cases g with
    | texts lo hi => cases hi <;> rfl
    | _ => rfl
  simp only [Sg.key, NestedKey.depth, NestedKey.depthAll, nums_dep, h]
  decide
def tagS (s : Str) : Nat := if s = "every" then 0 else if s = "never" then 1 else if s = "nothing" then 2 else if s = "texts" then 3 else if s = "lists" then 4 else if s = "nested" then 5 else if s = "outside" then 6 else if s = "either" then 7 else if s = "both" then 8 else 9
def Sg.tag : Sg → Nat
  | .every => 0
  | .never => 1
  | .nothing => 2
  | .texts _ _ => 3
  | .lists _ => 4
  | .nested _ => 5
  | .outside _ => 6
  | .either _ _ => 7
  | .both _ _ => 8
  | .minus _ _ => 9
theorem Sg.tag_sign (g : Sg) : tagS g.sign = g.tag := by
  cases g <;> (simp only [Sg.sign, Sg.tag]; decide +kernel)
theorem nums_inj : ∀ {a b : List Nat}, a.map (fun (n : Nat) => NestedKey.num n) = b.map (fun (n : Nat) => NestedKey.num n) → a = b
  | [], [], _ => rfl
  | [], _ :: _, h => by simp at h
  | _ :: _, [], h => by simp at h
  | x :: a, y :: b, h => by
    simp only [List.map_cons, List.cons.injEq, NestedKey.num.injEq] at h
    rw [nums_inj h.2]
    have := h.1
    congr 1
    omega
theorem Sg.key_inj {g g' : Sg} (h : g.key = g'.key) : g = g' := by
  simp only [Sg.key, NestedKey.tup.injEq, List.cons.injEq, NestedKey.text.injEq, and_true] at h
  obtain ⟨h1, h2, h3⟩ := h
  have ht : g.tag = g'.tag := by rw [← g.tag_sign, ← g'.tag_sign, h1]
  have hp := nums_inj h2
  clear h1 h2
  cases g <;> cases g' <;> (first | (simp [Sg.tag] at ht; done) | rfl | (simp only [Sg.parts, List.cons.injEq, and_true] at hp; subst hp; rfl) | (simp only [Sg.parts, List.cons.injEq, and_true] at hp; obtain ⟨e1, e2⟩ := hp; subst e1 e2; rfl) | skip)
  rename_i lo hi lo' hi'
  simp only [Sg.numK, List.cons.injEq, NestedKey.num.injEq, and_true] at h3
  obtain ⟨e1, e2⟩ := h3
  have e1' : lo = lo' := by omega
  subst e1'
  cases hi with
  | none =>
    cases hi' with
    | none => rfl
    | some h => simp [optK] at e2
  | some h =>
    cases hi' with
    | none => simp [optK] at e2
    | some h' =>
      simp only [optK, NestedKey.num.injEq] at e2
      have : h = h' := by omega
      rw [this]
/-- a step with its parts moved -/
def Sg.move (ms : List Nat) : Sg → Sg
  | .lists k => .lists (ms.getD k 0)
  | .nested k => .nested (ms.getD k 0)
  | .outside k => .outside (ms.getD k 0)
  | .either j k => .either (ms.getD j 0) (ms.getD k 0)
  | .both j k => .both (ms.getD j 0) (ms.getD k 0)
  | .minus j k => .minus (ms.getD j 0) (ms.getD k 0)
  | g => g
theorem Sg.move_sign (ms : List Nat) (g : Sg) : (g.move ms).sign = g.sign := by cases g <;> rfl
theorem Sg.move_parts (ms : List Nat) (g : Sg) : (g.move ms).parts = g.parts.map fun k => ms.getD k 0 := by cases g <;> rfl
theorem Sg.move_nums (ms : List Nat) (g : Sg) : (g.move ms).nums = g.nums := by cases g <;> rfl
theorem Sg.move_few (ms : List Nat) (g : Sg) : (g.move ms).few ↔ g.few := by cases g <;> exact Iff.rfl
theorem Sg.move_ask (ms : List Nat) (g : Sg) : (g.move ms).askB = g.askB := by cases g <;> rfl
theorem Sg.pred_congr {g : Sg} {ps qs : List (PyData → Bool)} (h : ∀ k ∈ g.parts, ps.getD k nv = qs.getD k nv) : g.pred ps = g.pred qs := by
  cases g with
  | lists k => simp only [Sg.pred, h k (by simp [Sg.parts])]
  | nested k => simp only [Sg.pred, h k (by simp [Sg.parts])]
  | outside k => simp only [Sg.pred, h k (by simp [Sg.parts])]
  | either j k => simp only [Sg.pred, h j (by simp [Sg.parts]), h k (by simp [Sg.parts])]
  | both j k => simp only [Sg.pred, h j (by simp [Sg.parts]), h k (by simp [Sg.parts])]
  | minus j k => simp only [Sg.pred, h j (by simp [Sg.parts]), h k (by simp [Sg.parts])]
  | _ => rfl
theorem Sg.pred_move {g : Sg} {ms : List Nat} {ps qs : List (PyData → Bool)} (h : ∀ k ∈ g.parts, ps.getD (ms.getD k 0) nv = qs.getD k nv) : (g.move ms).pred ps = g.pred qs := by
  cases g with
  | lists k => simp only [Sg.move, Sg.pred, h k (by simp [Sg.parts])]
  | nested k => simp only [Sg.move, Sg.pred, h k (by simp [Sg.parts])]
  | outside k => simp only [Sg.move, Sg.pred, h k (by simp [Sg.parts])]
  | either j k => simp only [Sg.move, Sg.pred, h j (by simp [Sg.parts]), h k (by simp [Sg.parts])]
  | both j k => simp only [Sg.move, Sg.pred, h j (by simp [Sg.parts]), h k (by simp [Sg.parts])]
  | minus j k => simp only [Sg.move, Sg.pred, h j (by simp [Sg.parts]), h k (by simp [Sg.parts])]
  | _ => rfl
theorem preds_pre : ∀ (hs gs : List Sg) {i : Nat}, i < gs.length → (predsOf [] (gs ++ hs)).getD i nv = (predsOf [] gs).getD i nv := by
  intro hs
  induction hs with
  | nil => intro gs i _; rw [List.append_nil]
  | cons h hs ih =>
    intro gs i hi
    have e : gs ++ h :: hs = (gs ++ [h]) ++ hs := by simp
    rw [e, ih (gs ++ [h]) (by rw [List.length_append, List.length_singleton]; omega), predsOf_snoc]
    exact getD_old (by rw [predsOf_len]; simpa using hi)
theorem preds_at {gs : List Sg} {i : Nat} {g : Sg} (h : gs[i]? = some g) : (predsOf [] gs).getD i nv = g.pred (predsOf [] (gs.take i)) := by
  obtain ⟨hi, e⟩ := List.getElem?_eq_some_iff.mp h
  have e2 : gs = (gs.take i ++ [g]) ++ gs.drop (i + 1) := by
    rw [← e, List.take_append_getElem hi, List.take_append_drop]
  have hl : (gs.take i).length = i := by rw [List.length_take]; omega
  have e3 : (predsOf [] gs).getD i nv = (predsOf [] ((gs.take i ++ [g]) ++ gs.drop (i + 1))).getD i nv := by rw [← e2]
  rw [e3, preds_pre _ _ (by rw [List.length_append, List.length_singleton]; omega), predsOf_snoc]
  have e4 : i = (predsOf [] (gs.take i)).length := by
    rw [predsOf_len]
    simp
    omega
  have e5 := getD_new (ps := predsOf [] (gs.take i)) (q := g.pred (predsOf [] (gs.take i)))
  rw [← e4] at e5
  exact e5
theorem take_pre {gs : List Sg} {i k : Nat} (hk : k < i) (hi : i ≤ gs.length) : (predsOf [] (gs.take i)).getD k nv = (predsOf [] gs).getD k nv := by
  have e := preds_pre (gs.drop i) (gs.take i) (i := k) (by rw [List.length_take]; omega)
  rw [List.take_append_drop] at e
  exact e.symm
/-- the first i steps of the second, put to the first -/
structure Mg (gs1 gs2 : List Sg) (i : Nat) (more : List Sg) (ms : List Nat) : Prop where
  len : ms.length = i
  at_ : ∀ (t m : Nat), ms[t]? = some m → m < (gs1 ++ more).length ∧ (predsOf [] (gs1 ++ more)).getD m nv = (predsOf [] gs2).getD t nv
  few : ∀ g ∈ more, g.few
  part : ∀ (t : Nat) (g : Sg), (gs1 ++ more)[t]? = some g → ∀ k ∈ g.parts, k < t
  asks : asksN more ≤ asksN (gs2.take i)
  mlen : more.length ≤ i
theorem Mg.start {gs1 gs2 : List Sg} (h : ∀ (t : Nat) (g : Sg), gs1[t]? = some g → ∀ k ∈ g.parts, k < t) : Mg gs1 gs2 0 [] [] :=
  ⟨rfl, fun t m e => by simp at e, fun g hg => (nomatch hg), by rw [List.append_nil]; exact h, Nat.zero_le _, Nat.le_refl _⟩
section
variable {gs1 gs2 more : List Sg} {i : Nat} {ms : List Nat} {g : Sg}
theorem Mg.same (h : Mg gs1 gs2 i more ms) (hg : gs2[i]? = some g) (hp : ∀ k ∈ g.parts, k < i) : (g.move ms).pred (predsOf [] (gs1 ++ more)) = (predsOf [] gs2).getD i nv ∧ ∀ k ∈ (g.move ms).parts, k < (gs1 ++ more).length := by
  have il := (List.getElem?_eq_some_iff.mp hg).1
  have at2 : ∀ k, k < i → ms[k]? = some (ms.getD k 0) := fun k hk => by
    have := h.len
    rw [List.getD_eq_getElem?_getD, List.getElem?_eq_getElem (by omega)]
    rfl
  refine ⟨?_, fun k hk => ?_⟩
  · rw [preds_at hg, Sg.pred_move (qs := predsOf [] gs2) fun k hk => (h.at_ k _ (at2 k (hp k hk))).2]
    exact Sg.pred_congr fun k hk => (take_pre (hp k hk) (Nat.le_of_lt il)).symm
  · rw [Sg.move_parts] at hk
    obtain ⟨j, hj, rfl⟩ := List.mem_map.mp hk
    exact (h.at_ j _ (at2 j (hp j hj))).1
theorem Mg.next (h : Mg gs1 gs2 i more ms) (hg : gs2[i]? = some g) (hp : ∀ k ∈ g.parts, k < i) (hf : g.few) : Mg gs1 gs2 (i + 1) (more ++ [g.move ms]) (ms ++ [(gs1 ++ more).length]) := by
  obtain ⟨e1, e2⟩ := h.same hg hp
  have etk : gs2.take (i + 1) = gs2.take i ++ [g] := by
    rw [List.take_add_one, hg]
    rfl
  have eap : gs1 ++ (more ++ [g.move ms]) = (gs1 ++ more) ++ [g.move ms] := by rw [List.append_assoc]
  have hl := h.len
  refine ⟨by rw [List.length_append, h.len]; rfl, fun t m e => ?_, fun g' hg' => ?_, fun t g' e k hk => ?_, ?_, by have := h.mlen; rw [List.length_append, List.length_singleton]; omega⟩
  · by_cases ht : t < i
    · rw [List.getElem?_append_left (by omega)] at e
      obtain ⟨a, b⟩ := h.at_ t m e
      refine ⟨by rw [eap, List.length_append]; omega, ?_⟩
      rw [eap, preds_pre _ _ a, b]
    · have hlt := (List.getElem?_eq_some_iff.mp e).1
      rw [List.length_append, List.length_singleton] at hlt
      have ti : t = i := by omega
      subst ti
      rw [List.getElem?_append_right (by omega), show t - ms.length = 0 by omega] at e
      have em : (gs1 ++ more).length = m := by simpa using e
      subst em
      refine ⟨by simp only [List.length_append, List.length_cons, List.length_nil]; omega, ?_⟩
      rw [eap, predsOf_snoc, ← e1]
      have el : (gs1 ++ more).length = (predsOf [] (gs1 ++ more)).length := by rw [predsOf_len]; simp
      rw [el]
      exact getD_new
  · rcases List.mem_append.mp hg' with z | z
    · exact h.few g' z
    · rw [List.mem_singleton.mp z]
      exact (Sg.move_few ms g).mpr hf
  · rw [eap] at e
    by_cases ht : t < (gs1 ++ more).length
    · rw [List.getElem?_append_left ht] at e
      exact h.part t g' e k hk
    · have hlt := (List.getElem?_eq_some_iff.mp e).1
      rw [List.length_append (as := gs1 ++ more), List.length_singleton] at hlt
      have ti : t = (gs1 ++ more).length := by omega
      subst ti
      rw [List.getElem?_append_right (Nat.le_refl _), Nat.sub_self] at e
      cases e
      exact e2 k hk
  · rw [asksN_snoc, etk, asksN_snoc, Sg.move_ask]
    have := h.asks
    omega
theorem Mg.old (h : Mg gs1 gs2 i more ms) (hg : gs2[i]? = some g) (hp : ∀ k ∈ g.parts, k < i) {t : Nat} (ht : (gs1 ++ more)[t]? = some (g.move ms)) : Mg gs1 gs2 (i + 1) more (ms ++ [t]) := by
  obtain ⟨e1, e2⟩ := h.same hg hp
  have hl := h.len
  have etk : gs2.take (i + 1) = gs2.take i ++ [g] := by
    rw [List.take_add_one, hg]
    rfl
  refine ⟨by rw [List.length_append, h.len]; rfl, fun t' m e => ?_, h.few, h.part, ?_, by have := h.mlen; omega⟩
  · by_cases hti : t' < i
    · rw [List.getElem?_append_left (by omega)] at e
      exact h.at_ t' m e
    · have hlt := (List.getElem?_eq_some_iff.mp e).1
      rw [List.length_append, List.length_singleton] at hlt
      have ti : t' = i := by omega
      subst ti
      rw [List.getElem?_append_right (by omega), show t' - ms.length = 0 by omega] at e
      have em : t = m := by simpa using e
      subst em
      have tl := (List.getElem?_eq_some_iff.mp ht).1
      refine ⟨tl, ?_⟩
      rw [preds_at ht, ← e1]
      exact Sg.pred_congr fun k hk => take_pre (h.part t _ ht k hk) (Nat.le_of_lt tl)
  · rw [etk, asksN_snoc]
    have := h.asks
    omega
end
end TX
namespace TX
open PySem PySem.Spec PyProof.Rows L2
theorem nfind_new {xs : List NRow} {k : NestedKey} {b : Addr} {n : Int} (h : nfind xs k = none) : nfind (nput xs k b n) k = some n := by
  unfold nput
  rw [if_neg (by rw [h]; exact Bool.false_ne_true)]
  have hn : xs.find? (fun x => decide (x.1 = k)) = none := by
    unfold nfind at h
    cases q : xs.find? (fun x => decide (x.1 = k)) with
    | none => rfl
    | some y => rw [q] at h; cases h
  unfold nfind
  rw [List.find?_append, hn]
  simp
/-- the heap without the three that change -/
def W3 (H Hv : Hp) (a b c : Addr) (G : Hp) : Hp := L2.del (L2.del (L2.del (ov H Hv G) a) b) c
section
variable {H Hv G G' : Hp} {a b c : Addr}
theorem w3_at {x : Addr} (ha : x ≠ a) (hb : x ≠ b) (hc : x ≠ c) : W3 H Hv a b c G x = ov H Hv G x := by
  unfold W3
  rw [del_ne hc, del_ne hb, del_ne ha]
theorem w3_ne {x : Addr} {o : HO} (h : W3 H Hv a b c G x = some o) : x ≠ a ∧ x ≠ b ∧ x ≠ c := by
  unfold W3 at h
  have hc : x ≠ c := fun z => by
    rw [z, del_same] at h
    cases h
  rw [del_ne hc] at h
  have hb : x ≠ b := fun z => by
    rw [z, del_same] at h
    cases h
  rw [del_ne hb] at h
  have ha : x ≠ a := fun z => by
    rw [z, del_same] at h
    cases h
  exact ⟨ha, hb, hc⟩
theorem w3_mono (k : ∀ x o, x ≠ a → x ≠ b → x ≠ c → G x = some o → G' x = some o) : Same (W3 H Hv a b c G) (W3 H Hv a b c G') := fun x o e => by
  obtain ⟨h1, h2, h3⟩ := w3_ne e
  rw [w3_at h1 h2 h3] at e ⊢
  cases h : H x with
  | none =>
    rw [ov_new h] at e ⊢
    exact k x o h1 h2 h3 e
  | some u =>
    rw [ov_old h] at e ⊢
    exact e
theorem w3_sub : Same (W3 H Hv a b c G) (ov H Hv G) := fun x o e => by
  obtain ⟨h1, h2, h3⟩ := w3_ne e
  rw [w3_at h1 h2 h3] at e
  exact e
theorem w3_hv (sv : Same Hv H) (na : H a = none) (nb : H b = none) (nc : H c = none) : Same Hv (W3 H Hv a b c G) := fun x o e => by
  have e2 := sv _ _ e
  rw [w3_at (ne_of_none e2 na) (ne_of_none e2 nb) (ne_of_none e2 nc), ov_old e2]
  exact e
theorem w3_new {x : Addr} {o : HO} (hx : H x = none) (ha : x ≠ a) (hb : x ≠ b) (hc : x ≠ c) (e : G x = some o) : W3 H Hv a b c G x = some o := by
  rw [w3_at ha hb hc, ov_new hx]
  exact e
end
theorem recipe_snoc {K : PySem.W.Frag} {H : Hp} {rc a : Addr} {as : List Addr} {gs : List Sg} {g : Sg} (hl : as.length = gs.length) (hst : ∀ (i : Nat) (g : Sg) (a : Addr), gs[i]? = some g → as[i]? = some a → StepAt K H a g) (hfe : ∀ g ∈ gs, g.few) (hpa : ∀ (i : Nat) (g : Sg), gs[i]? = some g → ∀ k ∈ g.parts, k < i)
    (ha : SqT K H rc ((as ++ [a]).map V.ref)) (hs : StepAt K H a g) (hf : g.few) (hp : ∀ k ∈ g.parts, k < gs.length) : Recipe K H rc (as ++ [a]) (gs ++ [g]) := by
  have cs : ∀ {t : Nat} {g' : Sg}, (gs ++ [g])[t]? = some g' → (t < gs.length ∧ gs[t]? = some g') ∨ (t = gs.length ∧ g = g') := by
    intro t g' e
    by_cases ht : t < gs.length
    · rw [List.getElem?_append_left ht] at e
      exact .inl ⟨ht, e⟩
    · have hlt := (List.getElem?_eq_some_iff.mp e).1
      rw [List.length_append, List.length_singleton] at hlt
      have ti : t = gs.length := by omega
      rw [ti, List.getElem?_append_right (Nat.le_refl _), Nat.sub_self] at e
      exact .inr ⟨ti, by simpa using e⟩
  refine ⟨ha, by rw [List.length_append, List.length_append, hl]; rfl, fun t g' a' e1 e2 => ?_, fun g' hg => ?_, fun t g' e1 k hk => ?_⟩
  · rcases cs e1 with ⟨ht, e⟩ | ⟨ti, eg⟩
    · rw [List.getElem?_append_left (by rw [hl]; exact ht)] at e2
      exact hst t g' a' e e2
    · rw [ti, List.getElem?_append_right (by rw [hl]; exact Nat.le_refl _), hl, Nat.sub_self] at e2
      have ea : a = a' := by simpa using e2
      rw [← ea, ← eg]
      exact hs
  · rcases List.mem_append.mp hg with z | z
    · exact hfe g' z
    · rw [List.mem_singleton.mp z]
      exact hf
  · rcases cs e1 with ⟨_, e⟩ | ⟨ti, eg⟩
    · exact hpa t g' e k hk
    · rw [ti]
      rw [← eg] at hk
      exact hp k hk
/-- the second recipe under way: i steps are done -/
structure Lp (P : Program) (w : World) (K : PySem.W.Frag) (H Hv : Hp) (gs1 gs2 : List Sg) (as1 : List Addr) (rS rK rM : Addr) (i : Nat) (G : Hp) (asM : List Addr) (more : List Sg) (ms : List Nat) (xs : List NRow) : Prop where
  s : Same H G
  fS : G rS = some (.lst ((as1 ++ asM).map V.ref))
  fK : G rK = some (dNO P w rK xs)
  nk : NKeys K (W3 H Hv rS rK rM G) xs
  xl : xs.length ≤ gs1.length + i
  fd : ∀ k n, nfind xs k = some n → ∃ (t : Nat) (g : Sg), n = (t : Int) ∧ (gs1 ++ more)[t]? = some g ∧ g.key = k
  mg : Mg gs1 gs2 i more ms
  al : (as1 ++ asM).length = (gs1 ++ more).length
  st : ∀ (t : Nat) (g : Sg) (a : Addr), (gs1 ++ more)[t]? = some g → (as1 ++ asM)[t]? = some a → StepAt K (W3 H Hv rS rK rM G) a g
def spBoth (K : PySem.W.Frag) : Sp := fun vs H Q _ => ∃ (mk : Nat → Nat → Sg) (rc1 rc2 : Addr) (as1 as2 : List Addr) (gs1 gs2 : List Sg) (Hv : Hp), vs = [.str (mk 0 0).sign, .ref rc1, .ref rc2] ∧ Same Hv H ∧ Recipe K Hv rc1 as1 gs1 ∧ Recipe K Hv rc2 as2 gs2 ∧ gs1 ≠ [] ∧ gs2 ≠ [] ∧ gs1.length ≤ 300 ∧ gs2.length ≤ 100 ∧
  (∀ j k, (mk j k).sign = (mk 0 0).sign ∧ (mk j k).parts = [j, k] ∧ (mk j k).nums = [] ∧ (mk j k).few) ∧
  ∀ (H' : Hp) (rc' : Addr) (as' : List Addr) (more : List Sg) (j : Nat), Same H H' → Recipe K (ov H Hv H') rc' as' (gs1 ++ (more ++ [mk (gs1.length - 1) j])) → asksN more ≤ asksN gs2 → more.length ≤ gs2.length → j < (gs1 ++ more).length →
    (predsOf [] (gs1 ++ more)).getD j nv = (predsOf [] gs2).getD (gs2.length - 1) nv → Q (.ref rc') H'
section
variable {P : Program} {w : World} {K : PySem.W.Frag} {mg : Str → Option Value} {base : Heap}
theorem scBoth : FnScope ["sign", "one", "other", "steps", "known", "number", "step", "moved", "name", "parts", "numbers", "part"] ["sign", "one", "other"] (defScope s_step_over_both) := ⟨rfl, rfl, rfl, by decide +kernel, rfl, by decide +kernel, by decide +kernel⟩
theorem ok_both {f : Addr} {fd : FuncData} (F : Fun K "step_over_both" "step_over_both" s_step_over_both f fd) (T : Nm mg) (B : Nb mg) : FnOk P w K mg base CX0 1 f fd ["sign", "one", "other"] (spBoth K) := by
  refine F.ok scBoth (fun vs H Q E h => ?_) (fun cdv A outer s H vs Q E hr h => ?_)
  · obtain ⟨mk, rc1, rc2, as1, as2, gs1, gs2, Hv, rfl, _⟩ := h
    rfl
  · obtain ⟨mk, rc1, rc2, as1, as2, gs1, gs2, Hv, rfl, sv, R1, R2, ne1, ne2, l1, l2, hmk, q⟩ := h
    have hu := hr.units
    refine ⟨_, pss_cons (ps_set (i := 3) scBoth.nd rfl (.inl rfl) (pe_callTy call_list_of (by rfl) T.lst (by decide +kernel) (pa_cons (pv 1) pa_nil))) <|
      pss_cons (ps_set (i := 4) scBoth.nd rfl (.inl rfl) pe_dnewN) <|
      pss_cons (ps_for PassesOwn.never rfl (pi_enumT (by rfl) B.enum (pa_cons (pv 1) pa_nil)) (pg_tup rfl (pgs_cons (pg_name (i := 5) scBoth.nd rfl (.inl rfl)) (pgs_cons (pg_name (i := 6) scBoth.nd rfl (.inl rfl)) pgs_nil)))
        (pss_one (ps_dputN hu (pv 4) (pv 6) (pv 5) (by rfl)))) <|
      pss_cons (ps_set (i := 7) scBoth.nd rfl (.inr rfl) (pe_lst pa_nil)) <|
      pss_cons (ps_for PassesOwn.never rfl (pi_tup (pv 2)) (pg_tup rfl (pgs_cons (pg_name (i := 8) scBoth.nd rfl (.inl rfl)) (pgs_cons (pg_name (i := 9) scBoth.nd rfl (.inl rfl)) (pgs_cons (pg_name (i := 10) scBoth.nd rfl (.inl rfl)) pgs_nil)))) (
        pss_cons (ps_set (i := 6) scBoth.nd rfl (.inl rfl) (pe_tup (pa_cons (pv 8) (pa_cons (pe_callTy call_tuple_of (by rfl) T.tpl (by decide +kernel) (pa_cons (pe_lc (own := [("part", 11)]) (g := gName 11) (tt := tYes) (te := tOp (rIxL K) (tVar 7) (tVar 11)) rfl scBoth.nd (pi_tup (pv 9))
          (blkOk_by (own := [("part", 11)]) (N := ["sign", "one", "other", "steps", "known", "number", "step", "moved", "name", "parts", "numbers", "part"]) (sc := defScope s_step_over_both) (by decide +kernel)) (fun _ _ _ _ _ => pg_name (i := 11) scBoth.nd rfl (Or.inl rfl)) (fun _ _ _ _ _ => pts_nil) (fun _ _ _ _ _ => pe_ix ix_list (pv 7) (pv 11) (fun _ _ => rfl))) pa_nil)) (pa_cons (pv 10) pa_nil))))) <|
        C8.pss_cut (ps_if (pt_cmp (pc_dnotinN2 hu (pv 6) (pv 4))) (pss_cons (ps_dputN hu (pv 4) (pv 6) (pe_callB call_len_seq (by rfl) B.len PySem.boot_len (pa_cons (pv 3) pa_nil)) (by rfl)) <|
          pss_one (ps_expr (pe_bm PySem.F.plainAttrs_list PySem.F.slot_list_append PySem.F.type_list_append mt_append (pv 3) (pa_cons (pv 6) pa_nil)))) pss_nil) <|
        pss_one (ps_expr (pe_bm PySem.F.plainAttrs_list PySem.F.slot_list_append PySem.F.type_list_append mt_append (pv 7) (pa_cons (pe_dgetN hu (pv 4) (pv 6) (fun _ _ => rfl)) pa_nil))))) <|
      pss_one (ps_ret (pe_tup (StX.pa_star (pv 3) (pa_cons (pe_tup (pa_cons (pv 0) (pa_cons (pe_tup (pa_cons (pe_op op_sub (pe_callB call_len_seq (by rfl) B.len PySem.boot_len (pa_cons (pv 1) pa_nil)) pe_int) (pa_cons (pe_ix ix_list (pv 7) (pe_un un_neg pe_int) (fun _ _ => rfl)) pa_nil))) (pa_cons (pe_tup pa_nil) pa_nil)))) pa_nil)))), ?_⟩
    have al1 := R1.len
    have al2 := R2.len
    refine ⟨_, rfl, rc1, _, rfl, .inr (same_sqt sv R1.at_), fun rS nS => ?_⟩
    have s1 := same_upd (o := .lst (as1.map V.ref)) nS
    have fS1 := upd_same (H := H) (a := rS) (o := .lst (as1.map V.ref))
    generalize upd H rS (.lst (as1.map V.ref)) = H1 at s1 fS1
    intro rK nK
    have nK0 : H rK = none := s1.free nK
    have s2 := same_upd (o := dNO P w rK []) nK
    have fS2 := s2 _ _ fS1
    have fK2 := upd_same (H := H1) (a := rK) (o := dNO P w rK [])
    have hSK : rS ≠ rK := ne_of_none fS1 nK
    have sH2 := s1.trans s2
    refine ⟨_, rfl, rc1, as1.map V.ref, rfl, same_sqt (sv.trans sH2) R1.at_, for_it walk_enumT (fun i σ G => ∃ (y5 y6 : Option V) (xs : List NRow), σ = [some (.str (mk 0 0).sign), some (.ref rc1), some (.ref rc2), some (.ref rS), some (.ref rK), y5, y6, none, none, none, none, none] ∧ Same H G ∧ G rS = some (.lst (as1.map V.ref)) ∧ G rK = some (dNO P w rK xs) ∧ NKeys K Hv xs ∧ xs.length ≤ i ∧
      ∀ k n, nfind xs k = some n → ∃ (t : Nat) (g : Sg), n = (t : Int) ∧ gs1[t]? = some g ∧ g.key = k) ⟨none, none, [], rfl, sH2, fS2, fK2, (fun x hx => nomatch hx), Nat.le_refl _, fun k n e => (nomatch e)⟩ (fun i σ G hi ⟨_, _, _, _, sm, _⟩ => same_sqt (sv.trans sm) R1.at_) ?_ ?_⟩
    · rintro i x σ G G' hi ⟨y5, y6, xs, rfl, sG, fS, fK, nk, xl, fd⟩ ⟨T1, v, rfl, nT, rfl, hv⟩
      rw [List.length_map] at hi
      have ea := List.getElem?_eq_getElem hi
      have ev : v = .ref as1[i] := by
        rw [List.getElem?_map, ea] at hv
        exact (Option.some.inj hv).symm
      subst ev
      have hig : i < gs1.length := by omega
      have eg := List.getElem?_eq_getElem hig
      have st := R1.step i _ _ eg ea
      have sT := same_upd (o := .tup [.int (i : Nat), .ref as1[i]]) nT
      have sGT := sG.trans sT
      refine ⟨T1, _, rfl, SqT.of upd_same, rfl, _, _, rfl, _, _, rfl, rfl, ?_⟩
      refine ⟨_, rfl, _, rfl, _, rfl, rK, as1[i], xs, gs1[i].key, (i : Nat), rfl, rfl, rfl, sT _ _ fK, nk.up (sv.trans sGT), (st.up (sv.trans sGT)).dp, Sg.key_dep _, Nat.lt_of_le_of_lt (show xs.length ≤ 1000 by omega) (by decide), ?_⟩
      refine ⟨_, _, nput xs gs1[i].key as1[i] (i : Nat), rfl, same_fresh nK0 sGT, ?_, upd_same, nk.put _ st.dp (Sg.key_dep _), Nat.le_trans (nput_len _ _ _ _) (Nat.succ_le_succ xl), fun k n e => ?_⟩
      · rw [upd_ne hSK]
        exact sT _ _ fS
      · rcases nfind_put e with ⟨e1, e2⟩ | z
        · exact ⟨i, gs1[i], e2, eg, e1.symm⟩
        · exact fd k n z
    rintro σ G0 ⟨y5, y6, xs, rfl, sG0, fS, fK, nk, xl, fd⟩
    refine ⟨Nat.zero_le _, fun rM nM => ?_⟩
    have nM0 : H rM = none := sG0.free nM
    have hSM : rS ≠ rM := ne_of_none fS nM
    have hKM : rK ≠ rM := ne_of_none fK nM
    have s3 := same_upd (o := .lst []) nM
    have nSH : H rS = none := nS
    refine ⟨_, rfl, rc2, rfl, ⟨_, same_sqt (sv.trans (sG0.trans s3)) R2.at_⟩, for_tup (K := K) (a := rc2) (xs := as2.map V.ref) (fun i σ G => ∃ (y5 y6 y8 y9 y10 : Option V) (asM : List Addr) (more : List Sg) (ms : List Nat) (xs : List NRow), σ = [some (.str (mk 0 0).sign), some (.ref rc1), some (.ref rc2), some (.ref rS), some (.ref rK), y5, y6, some (.ref rM), y8, y9, y10, none] ∧
      Lp P w K H Hv gs1 gs2 as1 rS rK rM i G asM more ms xs ∧ G rM = some (.lst (ms.map fun (n : Nat) => V.int n))) ?_ ?_ ?_ ?_⟩
    · refine ⟨_, _, none, none, none, [], [], [], xs, rfl, ⟨sG0.trans s3, by rw [List.append_nil]; exact s3 _ _ fS, s3 _ _ fK, nk.up (w3_hv sv nSH nK0 nM0), by rw [List.length_map] at xl; omega, by rw [List.append_nil]; exact fd, Mg.start R1.part, by rw [List.append_nil, List.append_nil]; exact al1, fun t g a e1 e2 => ?_⟩, upd_same⟩
      rw [List.append_nil] at e1 e2
      exact (R1.step t g a e1 e2).up (w3_hv sv nSH nK0 nM0)
    · rintro i σ G hi ⟨_, _, _, _, _, _, _, _, _, _, lp, _⟩
      exact same_sqt (sv.trans lp.s) R2.at_
    · rintro i x σ G hx ⟨y5, y6, y8, y9, y10, asM, more, ms, xs, rfl, lp, fM⟩
      have il : i < as2.length := by
        have := (List.getElem?_eq_some_iff.mp hx).1
        rw [List.length_map] at this
        exact this
      have ea := List.getElem?_eq_getElem il
      have ex : x = .ref as2[i] := by
        rw [List.getElem?_map, ea] at hx
        exact (Option.some.inj hx).symm
      subst ex
      have hig : i < gs2.length := by omega
      have eg := List.getElem?_eq_getElem hig
      obtain ⟨g, hg⟩ : ∃ g, gs2[i] = g := ⟨_, rfl⟩
      rw [hg] at eg
      have st := R2.step i _ _ eg ea
      have hpart := R2.part i g eg
      have hfew := R2.few g (List.mem_of_getElem? eg)
      obtain ⟨p, qn, h1, h2, h3⟩ := st
      have sHG : Same Hv G := sv.trans lp.s
      have msl := lp.mg.len
      refine ⟨as2[i], _, rfl, same_sqt sHG h1, rfl, _, _, rfl, _, _, rfl, _, _, rfl, rfl, ?_⟩
      refine ⟨_, rfl, _, rfl, p, rfl, ⟨_, same_sqt sHG h2⟩, fun D nD => lc_tup (K := K) (a := p) (xs := g.parts.map fun (n : Nat) => V.int n) (fun j G' => G' D = some (.lst ((g.parts.take j).map fun k => V.int ((ms.getD k 0 : Nat) : Int))) ∧ Same G G') ⟨upd_same, same_upd nD⟩ (fun j G' hj ⟨_, sm⟩ => same_sqt (sHG.trans sm) h2) ?_ ?_⟩
      · rintro j x G' hx2 ⟨hD, sm⟩
        have jl : j < g.parts.length := by
          have := (List.getElem?_eq_some_iff.mp hx2).1
          rw [List.length_map] at this
          exact this
        have ex2 : x = .int ((g.parts[j] : Nat) : Int) := by
          rw [List.getElem?_map, List.getElem?_eq_getElem jl] at hx2
          exact (Option.some.inj hx2).symm
        subst ex2
        have kl := hpart _ (List.getElem_mem jl)
        have pl2 : g.parts.length ≤ 2 := by cases g <;> simp [Sg.parts]
        refine ⟨rfl, _, rfl, _, rfl, rM, _, _, .int ((ms.getD g.parts[j] 0 : Nat) : Int), rfl, rfl, SqL.of (sm _ _ fM), atI_nat ?_, _, hD, ?_, ?_, same_fresh nD sm⟩
        · rw [List.getElem?_map, List.getElem?_eq_getElem (by omega), List.getD_eq_getElem?_getD, List.getElem?_eq_getElem (by omega)]
          rfl
        · rw [List.length_map, List.length_take]
          exact Nat.lt_of_le_of_lt (show min j g.parts.length ≤ 100 by omega) (by decide)
        · rw [upd_same, List.take_add_one, List.getElem?_eq_getElem jl]
          simp only [List.map_append, Option.toList_some, List.map_cons, List.map_nil]
      rintro G1 ⟨hD, sm⟩
      rw [List.length_map, List.take_length] at hD
      refine ⟨D, _, rfl, .inl ⟨SqL.of hD, fun pt npt => ⟨_, rfl, (by show 3 ≤ sizeLine; decide), fun a na => ?_⟩⟩⟩
      have s4 := same_upd (o := .tup (g.parts.map fun k => V.int ((ms.getD k 0 : Nat) : Int))) npt
      have f4 := upd_same (H := G1) (a := pt) (o := .tup (g.parts.map fun k => V.int ((ms.getD k 0 : Nat) : Int)))
      have s5 := same_upd (o := .tup [.str g.sign, .ref pt, .ref qn]) na
      have f5 := upd_same (H := upd G1 pt (.tup (g.parts.map fun k => V.int ((ms.getD k 0 : Nat) : Int)))) (a := a) (o := .tup [.str g.sign, .ref pt, .ref qn])
      have npt0 : H pt = none := (lp.s.trans sm).free npt
      have na0 : H a = none := (lp.s.trans (sm.trans s4)).free na
      have sG2 := sm.trans (s4.trans s5)
      have f4' := s5 _ _ f4
      have nee : ∀ {y : Addr} {o : HO}, G y = some o → y ≠ pt ∧ y ≠ a := fun e => ⟨ne_of_none (sm _ _ e) npt, ne_of_none (s4 _ _ (sm _ _ e)) na⟩
      generalize upd (upd G1 pt (.tup (g.parts.map fun k => V.int ((ms.getD k 0 : Nat) : Int)))) a (.tup [.str g.sign, .ref pt, .ref qn]) = G2 at sG2 f4' f5
      obtain ⟨nSp, nSa⟩ := nee lp.fS
      obtain ⟨nKp, nKa⟩ := nee lp.fK
      obtain ⟨nMp, nMa⟩ := nee fM
      have sW : Same (W3 H Hv rS rK rM G) (W3 H Hv rS rK rM G2) := w3_mono fun x o _ _ _ e => sG2 _ _ e
      have stA : StepAt K (W3 H Hv rS rK rM G2) a (g.move ms) := by
        refine ⟨pt, qn, ?_, ?_, ?_⟩
        · rw [Sg.move_sign]
          exact SqT.of (w3_new na0 nSa.symm nKa.symm nMa.symm f5)
        · rw [Sg.move_parts, List.map_map]
          exact SqT.of (w3_new npt0 nSp.symm nKp.symm nMp.symm f4')
        · rw [Sg.move_nums]
          exact same_sqt (w3_hv sv nSH nK0 nM0) h3
      have s02 : Same H G2 := lp.s.trans sG2
      have wsub : Same (W3 H Hv rS rK rM G2) G2 := w3_sub.trans (ov_same sv s02)
      refine ⟨fun σ' G' => ∃ (asM' : List Addr) (more' : List Sg) (xs' : List NRow) (t : Nat), σ' = [some (.str (mk 0 0).sign), some (.ref rc1), some (.ref rc2), some (.ref rS), some (.ref rK), y5, some (.ref a), some (.ref rM), some (.str g.sign), some (.ref p), some (.ref qn), none] ∧
        Lp P w K H Hv gs1 gs2 as1 rS rK rM (i + 1) G' asM' more' (ms ++ [t]) xs' ∧ G' rM = some (.lst (ms.map fun (n : Nat) => V.int n)) ∧ StepAt K (W3 H Hv rS rK rM G') a (g.move ms) ∧ nfind xs' (g.move ms).key = some (t : Int), ?_, ?_⟩
      · refine ⟨_, rfl, _, rfl, rK, a, xs, (g.move ms).key, rfl, rfl, sG2 _ _ lp.fK, lp.nk.up (sW.trans wsub), (stA.up wsub).dp, Sg.key_dep _, _, rfl, ?_⟩
        cases hf : nfind xs (g.move ms).key with
        | some n =>
          obtain ⟨t, g', en, et, ek⟩ := lp.fd _ _ hf
          have eg' := Sg.key_inj ek
          subst eg' en
          refine iteF ⟨asM, more, xs, t, rfl, ⟨s02, sG2 _ _ lp.fS, sG2 _ _ lp.fK, lp.nk.up sW, by have := lp.xl; omega, lp.fd, lp.mg.old eg hpart et, lp.al, fun t g a e1 e2 => (lp.st t g a e1 e2).up sW⟩, sG2 _ _ fM, stA, hf⟩
        | none =>
          have tl := lp.al
          have xl := lp.xl
          have ml := lp.mg.mlen
          have gl : (gs1 ++ more).length ≤ 500 := by rw [List.length_append]; omega
          refine iteT ⟨_, rfl, rS, _, rfl, .inl (SqL.of (sG2 _ _ lp.fS)), _, rfl, _, rfl, rK, a, xs, (g.move ms).key, _, rfl, rfl, rfl, sG2 _ _ lp.fK, lp.nk.up (sW.trans wsub), (stA.up wsub).dp, Sg.key_dep _, Nat.lt_of_le_of_lt (show xs.length ≤ 1000 by omega) (by decide), ?_⟩
          have fS3 : (upd G2 rK (dNO P w rK (nput xs (g.move ms).key a (((as1 ++ asM).map V.ref).length : Nat)))) rS = some (.lst ((as1 ++ asM).map V.ref)) := by
            rw [upd_ne hSK]
            exact sG2 _ _ lp.fS
          refine ⟨_, rfl, .inl ⟨rfl, _, SqL.of fS3⟩, _, rfl, rS, _, _, rfl, rfl, fS3, Nat.lt_of_le_of_lt (show ((as1 ++ asM).map V.ref).length ≤ 1000 by rw [List.length_map]; omega) (by decide), ?_⟩
          have sW2 : Same (W3 H Hv rS rK rM G2) (W3 H Hv rS rK rM (upd (upd G2 rK (dNO P w rK (nput xs (g.move ms).key a (((as1 ++ asM).map V.ref).length : Nat)))) rS (.lst ((as1 ++ asM).map V.ref ++ [.ref a])))) := w3_mono fun x o h1 h2 _ e => by
            rw [upd_ne h1, upd_ne h2]
            exact e
          have eap : as1 ++ (asM ++ [a]) = (as1 ++ asM) ++ [a] := by rw [List.append_assoc]
          have egp : gs1 ++ (more ++ [g.move ms]) = (gs1 ++ more) ++ [g.move ms] := by rw [List.append_assoc]
          refine ⟨asM ++ [a], more ++ [g.move ms], nput xs (g.move ms).key a (((as1 ++ asM).map V.ref).length : Nat), (gs1 ++ more).length, rfl, ⟨same_fresh nSH (same_fresh nK0 s02), ?_, ?_, (lp.nk.up (sW.trans sW2)).put _ (stA.up sW2).dp (Sg.key_dep _), Nat.le_trans (nput_len _ _ _ _) (by omega), fun k n e => ?_, lp.mg.next eg hpart hfew, ?_, fun t g' a' e1 e2 => ?_⟩, ?_, stA.up sW2, ?_⟩
          · rw [upd_same, eap, List.map_append (l₁ := as1 ++ asM)]
            rfl
          · rw [upd_ne hSK.symm, upd_same]
            rfl
          · rw [egp]
            rcases nfind_put e with ⟨z1, z2⟩ | z
            · refine ⟨(gs1 ++ more).length, g.move ms, ?_, ?_, z1.symm⟩
              · rw [z2, List.length_map, lp.al]
              · rw [List.getElem?_append_right (Nat.le_refl _), Nat.sub_self]
                rfl
            · obtain ⟨t, g', e1, e2, e3⟩ := lp.fd k n z
              exact ⟨t, g', e1, by rw [List.getElem?_append_left (List.getElem?_eq_some_iff.mp e2).1]; exact e2, e3⟩
          · rw [eap, egp, List.length_append, List.length_append (as := gs1 ++ more), lp.al]
            rfl
          · rw [egp] at e1
            rw [eap] at e2
            by_cases ht : t < (gs1 ++ more).length
            · rw [List.getElem?_append_left ht] at e1
              rw [List.getElem?_append_left (by rw [lp.al]; exact ht)] at e2
              exact (lp.st t g' a' e1 e2).up (sW.trans sW2)
            · have hlt := (List.getElem?_eq_some_iff.mp e1).1
              rw [List.length_append (as := gs1 ++ more), List.length_singleton] at hlt
              have ti : t = (gs1 ++ more).length := by omega
              subst ti
              rw [List.getElem?_append_right (Nat.le_refl _), Nat.sub_self] at e1
              rw [List.getElem?_append_right (by rw [lp.al]; exact Nat.le_refl _), lp.al, Nat.sub_self] at e2
              cases e1
              cases e2
              exact stA.up sW2
          · rw [upd_ne hSM.symm, upd_ne hKM.symm]
            exact sG2 _ _ fM
          · rw [nfind_new hf, List.length_map, lp.al]
      rintro σ G3 ⟨asM', more', xs', t, rfl, lp', fM', stA', hf'⟩
      have wsub3 : Same (W3 H Hv rS rK rM G3) G3 := w3_sub.trans (ov_same sv lp'.s)
      refine ⟨_, rfl, .inl ⟨rfl, _, SqL.of fM'⟩, _, rfl, _, rfl, rK, a, xs', (g.move ms).key, (t : Nat), rfl, rfl, lp'.fK, lp'.nk.up wsub3, (stA'.up wsub3).dp, Sg.key_dep _, hf', rM, _, _, rfl, rfl, fM', Nat.lt_of_le_of_lt (show (ms.map fun (n : Nat) => V.int n).length ≤ 1000 by rw [List.length_map]; omega) (by decide), ?_⟩
      have sW3 : Same (W3 H Hv rS rK rM G3) (W3 H Hv rS rK rM (upd G3 rM (.lst ((ms.map fun (n : Nat) => V.int n) ++ [.int (t : Nat)])))) := w3_mono fun x o _ _ h3 e => by
        rw [upd_ne h3]
        exact e
      refine ⟨_, _, _, _, _, asM', more', ms ++ [t], xs', rfl, ⟨same_fresh nM0 lp'.s, ?_, ?_, lp'.nk.up sW3, lp'.xl, lp'.fd, lp'.mg, lp'.al, fun t g a e1 e2 => (lp'.st t g a e1 e2).up sW3⟩, ?_⟩
      · rw [upd_ne hSM]
        exact lp'.fS
      · rw [upd_ne hKM]
        exact lp'.fK
      · rw [upd_same, List.map_append]
        rfl
    rintro σ G ⟨y5, y6, y8, y9, y10, asM, more, ms, xs, rfl, lp, fM⟩
    rw [List.length_map, al2] at lp
    have al := lp.al
    have ml := lp.mg.mlen
    have msl := lp.mg.len
    have p1 : 0 < gs1.length := List.length_pos_iff.mpr ne1
    have p2 : 0 < gs2.length := List.length_pos_iff.mpr ne2
    have hl : ms[gs2.length - 1]? = some (ms.getD (gs2.length - 1) 0) := by
      rw [List.getD_eq_getElem?_getD, List.getElem?_eq_getElem (by omega)]
      rfl
    obtain ⟨j, ej⟩ : ∃ j, ms.getD (gs2.length - 1) 0 = j := ⟨_, rfl⟩
    rw [ej] at hl
    obtain ⟨jl, jp⟩ := lp.mg.at_ _ _ hl
    have gl : (gs1 ++ more).length ≤ 500 := by rw [List.length_append]; omega
    have hat : atI (ms.map fun (n : Nat) => V.int n) (-1) = some (.int (j : Nat)) := by
      have e : ms = ms.dropLast ++ [j] := by
        have hne : ms ≠ [] := fun z => by
          rw [z] at msl
          simp at msl
          omega
        rw [List.getElem?_eq_getElem (by omega)] at hl
        have e1 := Option.some.inj hl
        have e2 : ms.getLast hne = j := by
          rw [List.getLast_eq_getElem]
          simp only [msl]
          exact e1
        rw [← e2]
        exact (List.dropLast_concat_getLast hne).symm
      rw [e, List.map_append]
      exact atI_last _ _
    refine ⟨_, rfl, rS, _, rfl, .inr (SqL.of lp.fS), _, rfl, _, rfl, rc1, _, rfl, .inr (same_sqt (sv.trans lp.s) R1.at_), _, _, rfl, rfl, _, rfl, 1, rfl, rM, _, -1, _, rfl, rfl, SqL.of fM, hat, (by show 2 ≤ sizeLine; decide), fun p np => ⟨Nat.zero_le _, fun n nn => ⟨(by show 3 ≤ sizeLine; decide), fun a na => ⟨?_, fun rc' nc => ?_⟩⟩⟩⟩
    · rw [List.length_append, List.length_map, al]
      exact Nat.le_trans (show (gs1 ++ more).length + 1 ≤ 1000 by omega) (by decide)
    · have e1 : ((as1.map V.ref).length : Int) - 1 = ((gs1.length - 1 : Nat) : Int) := by
        rw [List.length_map]
        omega
      have e0 : (HO.tup [(fun i j : Int => V.int (i - j)) (((as1.map V.ref).length : Nat) : Int) 1, .int (j : Nat)]) = HO.tup [.int ((gs1.length - 1 : Nat) : Int), .int (j : Nat)] := by
        show HO.tup [.int ((((as1.map V.ref).length : Nat) : Int) - 1), .int (j : Nat)] = _
        rw [e1]
      rw [e0] at nn na nc ⊢
      have s1 := same_upd (o := .tup [.int ((gs1.length - 1 : Nat) : Int), .int (j : Nat)]) np
      have s2 := same_upd (o := .tup []) nn
      have s3 := same_upd (o := .tup [.str (mk 0 0).sign, .ref p, .ref n]) na
      have s4 := same_upd (o := .tup ((as1 ++ asM).map V.ref ++ [.ref a])) nc
      have sA := s1.trans (s2.trans (s3.trans s4))
      have sW : Same (W3 H Hv rS rK rM G) (ov H Hv (upd (upd (upd (upd G p (.tup [.int ((gs1.length - 1 : Nat) : Int), .int (j : Nat)])) n (.tup [])) a (.tup [.str (mk 0 0).sign, .ref p, .ref n])) rc' (.tup ((as1 ++ asM).map V.ref ++ [.ref a])))) := w3_sub.trans (ov_more sA)
      have np0 : H p = none := lp.s.free np
      have nn0 : H n = none := (lp.s.trans s1).free nn
      have na0 : H a = none := (lp.s.trans (s1.trans s2)).free na
      have nc0 : H rc' = none := (lp.s.trans (s1.trans (s2.trans s3))).free nc
      have ask := lp.mg.asks
      rw [← al2, R2.len, List.take_length] at ask
      obtain ⟨k1, k2, k3, k4⟩ := hmk (gs1.length - 1) j
      have st : StepAt K (ov H Hv (upd (upd (upd (upd G p (.tup [.int ((gs1.length - 1 : Nat) : Int), .int (j : Nat)])) n (.tup [])) a (.tup [.str (mk 0 0).sign, .ref p, .ref n])) rc' (.tup ((as1 ++ asM).map V.ref ++ [.ref a])))) a (mk (gs1.length - 1) j) := by
        refine ⟨p, n, ?_, ?_, ?_⟩
        · rw [k1]
          exact SqT.of (by rw [ov_new na0]; exact s4 _ _ upd_same)
        · rw [k2]
          exact SqT.of (by rw [ov_new np0]; exact (s2.trans (s3.trans s4)) _ _ upd_same)
        · rw [k3]
          exact SqT.of (by rw [ov_new nn0]; exact (s3.trans s4) _ _ upd_same)
      refine q _ rc' ((as1 ++ asM) ++ [a]) more j (lp.s.trans sA) ?_ ask ml jl jp
      rw [← List.append_assoc]
      refine recipe_snoc al (fun t g a e1 e2 => (lp.st t g a e1 e2).up sW) (fun g hg => ?_) lp.mg.part ?_ st k4 fun k hk => ?_
      · rcases List.mem_append.mp hg with z | z
        · exact R1.few g z
        · exact lp.mg.few g z
      · rw [List.map_append (l₁ := as1 ++ asM)]
        exact SqT.of (by rw [ov_new nc0, upd_same]; rfl)
      · rw [k2] at hk
        simp only [List.mem_cons, List.not_mem_nil, or_false] at hk
        rcases hk with rfl | rfl
        · rw [List.length_append]
          omega
        · exact jl
end
end TX
namespace TX
open PySem PySem.Spec PySem.Calls PyProof.Rows L2
open PySem.W (Frag InstAt findIn subIn Looks looks_findIn looks_subIn CmpBack BoolBack LenBack)
/-! ### the signs of own classes, at the library's level -/
section
variable {prog : Program} {w : World} {A : Around} {E : Value → Shared → Prop} {s : Shared} {K : Frag} {x C L f : Addr} {h₀ : Heap} {m : Str → Option Value} {ox : Obj} {od : Option Obj} {b : Value}
theorem isInst_K {C : Addr} {T : String} (X : K.In s.heap) (I : InstAt s.heap x ox C od) (ho : subIn K (.ref C) (.type T) = some true) : Looks (model prog w) s.heap (isInstance (.ref x) (.type T)) true := I.type.andThen (looks_subIn X ho)
/-- x != b of own objects, by the own == -/
theorem ne_K {Q : Value → Shared → Prop} (hu : A.units + 1 < cLine) (F : Fr h₀ L s.heap m) (X₀ : K.In h₀) (I : InstAt s.heap x ox C od) (hb : Looks (model prog w) s.heap (typeOf b) (.ref C)) (hn : findIn K (.ref C) "__ne__" = some (some (.builtin "object.__ne__")))
    (hs : findIn K (.ref C) "__eq__" = some (some (.ref f))) (hf : PySem.W.isFn K (.ref f) = true) (ho : subIn K (.ref C) (.type "object") = some true)
    (h : wpAny (model prog w) A.in1 (call (.ref f) [.ref x, b]) (fun v s' => ∃ c, v = .bool c ∧ Q (.bool (!c)) s') E s) : wpAny (model prog w) A (richCompare .NotEq (.ref x) b) Q E s := by
  have X := X₀.keeps F.keep
  have one : wpAny (model prog w) A (tryCompare (.ref x) "__ne__" b) (fun r s' => ∃ v, r = some v ∧ Q v s') E s := by
    have S := PySem.F.cmp_object.ne
    have hcall : wpAny (model prog w) A (call (.builtin "object.__ne__") [.ref x, b]) (fun v s' => v ≠ .notImplemented ∧ Q v s') E s := by
      refine wpAny_call (codeAny_call_builtin S.plain PySem.F.cmpEntry_ne ?_)
      refine PySem.W.check_slot PySem.F.cmpKind_ne PySem.F.cmpSplit_ne (isInst_K X I ho) (PySem.F.cmpArgs_ne _ _) ?_
      unfold Builtin.«object.__ne__»
      obtain ⟨hh, g, d, tt, os⟩ := s
      repeat (first
        | with_reducible refine wpAny_cRoomFor hu ?_
        | (refine wpAny_bind (m := callSpecialIfBound? (.ref x) (Str.ofString "__eq__") [b])
            (PySem.W.ifBound_K X I hs hf (wpAny_mono h (fun r s' hr => by
              obtain ⟨c, rfl, hq⟩ := hr
              repeat (first | exact ⟨(fun z => nomatch z), hq⟩ | exact wpAny_pure ⟨(fun z => nomatch z), hq⟩ | exact wpAny_truthy_bool ⟨(fun z => nomatch z), hq⟩ | (refine wpAny_bind (m := truthy (.bool _)) (wpAny_truthy_bool ?_)) | wp_step)) fun _ _ e => e)))
        | wp_step)
    unfold tryCompare
    refine wpAny_bind (m := callSpecialIfBound? (.ref x) (Str.ofString "__ne__") [b]) ?_
    simp only [callSpecialIfBound?, bindSpecialIfBound?]
    refine wpAny_holding (wpAny_bind (wpAny_bind (wpAny_bind (I.type.here ((looks_findIn X hn).here ?_)))))
    simp only [S.bind]
    refine wpAny_bind (wpAny_askSetting (wpAny_ite ?_))
    have fin : ∀ v s', (v ≠ .notImplemented ∧ Q v s') → wpAny (model prog w) A (match (some v : Option Value) with
        | some .notImplemented => pure none
        | none => pure none
        | some u => pure (some u)) (fun r s' => ∃ v, r = some v ∧ Q v s') E s' := by
      rintro v s' ⟨h1, h2⟩
      cases v <;> first | exact absurd rfl h1 | exact wpAny_pure ⟨_, rfl, h2⟩
    split
    · refine wpAny_bind (wpAny_pure (wpAny_pure ?_))
      refine wpAny_bind (m := call (.builtin "object.__ne__") ([.ref x] ++ [b])) (wpAny_mono hcall (fun v s' h' => ?_) fun _ _ h' => h')
      exact wpAny_pure (fin v s' h')
    · refine wpAny_tryCatch (wpAny_bind (wpAny_pure (wpAny_pure ?_)))
      refine wpAny_bind (m := call (.builtin "object.__ne__") ([.ref x] ++ [b])) (wpAny_mono hcall (fun v s' h' => ?_) fun _ _ h' => h')
      exact wpAny_pure (fin v s' h')
  unfold richCompare
  simp only [oneThing_ref]
  refine wpAny_holding (wpAny_bind (wpAny_cRoomFor (Nat.lt_of_succ_lt hu) ?_))
  rw [cmpInfo_NotEq]
  dsimp only
  refine wpAny_bind (I.type.here (wpAny_bind (hb.here ?_)))
  rw [show (Value.ref C != Value.ref C) = false from by simp]
  simp only [Bool.false_eq_true, if_false]
  refine wpAny_bind (wpAny_pure ?_)
  simp only [Bool.false_eq_true, if_false]
  refine wpAny_bind (wpAny_mono one (fun r s' z => ?_) fun _ _ e => e)
  obtain ⟨v, rfl, hq⟩ := z
  exact wpAny_pure hq
/-- bool(x) of an own object -/
theorem boolK {Q : Value → Shared → Prop} (F : Fr h₀ L s.heap m) (X₀ : K.In h₀) (I : InstAt s.heap x ox C od) (hs : findIn K (.ref C) "__bool__" = some (some (.ref f))) (hf : PySem.W.isFn K (.ref f) = true)
    (h : wpAny (model prog w) A.in1.in1 (call (.ref f) [.ref x]) (fun v s' => ∃ c, v = .bool c ∧ Q (.bool c) s') E s) : wpAny (model prog w) A (call (.type "bool") [.ref x]) Q E s := by
  refine callType_newIn (S := fun A R s => wpAny (model prog w) A.in1 (truthy (.ref x)) (fun b s' => R (.ok (.ret (.bool b))) s') (fun e s' => R (.error e) s') s) PySem.F.called_bool PySem.F.newNe_bool (PySem.F.typeCall_bool_1 _) (PySem.F.newCall_bool_1 _) (fun obj => PySem.F.args_object_init_2 obj _) PySem.F.entry_bool_new ?_ ?_
  · refine .of_wp fun A R s hs => ?_
    obtain ⟨hp, g, d, tk, os⟩ := s
    have f1 := PySem.F.conv_sub_bool
    repeat (any_goals (first | assumption | (with_reducible refine wpAny_bind (m := truthy (.ref x)) (wpAny_mono hs (fun b s' hb => ?_) fun _ _ e => e)) | wp_step))
    all_goals first | exact ⟨_, rfl, hs⟩ | exact hs | skip
    all_goals exact ⟨_, rfl, hb⟩
  · exact PySem.W.truthy_K F X₀ I hs hf (wpAny_mono h (fun v s' hv => by
      obtain ⟨c, rfl, q⟩ := hv
      exact ⟨rfl, q⟩) fun _ _ e => e)
end
/-! ### the signs of own classes -/
section
variable {X : Cx} {CX : CXT} {C f : Addr} {k : Nat} {fd : FuncData} {ps : List Str} {sp : Sp} {E : XK}
theorem ep_back {pins : List (Addr × Obj)} {σ : L2.St} {Q : VK} {v : Value} {s' : Shared} (h : EP X pins σ Q v s') : PySem.W.CmpBack (EP X pins σ Q) v s' := by
  obtain ⟨x, H', I, r, q⟩ := h
  cases v <;> first
    | exact ⟨x, H', I, r, q⟩
    | (cases x <;> first | (cases (show Value.notImplemented = _ from r)) | (obtain ⟨t, z⟩ := (show ∃ t, Value.notImplemented = _ from r); cases z))
/-- a def run below the running body -/
theorem run_below {pins : List (Addr × Obj)} {σ : L2.St} {H : Hp} {s : Shared} {Q : VK} {us : List Value} {vs : List V} {A : Around} (F : FnOk X.prog X.w X.K X.mg X.base CX k f fd ps sp) (sb : Sub X k A) (hb : Binds X.K fd ps []) (hx : Passes CX X E)
    (I : Inv X pins σ H s) (r : Vals vs us) (h : sp vs H Q E) : wpAny (model X.prog X.w) A (call (.ref f) us) (EP X pins σ Q) X.xe s := by
  have e0 : Env0 X.prog X.w X.K X.mg X.base A X.stack s H := by
    have e := I.env0
    exact ⟨by rw [sb.fr]; exact e.frames, e.mod, e.bs, e.bsz, e.funs, e.frf, e.hok, e.bare⟩
  have hl := F.len _ _ _ _ h
  refine wpAny_call (codeAny_mono (F.run A X.stack s H ⟨us, []⟩ us vs Q E sb.room e0 (by
    have := hb s us I.kIn (by rw [List.append_nil, ← r.length]; exact hl)
    simpa using this) r h) fun r s' hq => ?_)
  cases r with
  | error e => exact hx pins σ H s e s' I hq
  | ok fl =>
    cases fl with
    | ret w => exact I.after hq
    | next => exact False.elim hq
    | brk => exact False.elim hq
    | cont => exact False.elim hq
theorem inst_at {pins : List (Addr × Obj)} {σ : L2.St} {H : Hp} {s : Shared} {p dx : Addr} {fs : List (Str × V)} (I : Inv X pins σ H s) (h : H p = some (.ins C dx fs)) : ∃ ox od, InstAt s.heap p ox C od := by
  obtain ⟨mA, J, _⟩ := ins_get I.hok h
  obtain ⟨od, J, _⟩ := J.look
  exact ⟨_, _, J⟩
/-- x + None -/
def rOwn (C : Addr) (sp : Sp) (E : XK) : V → V → Hp → VK → Prop := fun x y H Q => ∃ p dx fs, x = .ref p ∧ H p = some (.ins C dx fs) ∧ sp [x, y] H Q E
theorem op_own_non {fo ro rc : Option Value} (hm : Meth X.K C "__add__" f) (hc : PySem.W.selfFirst X.K C = true) (hr' : findIn X.K (.ref C) "__radd__" = some rc) (hp : rc = none ∨ ∃ g : Addr, rc = some (.ref g))
    (h1 : findIn X.K (.type "NoneType") "__add__" = some fo) (h2 : findIn X.K (.type "NoneType") "__radd__" = some ro) (hsub : subIn X.K (.type "NoneType") (.ref C) = some false)
    (F : FnOk X.prog X.w X.K X.mg X.base CX k f fd ps sp) (hr : Room k X.A) (hb : Binds X.K fd ps []) (hx : Passes CX X E) : OpR X (binaryOp .Add) (fun x y H Q => y = .non ∧ rOwn C sp E x y H Q) := by
  intro pins s σ H x y v u Q I rx ry h
  obtain ⟨rfl, p, dx, fs, rfl, hp', q⟩ := h
  cases rx
  cases ry
  obtain ⟨ox, od, J⟩ := inst_at I hp'
  obtain ⟨m, hF⟩ := I.fr
  refine PySem.W.ksp_binT (T := "NoneType") hF I.ok.mod.kin J rfl hc hm.at_ hm.fn hr' hp h1 h2 hsub ?_
  exact wpAny_mono (run_below (vs := [.ref p, .non]) F ⟨hr, rfl⟩ hb hx I (.cons rfl (.cons rfl .nil)) q) (fun _ _ h => ep_back h) fun _ _ e => e
/-- x += y -/
theorem ip_own (hm : Meth X.K C "__iadd__" f) (hc : PySem.W.selfFirst X.K C = true) (F : FnOk X.prog X.w X.K X.mg X.base CX k f fd ps sp) (hr : Room k X.A) (hb : Binds X.K fd ps []) (hx : Passes CX X E) : PIp X .Add (rOwn C sp E) := by
  intro pins s σ H x y v u Q I rx ry h
  obtain ⟨p, dx, fs, rfl, hp', q⟩ := h
  cases rx
  obtain ⟨ox, od, J⟩ := inst_at I hp'
  obtain ⟨m, hF⟩ := I.fr
  refine PySem.W.ksp_inplace hF I.ok.mod.kin J hc hm.at_ hm.fn ?_
  exact wpAny_mono (run_below (vs := [.ref p, y]) F ⟨hr, rfl⟩ hb hx I (.cons rfl (.cons ry .nil)) q) (fun _ _ h => ep_back h) fun _ _ e => e
/-- x[i] = y -/
theorem set_own (hm : Meth X.K C "__setitem__" f) (hq : PySem.W.noSeq X.K C = true) (F : FnOk X.prog X.w X.K X.mg X.base CX k f fd ps sp) (hr : Room k X.A) (hb : Binds X.K fd ps []) (hx : Passes CX X E) :
    PSet X (fun o i y H Q => ∃ p dx fs, o = .ref p ∧ H p = some (.ins C dx fs) ∧ sp [o, i, y] H (fun _ H' => Q H') E) := by
  intro pins s σ H o i y ov iv u Q I ro ri ry h
  obtain ⟨p, dx, fs, rfl, hp', q⟩ := h
  cases ro
  obtain ⟨ox, od, J⟩ := inst_at I hp'
  obtain ⟨m, hF⟩ := I.fr
  refine PySem.W.ksp_setItem hF I.ok.mod.kin J hq hm.at_ hm.fn ?_
  refine wpAny_mono (run_below (vs := [.ref p, i, y]) F ⟨hr, rfl⟩ hb hx I (.cons rfl (.cons ri (.cons ry .nil))) q) (fun _ _ h => ?_) fun _ _ e => e
  obtain ⟨x, H', I', _, q'⟩ := h
  exact ⟨H', I', q'⟩
/-- len(x) -/
theorem call_lenO (hm : Meth X.K C "__len__" f) (F : FnOk X.prog X.w X.K X.mg X.base CX k f fd ps sp) (hr : Room (k + 1) X.A) (hb : Binds X.K fd ps []) (hx : Passes CX X E) :
    CallR X (.builtin "len") (fun xs H Q => ∃ p dx fs, xs = [.ref p] ∧ H p = some (.ins C dx fs) ∧ sp xs H (fun v H' => ∃ n : Nat, v = .int (n : Nat) ∧ n < 2 ^ 62 ∧ Q v H') E) := by
  intro pins s σ H xs us Q I r h
  obtain ⟨p, dx, fs, rfl, hp', q⟩ := h
  obtain rfl := Vals.ref1 r
  obtain ⟨ox, od, J⟩ := inst_at I hp'
  obtain ⟨m, hF⟩ := I.fr
  refine PySem.W.len_K hF I.ok.mod.kin J hm.at_ hm.fn ?_
  refine wpAny_mono (run_below F (Sub.in1 ⟨hr, rfl⟩) hb hx I r q) (fun v s' h => ?_) fun _ _ e => e
  obtain ⟨x, H', I', rv, n, rfl, hn, q'⟩ := h
  obtain ⟨t, rfl⟩ := rv
  exact ⟨⟨by omega, by omega⟩, .int n, H', I'.tok _, ⟨_, rfl⟩, q'⟩
/-- bool(x) -/
theorem call_boolO (hm : Meth X.K C "__bool__" f) (F : FnOk X.prog X.w X.K X.mg X.base CX k f fd ps sp) (hr : Room (k + 2) X.A) (hb : Binds X.K fd ps []) (hx : Passes CX X E) :
    CallR X (.type "bool") (fun xs H Q => ∃ p dx fs, xs = [.ref p] ∧ H p = some (.ins C dx fs) ∧ sp xs H (fun v H' => ∃ c, v = .bl c ∧ Q v H') E) := by
  intro pins s σ H xs us Q I r h
  obtain ⟨p, dx, fs, rfl, hp', q⟩ := h
  obtain rfl := Vals.ref1 r
  obtain ⟨ox, od, J⟩ := inst_at I hp'
  obtain ⟨m, hF⟩ := I.fr
  refine boolK hF I.ok.mod.kin J hm.at_ hm.fn ?_
  refine wpAny_mono (run_below F (Sub.in1 (Sub.in1 ⟨hr, rfl⟩)) hb hx I r q) (fun v s' h => ?_) fun _ _ e => e
  obtain ⟨x, H', I', rv, c, rfl, q'⟩ := h
  cases rv
  exact ⟨c, rfl, .bl c, H', I', rfl, q'⟩
/-- x != y, by the own == -/
theorem op_ne_own (hm : Meth X.K C "__eq__" f) (hn : findIn X.K (.ref C) "__ne__" = some (some (.builtin "object.__ne__"))) (ho : subIn X.K (.ref C) (.type "object") = some true) (F : FnOk X.prog X.w X.K X.mg X.base CX k f fd ps sp) (hr : Room (k + 1) X.A) (hb : Binds X.K fd ps []) (hx : Passes CX X E) :
    OpR X (compareOp .NotEq) (fun x y H Q => ∃ p q dx dy fs gs, x = .ref p ∧ y = .ref q ∧ H p = some (.ins C dx fs) ∧ H q = some (.ins C dy gs) ∧ sp [x, y] H (fun v H' => ∃ c, v = .bl c ∧ Q (.bl (!c)) H') E) := by
  intro pins s σ H x y v u Q I rx ry h
  obtain ⟨p, q, dx, dy, fs, gs, rfl, rfl, hp', hq', h⟩ := h
  cases rx
  cases ry
  obtain ⟨ox, od, J⟩ := inst_at I hp'
  obtain ⟨oy, ody, J2⟩ := inst_at I hq'
  obtain ⟨m, hF⟩ := I.fr
  show wpAny (model X.prog X.w) X.A (richCompare .NotEq _ _) _ _ _
  refine ne_K (by have := hr.un; omega) hF I.ok.mod.kin J J2.type hn hm.at_ hm.fn ho ?_
  refine wpAny_mono (run_below (vs := [.ref p, .ref q]) F (Sub.in1 ⟨hr, rfl⟩) hb hx I (.cons rfl (.cons rfl .nil)) h) (fun v s' h => ?_) fun _ _ e => e
  obtain ⟨x, H', I', rv, c, rfl, q'⟩ := h
  cases rv
  exact ⟨c, rfl, .bl _, H', I', rfl, q'⟩
end
end TX
namespace TX
open PySem PySem.Spec PySem.Calls PyProof.Rows L2
open PySem.W (Frag InstAt findIn subIn Looks looks_findIn looks_subIn)
/-! ### two own objects, and an own object on the right -/
section
variable {prog : Program} {w : World} {A : Around} {E : Value → Shared → Prop} {s : Shared} {K : Frag} {x C L f g : Addr} {h₀ : Heap} {m : Str → Option Value} {ox : Obj} {od : Option Obj} {b : Value} {T : String}
theorem bin2_K {op : Operator} {Q : Value → Shared → Prop} (F : Fr h₀ L s.heap m) (X₀ : K.In h₀) (I : InstAt s.heap x ox C od) (hb : Looks (model prog w) s.heap (typeOf b) (.ref C)) (hc : PySem.W.selfFirst K C = true)
    (hs : findIn K (.ref C) (PySem.dunder op.info.2) = some (some (.ref f))) (hf : PySem.W.isFn K (.ref f) = true)
    (h : wpAny (model prog w) A (call (.ref f) [.ref x, b]) (PySem.W.CmpBack Q) E s) : wpAny (model prog w) A (binaryOp op (.ref x) b) Q E s := by
  have X := X₀.keeps F.keep
  obtain ⟨cd, rest, hcd, hm⟩ := PySem.W.ksp_first hc
  rcases hi : op.info with ⟨sym, nm'⟩
  rw [hi] at hs
  dsimp only at hs
  have one := PySem.W.ksp_try X I hs hf h
  obtain ⟨hh, g, d, tt, os⟩ := s
  have L1 : Looks (model prog w) hh (typeOf (.ref x)) (.ref C) := I.type
  have L2 : Looks (model prog w) hh (typeOf b) (.ref C) := hb
  have L3 : Looks (model prog w) hh (fillsNumberSlot (.ref C) nm') true := PySem.W.fills_K X hcd hm hs
  have heq : (Value.ref C == Value.ref C) = true := beq_self_eq_true _
  simp only [binaryOp, hi]
  refine wpAny_holding (wpAny_bind ?_)
  unfold binaryOp1
  refine wpAny_bind (L1.at (wpAny_bind (L2.at (wpAny_bind (L3.at ?_)))))
  simp only [heq, if_true]
  ksp_lk
  refine wpAny_mono one (fun r s' hr' => ?_) fun _ _ e => e
  obtain ⟨v, rfl, hq⟩ := hr'
  ksp_lk
  exact hq
/-- a op x, by the own reflected method; where the left one's type has a slot of its own, it declines -/
theorem refl_K {op : Operator} {a : Value} {fo ro : Option Value} {Q : Value → Shared → Prop} (F : Fr h₀ L s.heap m) (X₀ : K.In h₀) (I : InstAt s.heap x ox C od) (ha : Looks (model prog w) s.heap (typeOf a) (.type T)) (hc : PySem.W.selfFirst K C = true)
    (hs : findIn K (.ref C) (PySem.dunder op.info.2) = some (some (.ref g))) (hr : findIn K (.ref C) (dunderR op.info.2) = some (some (.ref f))) (hf : PySem.W.isFn K (.ref f) = true)
    (h1 : findIn K (.type T) (PySem.dunder op.info.2) = some fo) (h2 : findIn K (.type T) (dunderR op.info.2) = some ro) (hsub : subIn K (.ref C) (.type T) = some false)
    (hl : ((fo.isSome && !isSeqSlot fo) || (ro.isSome && !isSeqSlot ro)) = true → ∀ Q' : Option Value → Shared → Prop, Q' none s → wpAny (model prog w) A (tryMethod a (PySem.dunder op.info.2) (.ref x)) Q' E s)
    (h : wpAny (model prog w) A (call (.ref f) [.ref x, a]) (PySem.W.CmpBack Q) E s) : wpAny (model prog w) A (binaryOp op a (.ref x)) Q E s := by
  have X := X₀.keeps F.keep
  obtain ⟨cd, rest, hcd, hm⟩ := PySem.W.ksp_first hc
  rcases hi : op.info with ⟨sym, nm'⟩
  rw [hi] at hs hr h1 h2 hl
  dsimp only at hs hr h1 h2 hl
  have one := PySem.W.ksp_try X I hr hf h
  obtain ⟨hh, gg, d, tt, os⟩ := s
  have L1 : Looks (model prog w) hh (typeOf a) (.type T) := ha
  have L2 : Looks (model prog w) hh (typeOf (.ref x)) (.ref C) := I.type
  have L3 : Looks (model prog w) hh (fillsNumberSlot (.type T) nm') ((fo.isSome && !isSeqSlot fo) || (ro.isSome && !isSeqSlot ro)) := PySem.W.ksp_fillsT X h1 h2
  have L4 : Looks (model prog w) hh (fillsNumberSlot (.ref C) nm') true := PySem.W.fills_K X hcd hm hs
  have L5 : Looks (model prog w) hh (isSubtype (.ref C) (.type T)) false := looks_subIn X hsub
  have L7 : Looks (model prog w) hh (numberSlotInPython (.type T) nm') false := Looks.of_pure rfl
  generalize ((fo.isSome && !isSeqSlot fo) || (ro.isSome && !isSeqSlot ro)) = left at L3 hl
  have hne : (Value.type T == Value.ref C) = false := Bool.eq_false_iff.mpr fun q => by cases beq_iff_eq.mp q
  simp only [binaryOp, hi]
  refine wpAny_holding (wpAny_bind ?_)
  unfold binaryOp1
  refine wpAny_bind (L1.at (wpAny_bind (L2.at (wpAny_bind (L3.at ?_)))))
  simp only [hne, Bool.false_eq_true, if_false]
  cases left with
  | false =>
    ksp_lk
    refine wpAny_mono one (fun r s' hr' => ?_) fun _ _ e => e
    obtain ⟨v, rfl, hq⟩ := hr'
    ksp_lk
    exact hq
  | true =>
    ksp_lk
    refine hl rfl _ ?_
    ksp_lk
    refine wpAny_mono one (fun r s' hr' => ?_) fun _ _ e => e
    obtain ⟨v, rfl, hq⟩ := hr'
    ksp_lk
    exact hq
theorem int_mul_ref (a : Int) (t : Tok) (l dx C : Addr) :
    Meets (Builtin.«int.__mul__» ⟨[.int a t, .ref l], []⟩) (fun _ R s => s.heap.get? l = some (PySem.W.instObj C dx) ∧ R (.ok (.ret Value.notImplemented)) s) :=
  .of_wp fun prog w A R s h => by
    obtain ⟨hp, g, d, tk, os⟩ := s
    obtain ⟨hl, h⟩ := h
    wp_walk
    exact ⟨_, rfl, h⟩
theorem try_int_mul {a : Int} {t : Tok} {dx : Addr} (e : s.heap.get? x = some (PySem.W.instObj C dx)) : ∀ Q' : Option Value → Shared → Prop, Q' none s → wpAny (model prog w) A (tryMethod (.int a t) (PySem.dunder "mul") (.ref x)) Q' E s := fun Q' q =>
  wpAny_tryMethod_declines (typeIs_int s a t) F.slot_int_mul (call_meets F.slot_int_mul (typeIs_int s a t) F.entry_int_mul (F.args_int_mul_2 _ _) (int_mul_ref a t x dx C) ⟨e, rfl, q⟩)
/-- x == b, by the own == -/
theorem eq_K {Q : Value → Shared → Prop} (hu : A.units + 1 < cLine) (F : Fr h₀ L s.heap m) (X₀ : K.In h₀) (I : InstAt s.heap x ox C od) (hb : Looks (model prog w) s.heap (typeOf b) (.ref C))
    (hs : findIn K (.ref C) "__eq__" = some (some (.ref f))) (hf : PySem.W.isFn K (.ref f) = true)
    (h : wpAny (model prog w) A (call (.ref f) [.ref x, b]) (PySem.W.CmpBack Q) E s) : wpAny (model prog w) A (richCompare .Eq (.ref x) b) Q E s := by
  have X := X₀.keeps F.keep
  have one : wpAny (model prog w) A (tryCompare (.ref x) "__eq__" b) (fun r s' => ∃ v, r = some v ∧ Q v s') E s := by
    unfold tryCompare
    refine wpAny_bind (m := callSpecialIfBound? (.ref x) (Str.ofString "__eq__") [b]) (PySem.W.ifBound_K X I hs hf (wpAny_mono h (fun v s' hv => ?_) fun _ _ e => e))
    cases v <;> first | exact hv.elim | exact wpAny_pure ⟨_, rfl, hv⟩
  unfold richCompare
  simp only [oneThing_ref]
  refine wpAny_holding (wpAny_bind (wpAny_cRoomFor (Nat.lt_of_succ_lt hu) ?_))
  rw [cmpInfo_Eq]
  dsimp only
  refine wpAny_bind (I.type.here (wpAny_bind (hb.here ?_)))
  rw [show (Value.ref C != Value.ref C) = false from by simp]
  simp only [Bool.false_eq_true, if_false]
  refine wpAny_bind (wpAny_pure ?_)
  simp only [Bool.false_eq_true, if_false]
  refine wpAny_bind (wpAny_mono one (fun r s' z => ?_) fun _ _ e => e)
  obtain ⟨v, rfl, hq⟩ := z
  exact wpAny_pure hq
end
section
variable {X : Cx} {CX : CXT} {C f g : Addr} {k : Nat} {fd : FuncData} {ps : List Str} {sp : Sp} {E : XK}
def rOwn2 (C : Addr) (sp : Sp) (E : XK) : V → V → Hp → VK → Prop := fun x y H Q => ∃ p q dx dy fs gs, x = .ref p ∧ y = .ref q ∧ H p = some (.ins C dx fs) ∧ H q = some (.ins C dy gs) ∧ sp [x, y] H Q E
/-- x op y of two own objects -/
theorem op_own2 {op : Operator} {nm : Str} (hn : nm = PySem.dunder op.info.2) (hm : Meth X.K C nm f) (hc : PySem.W.selfFirst X.K C = true) (F : FnOk X.prog X.w X.K X.mg X.base CX k f fd ps sp) (hr : Room k X.A) (hb : Binds X.K fd ps []) (hx : Passes CX X E) :
    OpR X (binaryOp op) (rOwn2 C sp E) := by
  subst hn
  intro pins s σ H x y v u Q I rx ry h
  obtain ⟨p, q, dx, dy, fs, gs, rfl, rfl, hp', hq', h⟩ := h
  cases rx
  cases ry
  obtain ⟨ox, od, J⟩ := inst_at I hp'
  obtain ⟨oy, ody, J2⟩ := inst_at I hq'
  obtain ⟨m, hF⟩ := I.fr
  refine bin2_K hF I.ok.mod.kin J J2.type hc hm.at_ hm.fn ?_
  exact wpAny_mono (run_below (vs := [.ref p, .ref q]) F ⟨hr, rfl⟩ hb hx I (.cons rfl (.cons rfl .nil)) h) (fun _ _ h => ep_back h) fun _ _ e => e
/-- x == y, by the own == -/
theorem op_eq_own (hm : Meth X.K C "__eq__" f) (F : FnOk X.prog X.w X.K X.mg X.base CX k f fd ps sp) (hr : Room k X.A) (hb : Binds X.K fd ps []) (hx : Passes CX X E) : OpR X (compareOp .Eq) (rOwn2 C sp E) := by
  intro pins s σ H x y v u Q I rx ry h
  obtain ⟨p, q, dx, dy, fs, gs, rfl, rfl, hp', hq', h⟩ := h
  cases rx
  cases ry
  obtain ⟨ox, od, J⟩ := inst_at I hp'
  obtain ⟨oy, ody, J2⟩ := inst_at I hq'
  obtain ⟨m, hF⟩ := I.fr
  show wpAny (model X.prog X.w) X.A (richCompare .Eq _ _) _ _ _
  refine eq_K (by have := hr.un; omega) hF I.ok.mod.kin J J2.type hm.at_ hm.fn ?_
  exact wpAny_mono (run_below (vs := [.ref p, .ref q]) F ⟨hr, rfl⟩ hb hx I (.cons rfl (.cons rfl .nil)) h) (fun _ _ h => ep_back h) fun _ _ e => e
/-- x * n -/
theorem op_mul_int {fo ro rc : Option Value} (hm : Meth X.K C "__mul__" f) (hc : PySem.W.selfFirst X.K C = true) (hr' : findIn X.K (.ref C) "__rmul__" = some rc) (hp : rc = none ∨ ∃ g : Addr, rc = some (.ref g))
    (h1 : findIn X.K (.type "int") "__mul__" = some fo) (h2 : findIn X.K (.type "int") "__rmul__" = some ro) (hsub : subIn X.K (.type "int") (.ref C) = some false)
    (F : FnOk X.prog X.w X.K X.mg X.base CX k f fd ps sp) (hr : Room k X.A) (hb : Binds X.K fd ps []) (hx : Passes CX X E) : OpR X (binaryOp .Mult) (fun x y H Q => (∃ n, y = .int n) ∧ rOwn C sp E x y H Q) := by
  intro pins s σ H x y v u Q I rx ry h
  obtain ⟨⟨n, rfl⟩, p, dx, fs, rfl, hp', q⟩ := h
  cases rx
  obtain ⟨t, rfl⟩ := ry
  obtain ⟨ox, od, J⟩ := inst_at I hp'
  obtain ⟨m, hF⟩ := I.fr
  refine PySem.W.ksp_binT (T := "int") hF I.ok.mod.kin J rfl hc hm.at_ hm.fn hr' hp h1 h2 hsub ?_
  exact wpAny_mono (run_below (vs := [.ref p, .int n]) F ⟨hr, rfl⟩ hb hx I (.cons rfl (.cons ⟨t, rfl⟩ .nil)) q) (fun _ _ h => ep_back h) fun _ _ e => e
/-- n * x -/
theorem op_int_mul {fo ro : Option Value} (ha : findIn X.K (.ref C) "__mul__" = some (some (.ref g))) (hm : Meth X.K C "__rmul__" f) (hc : PySem.W.selfFirst X.K C = true)
    (h1 : findIn X.K (.type "int") "__mul__" = some fo) (h2 : findIn X.K (.type "int") "__rmul__" = some ro) (hsub : subIn X.K (.ref C) (.type "int") = some false)
    (F : FnOk X.prog X.w X.K X.mg X.base CX k f fd ps sp) (hr : Room k X.A) (hb : Binds X.K fd ps []) (hx : Passes CX X E) : OpR X (binaryOp .Mult) (fun x y H Q => (∃ n, x = .int n) ∧ rOwn C sp E y x H Q) := by
  intro pins s σ H x y v u Q I rx ry h
  obtain ⟨⟨n, rfl⟩, p, dx, fs, rfl, hp', q⟩ := h
  cases ry
  obtain ⟨t, rfl⟩ := rx
  obtain ⟨mA, J0, _⟩ := ins_get I.hok hp'
  have ho := J0.obj
  obtain ⟨od, J, _⟩ := J0.look
  obtain ⟨m, hF⟩ := I.fr
  refine refl_K (T := "int") hF I.ok.mod.kin J (Looks.of_pure rfl) hc ha hm.at_ hm.fn h1 h2 hsub (fun _ => try_int_mul ho) ?_
  exact wpAny_mono (run_below (vs := [.ref p, .int n]) F ⟨hr, rfl⟩ hb hx I (.cons rfl (.cons ⟨t, rfl⟩ .nil)) q) (fun _ _ h => ep_back h) fun _ _ e => e
/-- y + x, y nothing, a text, a list -/
theorem op_val_add {fo fs' fl ro rs rl : Option Value} (ha : findIn X.K (.ref C) "__add__" = some (some (.ref g))) (hm : Meth X.K C "__radd__" f) (hc : PySem.W.selfFirst X.K C = true)
    (h1 : findIn X.K (.type "NoneType") "__add__" = some fo) (h2 : findIn X.K (.type "NoneType") "__radd__" = some ro) (n1 : ((fo.isSome && !isSeqSlot fo) || (ro.isSome && !isSeqSlot ro)) = false) (u1 : subIn X.K (.ref C) (.type "NoneType") = some false)
    (h3 : findIn X.K (.type "str") "__add__" = some fs') (h4 : findIn X.K (.type "str") "__radd__" = some rs) (n2 : ((fs'.isSome && !isSeqSlot fs') || (rs.isSome && !isSeqSlot rs)) = false) (u2 : subIn X.K (.ref C) (.type "str") = some false)
    (h5 : findIn X.K (.type "list") "__add__" = some fl) (h6 : findIn X.K (.type "list") "__radd__" = some rl) (n3 : ((fl.isSome && !isSeqSlot fl) || (rl.isSome && !isSeqSlot rl)) = false) (u3 : subIn X.K (.ref C) (.type "list") = some false)
    (F : FnOk X.prog X.w X.K X.mg X.base CX k f fd ps sp) (hr : Room k X.A) (hb : Binds X.K fd ps []) (hx : Passes CX X E) : OpR X (binaryOp .Add) (fun y x H Q => (y = .non ∨ (∃ z, y = .str z) ∨ ∃ a xs, y = .ref a ∧ H a = some (.lst xs)) ∧ rOwn C sp E x y H Q) := by
  intro pins s σ H y x v u Q I ry rx h
  obtain ⟨hy, p, dx, fs, rfl, hp', q⟩ := h
  cases rx
  obtain ⟨ox, od, J⟩ := inst_at I hp'
  obtain ⟨m, hF⟩ := I.fr
  have no : ∀ {b : Bool} {P : Prop}, b = false → b = true → P := fun e1 e2 => by rw [e1] at e2; cases e2
  have fin : wpAny (model X.prog X.w) X.A (call (.ref f) [.ref p, v]) (PySem.W.CmpBack (EP X pins σ Q)) X.xe s :=
    wpAny_mono (run_below (vs := [.ref p, y]) F ⟨hr, rfl⟩ hb hx I (.cons rfl (.cons ry .nil)) q) (fun _ _ h => ep_back h) fun _ _ e => e
  rcases hy with rfl | ⟨z, rfl⟩ | ⟨a, xs, rfl, ha'⟩
  · cases ry
    exact refl_K (T := "NoneType") hF I.ok.mod.kin J (Looks.of_pure rfl) hc ha hm.at_ hm.fn h1 h2 u1 (no n1) fin
  · obtain ⟨t, rfl⟩ := ry
    exact refl_K (T := "str") hF I.ok.mod.kin J (Looks.of_pure rfl) hc ha hm.at_ hm.fn h3 h4 u2 (no n2) fin
  · cases ry
    obtain ⟨z, its, n, r, hl, e⟩ := I.lstM ha'
    exact refl_K (T := "list") hF I.ok.mod.kin J ((Looks.ld e).andThen .now) hc ha hm.at_ hm.fn h5 h6 u3 (no n3) fin
end
/-! ### range(n), n negative and however great -/
section
variable {X : Cx} {tg : Expr}
theorem turn_long {P : Program} {w : World} {K : PySem.W.Frag} {tg : Expr} (it : Addr) (left : Int) (hl : left ≤ 0) : Turn P w K tg (Itr 0 0) [it] it (fun _ h => IsLongIter h it 0 left 1) where
  mem := by simp
  obj := fun i h st b hb => by
    have e : b = it := by simpa using hb
    subst e
    exact ⟨_, st, fun v z => by
      have z' : Data.fields _ = Data.cell v := z
      cases z'⟩
  keep := fun i h h' st k => k it (by simp) _ st
  item := by
    intro X hP hw hK hc i pins s σ H E I hf st hg
    exact absurd (show i < 0 from hg) (Nat.not_lt_zero _)
  done := by
    intro X hP hw hK hc i pins s σ H E I hf st hg
    subst hP hw hK
    obtain ⟨f0, f1, f2, f3, f4, f5⟩ := hf it (by simp)
    exact wpAny_pyNext_long_end (I.ok.hd hc) st hl fun h' eb => ⟨rfl, I.turned (t' := s.toks) (fun b o hb e => eb b o hb e) f0 f1 f3 f4 f5⟩
  self := fun _ _ _ _ _ st h => wpAny_pyIter_longiter st h
theorem small_long {j : Int} (h : j < -(2 ^ 64)) : Builtin.Range.small 0 j 1 = false := by
  unfold Builtin.Range.small Builtin.Range.rangeFitsLong
  simp only [Bool.and_eq_false_iff, decide_eq_false_iff_not, Bool.or_eq_false_iff]
  refine .inl (.inl (.inl (.inr ?_)))
  omega
theorem range_itL {pins : List (Addr × Obj)} {σ : L2.St} {H : Hp} {s : Shared} {R : It → Hp → Prop} {E : Value → Shared → Prop} {hi : Int} {t u v : Tok} {tk : Nat} (I : Inv X pins σ H s) (h : hi < -(2 ^ 64))
    (q : R (Itr 0 0) H) : wpAny (model X.prog X.w) X.A (pyIter (.ref s.heap.objs.size)) (PIE X pins σ tg R) E { s with heap := s.heap.push { cls := .type "range", data := .fields #[.int 0 t, .int hi u, .int 1 v] }, toks := tk } := by
  refine wpAny_pyIter_longrange (IsRange.new ..) (small_long h) ?_
  have I1 : Inv X pins σ H { s with heap := s.heap.push { cls := .type "range", data := .fields #[.int 0 t, .int hi u, .int 1 v] }, toks := tk } := I.kept fun b o e => Heap.get?_push_of_some _ e
  have e2 : Builtin.Range.rangeSize 0 hi 1 ≤ 0 := by
    rw [rangeSize_one]
    split <;> omega
  refine ⟨(s.heap.push { cls := .type "range", data := .fields #[.int 0 t, .int hi u, .int 1 v] }).objs.size, [(s.heap.push { cls := .type "range", data := .fields #[.int 0 t, .int hi u, .int 1 v] }).objs.size], _, _, H, rfl,
    I1.kept (t' := tk) fun b o e => Heap.get?_push_of_some _ e, turn_long _ _ e2, ?_, fun b hb => ?_, q⟩
  · exact Heap.get?_push_size _ rfl
  · have e : b = (s.heap.push { cls := .type "range", data := .fields #[.int 0 t, .int hi u, .int 1 v] }).objs.size := by simpa using hb
    subst e
    exact I1.fpOk (Nat.le_refl _) (I1.hok.fresh (Nat.le_refl _))
def iRngW (ta : TA) : TI := fun σ H R => ta σ H fun vs H1 => ∃ j : Int, vs = [.int j] ∧ (-(2 ^ 62) ≤ j ∨ j < -(2 ^ 64)) ∧ j < 2 ^ 62 ∧ R (Itr 0 j.toNat) H1
theorem pi_range1W {a : Expr} {ta : TA} {p pos : Pos} (hg : Gl X "range") (hm : X.mg "range" = none) (ha : PA X [a] ta) (hs : starEach [a] X.env = [(false, eval a X.env)] := by rfl) : PI X tg (.Call (.Name "range" p) [a] [] pos) (iRngW ta) := by
  refine ⟨fun pins s σ H R I h => ?_⟩
  refine Call_ (ld_blt I hg hm boot_range (PyProof.Rows.callWith_type1 (thn (ha.run pos pins s σ H _ I h) fun us s1 ⟨vs, H1, I1, r1, q1⟩ => ?_) hs rfl))
  obtain ⟨j, e, q1, q2, q⟩ := q1
  subst e
  cases r1 with
  | cons r rr =>
    cases rr
    obtain ⟨t, rfl⟩ := r
    rcases q1 with q1 | q1
    · exact call_range_1 (range_it I1 (by omega) (by omega) q1 q2 (by simpa using q))
    · refine call_range_1 (range_itL I1 q1 ?_)
      have e : j.toNat = 0 := by omega
      rw [e] at q
      exact q
end
end TX
namespace TX
open PySem PySem.Spec PyProof.Rows L2
section
variable {X : Cx} {CX : CXT} {C f : Addr} {k : Nat} {fd : FuncData} {ps : List Str} {sp : Sp} {E : XK}
/-- ~x of an own object -/
theorem un_inv_own (hm : Meth X.K C "__invert__" f) (F : FnOk X.prog X.w X.K X.mg X.base CX k f fd ps sp) (hr : Room k X.A) (hb : Binds X.K fd ps []) (hx : Passes CX X E) :
    UnR X (unaryOp .Invert) (fun x H Q => ∃ p dx fs, x = .ref p ∧ H p = some (.ins C dx fs) ∧ sp [.ref p] H Q E) := by
  intro pins s σ H x v Q I rx h
  obtain ⟨p, dx, fs, rfl, hp, q⟩ := h
  cases rx
  obtain ⟨ox, od, J⟩ := inst_at I hp
  obtain ⟨m, hF⟩ := I.fr
  refine PySem.W.ksp_inv hF I.ok.mod.kin J hm.at_ hm.fn ?_
  exact run_below (vs := [.ref p]) F ⟨hr, rfl⟩ hb hx I (.cons rfl .nil) q
end
end TX
namespace TX
open PySem PySem.Spec PyProof.Rows L2
/-! ### y in x, x an own object -/
section
variable {X : Cx} {CX : CXT} {C f : Addr} {k : Nat} {fd : FuncData} {ps : List Str} {sp : Sp} {E : XK}
/-- y in x, x an own object -/
theorem op_in_own (hm : Meth X.K C "__contains__" f) (F : FnOk X.prog X.w X.K X.mg X.base CX k f fd ps sp) (hr : Room k X.A) (hb : Binds X.K fd ps []) (hx : Passes CX X E) :
    OpR X (compareOp .In) (fun y x H Q => ∃ p dx fs, x = .ref p ∧ H p = some (.ins C dx fs) ∧ sp [.ref p, y] H (fun v H' => ∃ b, v = .bl b ∧ Q (.bl b) H') E) := by
  intro pins s σ H y x v u Q I ry rx h
  obtain ⟨p, dx, fs, rfl, hp, q⟩ := h
  cases rx
  obtain ⟨ox, od, J⟩ := inst_at I hp
  obtain ⟨m, hF⟩ := I.fr
  refine PySem.W.in_K hF I.ok.mod.kin J hm.at_ hm.fn ?_
  refine wpAny_mono (run_below (vs := [.ref p, y]) F ⟨hr, rfl⟩ hb hx I (.cons rfl (.cons ry .nil)) q) (fun z s' h => ?_) fun _ _ e => e
  obtain ⟨w, H', I', rw', b, rfl, q'⟩ := h
  cases rw'
  exact wpAny_pure ⟨.bl b, H', I', rfl, q'⟩
theorem op_notin_own (hm : Meth X.K C "__contains__" f) (F : FnOk X.prog X.w X.K X.mg X.base CX k f fd ps sp) (hr : Room k X.A) (hb : Binds X.K fd ps []) (hx : Passes CX X E) :
    OpR X (compareOp .NotIn) (fun y x H Q => ∃ p dx fs, x = .ref p ∧ H p = some (.ins C dx fs) ∧ sp [.ref p, y] H (fun v H' => ∃ b, v = .bl b ∧ Q (.bl (!b)) H') E) := by
  intro pins s σ H y x v u Q I ry rx h
  obtain ⟨p, dx, fs, rfl, hp, q⟩ := h
  cases rx
  obtain ⟨ox, od, J⟩ := inst_at I hp
  obtain ⟨m, hF⟩ := I.fr
  refine PySem.W.notIn_K hF I.ok.mod.kin J hm.at_ hm.fn ?_
  refine wpAny_mono (run_below (vs := [.ref p, y]) F ⟨hr, rfl⟩ hb hx I (.cons rfl (.cons ry .nil)) q) (fun z s' h => ?_) fun _ _ e => e
  obtain ⟨w, H', I', rw', b, rfl, q'⟩ := h
  cases rw'
  exact wpAny_pure ⟨.bl (!b), H', I', rfl, q'⟩
end
end TX
namespace TX
open PySem PySem.Spec PyProof.Rows L2
/-! ### operators -/
/-- which values a shape has -/
def lastP (gs : List Sg) : PyData → Bool := (predsOf [] gs).getD (gs.length - 1) nv
theorem lastP_snoc (g0 : List Sg) (g : Sg) : lastP (g0 ++ [g]) = g.pred (predsOf [] g0) := by
  unfold lastP
  have hl : (g0 ++ [g]).length - 1 = (predsOf [] g0).length := by
    rw [predsOf_len, List.length_append]
    simp
  rw [predsOf_snoc, hl, getD_new]
theorem asksN_app : ∀ (a b : List Sg), asksN (a ++ b) = asksN a + asksN b
  | [], b => by simp [asksN]
  | g :: a, b => by
    simp only [List.cons_append, asksN, asksN_app a b]
    omega
/-- what an operator's shape is -/
def BinQ (K : PySem.W.Frag) (C : Addr) (H Hv : Hp) (gs1 gs2 : List Sg) (op : Bool → Bool → Bool) (Q : VK) : Prop := ∀ (H' : Hp) (x : Addr) (gs : List Sg), Same H H' → H x = none → ShAt K (ov H Hv H') C x gs → gs ≠ [] → asksN gs ≤ asksN gs1 + asksN gs2 → gs.length ≤ gs1.length + gs2.length + 1 →
  lastP gs = (fun d => op (lastP gs1 d) (lastP gs2 d)) → Q (.ref x) H'
def spBin (K : PySem.W.Frag) (C : Addr) (op : Bool → Bool → Bool) : Sp := fun vs H Q _ => ∃ (x y : Addr) (gs1 gs2 : List Sg) (Hv : Hp), vs = [.ref x, .ref y] ∧ Same Hv H ∧ ShAt K Hv C x gs1 ∧ ShAt K Hv C y gs2 ∧ gs1 ≠ [] ∧ gs2 ≠ [] ∧ gs1.length ≤ 300 ∧ gs2.length ≤ 100 ∧ asksN gs1 + asksN gs2 ≤ 8 ∧ BinQ K C H Hv gs1 gs2 op Q
def spInv (K : PySem.W.Frag) (C : Addr) : Sp := fun vs H Q _ => ∃ (x : Addr) (gs : List Sg) (Hv : Hp), vs = [.ref x] ∧ Same Hv H ∧ ShAt K Hv C x gs ∧ gs ≠ [] ∧ gs.length ≤ 300 ∧ asksN gs ≤ 8 ∧
  ∀ (H' : Hp) (x' : Addr), Same H H' → H x' = none → ShAt K (ov H Hv H') C x' (gs ++ [.outside (gs.length - 1)]) → Q (.ref x') H'
section
variable {P : Program} {w : World} {K : PySem.W.Frag} {mg : Str → Option Value} {base : Heap} {C : Addr}
theorem scOrS : FnScope ["self", "other"] ["self", "other"] (defScope mShape_or) := ⟨rfl, rfl, rfl, by decide +kernel, rfl, by decide +kernel, by decide +kernel⟩
theorem ok_orS {f fI fB : Addr} {fd dI dB : FuncData} (F : Fun K "__or__" "Shape.__or__" mShape_or f fd) (T : Ek K mg C) (M : Mk K C fI) (GI : FnOk P w K mg base CX0 4 fI dI ["self", "recipe", "before"] (spInitS K C)) (bI : Binds K dI ["self", "recipe", "before"] [])
    (GB : FnOk P w K mg base CX0 1 fB dB ["sign", "one", "other"] (spBoth K)) (gB : mg "step_over_both" = some (.ref fB)) (kB : PySem.W.keepIn K (.ref fB) = true) (bB : Binds K dB ["sign", "one", "other"] []) : FnOk P w K mg base CX0 6 f fd ["self", "other"] (spBin K C (fun a b => a || b)) := by
  refine F.ok scOrS (fun vs H Q E h => ?_) (fun cdv A outer s H vs Q E hr h => ?_)
  · obtain ⟨x, y, gs1, gs2, Hv, rfl, _⟩ := h
    rfl
  · obtain ⟨x, y, gs1, gs2, Hv, rfl, sv, ⟨dx, rc, pl, aW, aA, aR, aL, as, ak, ws, ar, lv, hx0, RC, PF, hW, hk⟩, ⟨dy, rc2, pl2, aW2, aA2, aR2, aL2, as2, ak2, ws2, ar2, lv2, hy0, RC2, _⟩, ne1, ne2, l1, l2, h8, q⟩ := h
    have hx := sv _ _ hx0
    have hy := sv _ _ hy0
    refine ⟨_, pss_one (ps_ret (pe_make (E := E0) M GI hr (by rfl) T.mgC bI .nil pass0 (pa_cons (pe_call GB (hr.mono (by decide)) (by rfl) gB kB bB .nil pass0 (pa_cons pe_str (pa_cons (pe_fld (pv 0) rfl) (pa_cons (pe_fld (pv 1) rfl) pa_nil)))) (pa_cons (pe_fld (pv 0) rfl) pa_nil)))), ?_⟩
    refine ⟨_, rfl, x, C, dx, _, _, rfl, hx, T.cl, T.nR, shF_rec rc pl, _, rfl, y, C, dy, _, _, rfl, hy, T.cl, T.nR, shF_rec rc2 pl2, Sg.either, rc, rc2, as, as2, gs1, gs2, Hv, rfl, sv, RC, RC2, ne1, ne2, l1, l2, (fun j k => ⟨rfl, rfl, rfl, trivial⟩), fun H' rc' as' more j s RC' hask hml hj hp => ?_⟩
    refine ⟨_, rfl, x, C, dx, _, _, rfl, s _ _ hx, T.cl, T.nP, shF_plan rc pl, ?_⟩
    have al' := RC'.len
    have e1 : asksN (more ++ [Sg.either (gs1.length - 1) j]) = asksN more := by
      rw [asksN_snoc]
      rfl
    have gl : (gs1 ++ (more ++ [Sg.either (gs1.length - 1) j])).length ≤ gs1.length + gs2.length + 1 := by
      simp only [List.length_append, List.length_cons, List.length_nil]
      omega
    refine mk_shape (g0 := gs1) (gs := more ++ [Sg.either (gs1.length - 1) j]) (ov_same sv s) (PF.up (ov_sub sv)) RC' (by omega) hk (by omega) (asksN_app _ _) fun H2 x' s2 nx sh => ?_
    refine q H2 x' _ (s.trans s2) (s.free nx) (sh.up (ov_step s s2)) (by simp) (by rw [asksN_app, e1]; omega) gl ?_
    rw [← List.append_assoc, lastP_snoc]
    have p1 : 0 < gs1.length := List.length_pos_iff.mpr ne1
    have ea : (predsOf [] (gs1 ++ more)).getD (gs1.length - 1) nv = lastP gs1 := preds_pre more gs1 (by omega)
    have eb : (predsOf [] (gs1 ++ more)).getD j nv = lastP gs2 := hp
    simp only [Sg.pred, ea, eb]
theorem scAndS : FnScope ["self", "other"] ["self", "other"] (defScope mShape_and) := ⟨rfl, rfl, rfl, by decide +kernel, rfl, by decide +kernel, by decide +kernel⟩
theorem ok_andS {f fI fB : Addr} {fd dI dB : FuncData} (F : Fun K "__and__" "Shape.__and__" mShape_and f fd) (T : Ek K mg C) (M : Mk K C fI) (GI : FnOk P w K mg base CX0 4 fI dI ["self", "recipe", "before"] (spInitS K C)) (bI : Binds K dI ["self", "recipe", "before"] [])
    (GB : FnOk P w K mg base CX0 1 fB dB ["sign", "one", "other"] (spBoth K)) (gB : mg "step_over_both" = some (.ref fB)) (kB : PySem.W.keepIn K (.ref fB) = true) (bB : Binds K dB ["sign", "one", "other"] []) : FnOk P w K mg base CX0 6 f fd ["self", "other"] (spBin K C (fun a b => a && b)) := by
  refine F.ok scAndS (fun vs H Q E h => ?_) (fun cdv A outer s H vs Q E hr h => ?_)
  · obtain ⟨x, y, gs1, gs2, Hv, rfl, _⟩ := h
    rfl
  · obtain ⟨x, y, gs1, gs2, Hv, rfl, sv, ⟨dx, rc, pl, aW, aA, aR, aL, as, ak, ws, ar, lv, hx0, RC, PF, hW, hk⟩, ⟨dy, rc2, pl2, aW2, aA2, aR2, aL2, as2, ak2, ws2, ar2, lv2, hy0, RC2, _⟩, ne1, ne2, l1, l2, h8, q⟩ := h
    have hx := sv _ _ hx0
    have hy := sv _ _ hy0
    refine ⟨_, pss_one (ps_ret (pe_make (E := E0) M GI hr (by rfl) T.mgC bI .nil pass0 (pa_cons (pe_call GB (hr.mono (by decide)) (by rfl) gB kB bB .nil pass0 (pa_cons pe_str (pa_cons (pe_fld (pv 0) rfl) (pa_cons (pe_fld (pv 1) rfl) pa_nil)))) (pa_cons (pe_fld (pv 0) rfl) pa_nil)))), ?_⟩
    refine ⟨_, rfl, x, C, dx, _, _, rfl, hx, T.cl, T.nR, shF_rec rc pl, _, rfl, y, C, dy, _, _, rfl, hy, T.cl, T.nR, shF_rec rc2 pl2, Sg.both, rc, rc2, as, as2, gs1, gs2, Hv, rfl, sv, RC, RC2, ne1, ne2, l1, l2, (fun j k => ⟨rfl, rfl, rfl, trivial⟩), fun H' rc' as' more j s RC' hask hml hj hp => ?_⟩
    refine ⟨_, rfl, x, C, dx, _, _, rfl, s _ _ hx, T.cl, T.nP, shF_plan rc pl, ?_⟩
    have al' := RC'.len
    have e1 : asksN (more ++ [Sg.both (gs1.length - 1) j]) = asksN more := by
      rw [asksN_snoc]
      rfl
    have gl : (gs1 ++ (more ++ [Sg.both (gs1.length - 1) j])).length ≤ gs1.length + gs2.length + 1 := by
      simp only [List.length_append, List.length_cons, List.length_nil]
      omega
    refine mk_shape (g0 := gs1) (gs := more ++ [Sg.both (gs1.length - 1) j]) (ov_same sv s) (PF.up (ov_sub sv)) RC' (by omega) hk (by omega) (asksN_app _ _) fun H2 x' s2 nx sh => ?_
    refine q H2 x' _ (s.trans s2) (s.free nx) (sh.up (ov_step s s2)) (by simp) (by rw [asksN_app, e1]; omega) gl ?_
    rw [← List.append_assoc, lastP_snoc]
    have p1 : 0 < gs1.length := List.length_pos_iff.mpr ne1
    have ea : (predsOf [] (gs1 ++ more)).getD (gs1.length - 1) nv = lastP gs1 := preds_pre more gs1 (by omega)
    have eb : (predsOf [] (gs1 ++ more)).getD j nv = lastP gs2 := hp
    simp only [Sg.pred, ea, eb]
theorem scSubS : FnScope ["self", "other"] ["self", "other"] (defScope mShape_sub) := ⟨rfl, rfl, rfl, by decide +kernel, rfl, by decide +kernel, by decide +kernel⟩
theorem ok_subS {f fI fB : Addr} {fd dI dB : FuncData} (F : Fun K "__sub__" "Shape.__sub__" mShape_sub f fd) (T : Ek K mg C) (M : Mk K C fI) (GI : FnOk P w K mg base CX0 4 fI dI ["self", "recipe", "before"] (spInitS K C)) (bI : Binds K dI ["self", "recipe", "before"] [])
    (GB : FnOk P w K mg base CX0 1 fB dB ["sign", "one", "other"] (spBoth K)) (gB : mg "step_over_both" = some (.ref fB)) (kB : PySem.W.keepIn K (.ref fB) = true) (bB : Binds K dB ["sign", "one", "other"] []) : FnOk P w K mg base CX0 6 f fd ["self", "other"] (spBin K C (fun a b => a && !b)) := by
  refine F.ok scSubS (fun vs H Q E h => ?_) (fun cdv A outer s H vs Q E hr h => ?_)
  · obtain ⟨x, y, gs1, gs2, Hv, rfl, _⟩ := h
    rfl
  · obtain ⟨x, y, gs1, gs2, Hv, rfl, sv, ⟨dx, rc, pl, aW, aA, aR, aL, as, ak, ws, ar, lv, hx0, RC, PF, hW, hk⟩, ⟨dy, rc2, pl2, aW2, aA2, aR2, aL2, as2, ak2, ws2, ar2, lv2, hy0, RC2, _⟩, ne1, ne2, l1, l2, h8, q⟩ := h
    have hx := sv _ _ hx0
    have hy := sv _ _ hy0
    refine ⟨_, pss_one (ps_ret (pe_make (E := E0) M GI hr (by rfl) T.mgC bI .nil pass0 (pa_cons (pe_call GB (hr.mono (by decide)) (by rfl) gB kB bB .nil pass0 (pa_cons pe_str (pa_cons (pe_fld (pv 0) rfl) (pa_cons (pe_fld (pv 1) rfl) pa_nil)))) (pa_cons (pe_fld (pv 0) rfl) pa_nil)))), ?_⟩
    refine ⟨_, rfl, x, C, dx, _, _, rfl, hx, T.cl, T.nR, shF_rec rc pl, _, rfl, y, C, dy, _, _, rfl, hy, T.cl, T.nR, shF_rec rc2 pl2, Sg.minus, rc, rc2, as, as2, gs1, gs2, Hv, rfl, sv, RC, RC2, ne1, ne2, l1, l2, (fun j k => ⟨rfl, rfl, rfl, trivial⟩), fun H' rc' as' more j s RC' hask hml hj hp => ?_⟩
    refine ⟨_, rfl, x, C, dx, _, _, rfl, s _ _ hx, T.cl, T.nP, shF_plan rc pl, ?_⟩
    have al' := RC'.len
    have e1 : asksN (more ++ [Sg.minus (gs1.length - 1) j]) = asksN more := by
      rw [asksN_snoc]
      rfl
    have gl : (gs1 ++ (more ++ [Sg.minus (gs1.length - 1) j])).length ≤ gs1.length + gs2.length + 1 := by
      simp only [List.length_append, List.length_cons, List.length_nil]
      omega
    refine mk_shape (g0 := gs1) (gs := more ++ [Sg.minus (gs1.length - 1) j]) (ov_same sv s) (PF.up (ov_sub sv)) RC' (by omega) hk (by omega) (asksN_app _ _) fun H2 x' s2 nx sh => ?_
    refine q H2 x' _ (s.trans s2) (s.free nx) (sh.up (ov_step s s2)) (by simp) (by rw [asksN_app, e1]; omega) gl ?_
    rw [← List.append_assoc, lastP_snoc]
    have p1 : 0 < gs1.length := List.length_pos_iff.mpr ne1
    have ea : (predsOf [] (gs1 ++ more)).getD (gs1.length - 1) nv = lastP gs1 := preds_pre more gs1 (by omega)
    have eb : (predsOf [] (gs1 ++ more)).getD j nv = lastP gs2 := hp
    simp only [Sg.pred, ea, eb]
theorem scInvS : FnScope ["self"] ["self"] (defScope mShape_invert) := ⟨rfl, rfl, rfl, by decide +kernel, rfl, by decide +kernel, by decide +kernel⟩
theorem ok_invS {f fI fA : Addr} {fd dI dA : FuncData} (F : Fun K "__invert__" "Shape.__invert__" mShape_invert f fd) (T : Ek K mg C) (M : Mk K C fI) (GI : FnOk P w K mg base CX0 4 fI dI ["self", "recipe", "before"] (spInitS K C)) (bI : Binds K dI ["self", "recipe", "before"] [])
    (GA : FnOk P w K mg base CX0 1 fA dA ["sign", "recipe"] (spAbove K)) (gA : mg "step_above" = some (.ref fA)) (kA : PySem.W.keepIn K (.ref fA) = true) (bA : Binds K dA ["sign", "recipe"] []) : FnOk P w K mg base CX0 6 f fd ["self"] (spInv K C) := by
  refine F.ok scInvS (fun vs H Q E h => ?_) (fun cdv A outer s H vs Q E hr h => ?_)
  · obtain ⟨x, gs, Hv, rfl, _⟩ := h
    rfl
  · obtain ⟨x, gs, Hv, rfl, sv, ⟨dx, rc, pl, aW, aA, aR, aL, as, ak, ws, ar, lv, hx0, RC, PF, hW, hk⟩, hne, hl, h8, q⟩ := h
    have hx := sv _ _ hx0
    refine ⟨_, pss_one (ps_ret (pe_make (E := E0) M GI hr (by rfl) T.mgC bI .nil pass0 (pa_cons (pe_call GA (hr.mono (by decide)) (by rfl) gA kA bA .nil pass0 (pa_cons pe_str (pa_cons (pe_fld (pv 0) rfl) pa_nil))) (pa_cons (pe_fld (pv 0) rfl) pa_nil)))), ?_⟩
    have al := RC.len
    refine ⟨_, rfl, x, C, dx, _, _, rfl, hx, T.cl, T.nR, shF_rec rc pl, .outside (gs.length - 1), rc, as, gs, Hv, rfl, sv, RC, hne, rfl, rfl, trivial, by omega, fun H' rc' as' s RC' => ?_⟩
    refine ⟨_, rfl, x, C, dx, _, _, rfl, s _ _ hx, T.cl, T.nP, shF_plan rc pl, ?_⟩
    have al' := RC'.len
    rw [List.length_append, List.length_singleton] at al'
    exact mk_shape (g0 := gs) (gs := [.outside (gs.length - 1)]) (ov_same sv s) (PF.up (ov_sub sv)) RC' (by omega) hk (by show asksN gs + 0 ≤ 8; omega) (asksN_snoc gs _) fun H2 x' s2 nx sh => q H2 x' (s.trans s2) (s.free nx) (sh.up (ov_step s s2))
end
end TX
namespace TX
open PySem PySem.Spec PyProof.Rows L2
/-! ### _law_shape -/
mutual
theorem nest_same {p q : PyData → Bool} (h : ∀ d, valD d → bdD d → p d = q d) : ∀ d : PyData, valD d → bdD d → nestP p d = nestP q d
  | .none, v, b => h .none v b
  | .str x, v, b => h (.str x) v b
  | .list es, v, b => by
    simp only [nestP]
    rw [h (.list es) v b, nest_sames h es v b]
  | .bool _, v, _ => v.elim
  | .int _, v, _ => v.elim
  | .tuple _, v, _ => v.elim
  | .dict _, v, _ => v.elim
theorem nest_sames {p q : PyData → Bool} (h : ∀ d, valD d → bdD d → p d = q d) : ∀ ds : List PyData, valAll ds → bdAll ds → nestAll p ds = nestAll q ds
  | [], _, _ => rfl
  | d :: ds, v, b => by
    simp only [nestAll]
    rw [nest_same h d v.1 b.1, nest_sames h ds v.2 b.2]
end
theorem lists_same {p q : PyData → Bool} (h : ∀ d, valD d → bdD d → p d = q d) : ∀ d : PyData, valD d → bdD d → listsP p d = listsP q d := by
  intro d v b
  cases d with
  | list es =>
    simp only [listsP]
    rw [Bool.eq_iff_iff, List.all_eq_true, List.all_eq_true]
    exact ⟨fun z d hd => by rw [← h d (valIn v hd) (bd_mem b hd)]; exact z d hd, fun z d hd => by rw [h d (valIn v hd) (bd_mem b hd)]; exact z d hd⟩
  | _ => rfl
theorem ShNd.ne {gs : List Sg} {n : Nd} (h : ShNd gs n) : gs ≠ [] := by
  obtain ⟨g0, g, rfl, _⟩ := h
  simp
theorem ShNd.last {gs : List Sg} {n : Nd} (h : ShNd gs n) : ∀ d, valD d → bdD d → lastP gs d = n.has d := by
  obtain ⟨g0, g, rfl, hp⟩ := h
  rw [lastP_snoc]
  exact hp
theorem ShNd.of {gs : List Sg} {n : Nd} (hne : gs ≠ []) (h : ∀ d, valD d → bdD d → lastP gs d = n.has d) : ShNd gs n := by
  refine ⟨gs.dropLast, gs.getLast hne, (List.dropLast_concat_getLast hne).symm, ?_⟩
  rw [← lastP_snoc, List.dropLast_concat_getLast hne]
  exact h
theorem ShNd.lists {gs : List Sg} {n : Nd} (h : ShNd gs n) : ShNd (gs ++ [.lists (gs.length - 1)]) (.lists n) := ⟨gs, _, rfl, lists_same h.last⟩
theorem ShNd.nested {gs : List Sg} {n : Nd} (h : ShNd gs n) : ShNd (gs ++ [.nested (gs.length - 1)]) (.nested n) := ⟨gs, _, rfl, nest_same h.last⟩
theorem ShNd.outside {gs : List Sg} {n : Nd} (h : ShNd gs n) : ShNd (gs ++ [.outside (gs.length - 1)]) (.not_ n) := ⟨gs, _, rfl, fun d v b => by
  show (!(lastP gs d)) = !n.has d
  rw [h.last d v b]⟩
/-- the bag and the list of what is left may have changed -/
structure K2 (H G : Hp) (p l : Addr) (left : Nat) : Prop where
  k : ∀ b o, b ≠ p → b ≠ l → H b = some o → G b = some o
  b : BagAt G p
  f : G l = some (.lst [.int (left : Nat)])
section
variable {H Hv G G' G2 G3 : Hp} {p l : Addr} {n m : Nat}
theorem K2.there (h : K2 H G p l n) : ∀ b, H b ≠ none → G b ≠ none := fun b hb => by
  by_cases e1 : b = p
  · rw [e1]
    obtain ⟨x, y, e⟩ := h.b
    rw [e]
    exact fun z => nomatch z
  · by_cases e2 : b = l
    · rw [e2, h.f]
      exact fun z => nomatch z
    · cases e : H b with
      | none => exact absurd e hb
      | some o =>
        rw [h.k b o e1 e2 e]
        exact fun z => nomatch z
theorem K2.fresh {b : Addr} (h : K2 H G p l n) (e : G b = none) : H b = none := Classical.byContradiction fun z => h.there b z e
theorem K2.ne (h : K2 H G p l n) : p ≠ l := fun z => by
  obtain ⟨x, y, e⟩ := h.b
  rw [z, h.f] at e
  injection e with e
  injection e with e
  simp at e
theorem K2.draw (h : K2 H G p l n) (x y : Int) : K2 H (upd G p (.lst [.int x, .int y])) p l n :=
  ⟨fun b o h1 h2 e => by rw [upd_ne h1]; exact h.k b o h1 h2 e, ⟨_, _, upd_same⟩, by rw [upd_ne h.ne.symm]; exact h.f⟩
theorem K2.up (h : K2 H G p l n) (s : Same G G') : K2 H G' p l n := ⟨fun b o h1 h2 e => s _ _ (h.k b o h1 h2 e), TX.bag_same h.b s, s _ _ h.f⟩
theorem K2.kb (h : K2 H G p l n) (k : Kb G G' p) : K2 H G' p l n := ⟨fun b o h1 h2 e => k.k b o h1 (h.k b o h1 h2 e), k.b, k.k _ _ h.ne.symm h.f⟩
theorem K2.then_ (h : K2 H G p l n) (k : K2 G G' p l m) : K2 H G' p l m := ⟨fun b o h1 h2 e => k.k b o h1 h2 (h.k b o h1 h2 e), k.b, k.f⟩
/-- what is seen: new things, and the view -/
structure Vw (H Hv : Hp) (p l : Addr) : Prop where
  s : Same Hv H
  vp : Hv p = none
  vl : Hv l = none
  hp : H p ≠ none
  hl : H l ≠ none
theorem Vw.ovp (v : Vw H Hv p l) : ov H Hv G p = none := by
  cases e : H p with
  | none => exact absurd e v.hp
  | some o => rw [ov_old e, v.vp]
theorem Vw.ovl (v : Vw H Hv p l) : ov H Hv G l = none := by
  cases e : H l with
  | none => exact absurd e v.hl
  | some o => rw [ov_old e, v.vl]
theorem Vw.sub (v : Vw H Hv p l) (k : K2 H G p l n) : Same (ov H Hv G) G := fun b o e => by
  cases h : H b with
  | none =>
    rw [ov_new h] at e
    exact e
  | some u =>
    have z := e
    rw [ov_old h] at e
    refine k.k b o (fun w => ?_) (fun w => ?_) (v.s _ _ e)
    · rw [w, v.vp] at e
      cases e
    · rw [w, v.vl] at e
      cases e
theorem Vw.del (v : Vw H Hv p l) (k : K2 H G p l n) : Same (ov H Hv G) (L2.del G p) := fun b o e => by
  have bp : b ≠ p := fun z => by
    rw [z, v.ovp] at e
    cases e
  rw [del_ne bp]
  exact v.sub k _ _ e
/-- the view one step on -/
theorem Vw.next (v : Vw H Hv p l) (k : K2 H G p l n) : Vw G (ov H Hv G) p l := ⟨v.sub k, v.ovp, v.ovl, k.there _ v.hp, k.there _ v.hl⟩
theorem Vw.fr (v : Vw H Hv p l) (k : ∀ b o, b ≠ p → b ≠ l → G b = some o → G' b = some o) : Same (ov H Hv G) (ov H Hv G') := fun b o e => by
  cases h : H b with
  | none =>
    rw [ov_new h] at e ⊢
    exact k b o (fun z => v.hp (z ▸ h)) (fun z => v.hl (z ▸ h)) e
  | some u =>
    rw [ov_old h] at e ⊢
    exact e
theorem Vw.step (v : Vw H Hv p l) (k : K2 H G p l n) (k2 : ∀ b o, b ≠ p → b ≠ l → G b = some o → G' b = some o) : Same (ov G (ov H Hv G) G') (ov H Hv G') := fun b o e => by
  cases h : G b with
  | none =>
    rw [ov_new h] at e
    rw [ov_new (k.fresh h)]
    exact e
  | some u =>
    rw [ov_old h] at e
    exact v.fr k2 b o e
end
theorem ShAt.obj {K : PySem.W.Frag} {C : Addr} {W : Hp} {x : Addr} {gs : List Sg} (h : ShAt K W C x gs) : ∃ dx fs, W x = some (.ins C dx fs) := by
  obtain ⟨dx, rc, pl, aW, aA, aR, aL, as, ak, ws, ar, lv, hx, _⟩ := h
  exact ⟨dx, _, hx⟩
def ShapeQ (K : PySem.W.Frag) (C : Addr) (H Hv : Hp) (p l : Addr) (left deep : Nat) (Q : VK) : Prop := ∀ (G : Hp) (t x : Addr) (u : V) (gs : List Sg) (n : Nd) (left' : Nat), K2 H G p l left' → (ov H Hv G) t = some (.tup [.ref x, u]) → ShAt K (ov H Hv G) C x gs → Dp K (ov H Hv G) u n.dat → ShNd gs n → n.deep ≤ deep → gs.length + 1 ≤ 2 ^ (deep + 1) → asksN gs + left' ≤ left → Q (.ref t) G
def spShape (K : PySem.W.Frag) (C : Addr) (N : Nat) : Sp := fun vs H Q _ => ∃ (p l : Addr) (Hv : Hp) (deep left : Nat), vs = [.ref p, .int (deep : Nat), .ref l] ∧ K2 H H p l left ∧ Vw H Hv p l ∧ deep ≤ N ∧ deep ≤ 5 ∧ left ≤ 6 ∧ ShapeQ K C H Hv p l left deep Q
structure Lh (P : Program) (w : World) (K : PySem.W.Frag) (mg : Str → Option Value) (base : Heap) (C : Addr) (mc : Value) (fT fL f1 f2 p1 p2 i1 i2 i3 i4 : Addr) (dT dL e1 e2 e3 e4 : FuncData) : Prop where
  GT : FnOk P w K mg base CX0 1 fT dT ["_law_bag_here", "_law_many"] spTake
  bT : Binds K dT ["_law_bag_here", "_law_many"] []
  gT : mg "_law_take" = some (.ref fT)
  kT : PySem.W.keepIn K (.ref fT) = true
  GL : FnOk P w K mg base CX0 7 fL dL ["_law_bag_here"] (spLeafS K C)
  bL : Binds K dL ["_law_bag_here"] []
  gL : mg "_law_leaf" = some (.ref fL)
  kL : PySem.W.keepIn K (.ref fL) = true
  r : ClX.CRead K C mc
  c1 : ClX.CMet K C mc "lists" p1 f1
  c2 : ClX.CMet K C mc "nested" p2 f2
  M1 : FnR P w K mg base CX0 6 f1 (spOver K C .lists)
  M2 : FnR P w K mg base CX0 6 f2 (spOver K C .nested)
  I1 : FnOk P w K mg base CX0 6 i1 e1 ["self"] (spInv K C)
  I2 : FnOk P w K mg base CX0 6 i2 e2 ["self", "other"] (spBin K C (fun a b => a || b))
  I3 : FnOk P w K mg base CX0 6 i3 e3 ["self", "other"] (spBin K C (fun a b => a && b))
  I4 : FnOk P w K mg base CX0 6 i4 e4 ["self", "other"] (spBin K C (fun a b => a && !b))
  m1 : Meth K C "__invert__" i1
  m2 : Meth K C "__or__" i2
  m3 : Meth K C "__and__" i3
  m4 : Meth K C "__sub__" i4
  d1 : Binds K e1 ["self"] []
  d2 : Binds K e2 ["self", "other"] []
  d3 : Binds K e3 ["self", "other"] []
  d4 : Binds K e4 ["self", "other"] []
  sf : PySem.W.selfFirst K C = true
section
variable {P : Program} {w : World} {K : PySem.W.Frag} {mg : Str → Option Value} {base : Heap} {C : Addr}
theorem scShape : FnScope ["_law_bag_here", "_law_deep", "_law_left", "_law_pick", "_law_one", "_law_node", "_law_two", "_law_beside"] ["_law_bag_here", "_law_deep", "_law_left"] (defScope s__law_shape) := ⟨rfl, rfl, rfl, by decide +kernel, rfl, by decide +kernel, by decide +kernel⟩
theorem ok_shape1 {f : Addr} {fd : FuncData} {mc : Value} {fT fL f1 f2 p1 p2 i1 i2 i3 i4 : Addr} {dT dL e1 e2 e3 e4 : FuncData} (F : Fun K "_law_shape" "_law_shape" s__law_shape f fd) (b : Binds K fd ["_law_bag_here", "_law_deep", "_law_left"] []) (g : mg "_law_shape" = some (.ref f)) (T : Ek K mg C) (L : Lh P w K mg base C mc fT fL f1 f2 p1 p2 i1 i2 i3 i4 dT dL e1 e2 e3 e4) (N : Nat)
    (G : ∀ j : { M : Nat // M + 1 = N }, FnOk P w K mg base CX0 (j.1 + 8) f fd ["_law_bag_here", "_law_deep", "_law_left"] (spShape K C j.1)) : FnOk P w K mg base CX0 (N + 8) f fd ["_law_bag_here", "_law_deep", "_law_left"] (spShape K C N) := by
  refine F.ok scShape (fun vs H Q E h => ?_) (fun cdv A outer s H vs Q E hr h => ?_)
  · obtain ⟨p, l, Hv, deep, left, rfl, _⟩ := h
    rfl
  · obtain ⟨p, l, Hv, deep, left, rfl, k0, vw, hN, h5, h6, q⟩ := h
    have hrR : ∀ j : { M : Nat // M + 1 = N }, Room (j.1 + 8) _ := fun j => hr.mono (by have := j.2; omega)
    have r1 : Room 1 _ := hr.mono (by omega)
    have r6 : Room 6 _ := hr.mono (by omega)
    have r7 : Room 7 _ := hr.mono (by omega)
    refine ⟨_, pss_cons (ps_set (i := 3) scShape.nd rfl (.inl rfl) (pe_call L.GT r1 (by rfl) L.gT L.kT L.bT .nil pass0 (pa_cons (pv 0) (pa_cons pe_int pa_nil)))) <|
      pss_cons (ps_if (PW.pt (pw_or (pt_cmpR op_eq (pv 1) pe_int (nomark _)) (pw_or1 (pt_cmpR op_lt (pv 3) pe_int (nomark _))))) (pss_one (ps_ret (pe_call L.GL r7 (by rfl) L.gL L.kL L.bL .nil pass0 (pa_cons (pv 0) pa_nil)))) pss_nil) <|
      C8.pss_cut (ps_if (PW.pt (pw_and (pt_cmpR op_lt (pv 3) pe_int (nomark _)) (pw_and1 (pt_cmpR op_gt (pe_ix ix_list (pv 2) pe_int (fun _ _ => rfl)) pe_int (nomark _)))))
        (pss_cons (ps_asg (pe_op op_sub (pe_ix ix_list (pv 2) pe_int (fun _ _ => rfl)) pe_int) (pg_sub (pv 2) pe_int set_list)) <|
         pss_cons (ps_asg (pe_ex fun j => pe_call (G j) (hrR j) (by rfl) g F.kp b .nil pass0 (pa_cons (pv 0) (pa_cons (pe_op op_sub (pv 1) pe_int) (pa_cons (pv 2) pa_nil)))) (pg_tup rfl (pgs_cons (pg_name (i := 4) scShape.nd rfl (.inl rfl)) (pgs_cons (pg_name (i := 5) scShape.nd rfl (.inl rfl)) pgs_nil)))) <|
         pss_one (ps_ret (pe_ifExp (pt_cmpR op_lt (pv 3) pe_int (nomark _)) (pe_tup (pa_cons (ClX.pe_cmeth (E := E0) (pe_glob (v := .ref C) (by rfl) T.mgC rfl) L.r L.c1 L.M1 r6 pass0 (pa_cons (pv 4) pa_nil)) (pa_cons (pe_tup (pa_cons pe_str (pa_cons (pv 5) pa_nil))) pa_nil))) (pe_tup (pa_cons (ClX.pe_cmeth (E := E0) (pe_glob (v := .ref C) (by rfl) T.mgC rfl) L.r L.c2 L.M2 r6 pass0 (pa_cons (pv 4) pa_nil)) (pa_cons (pe_tup (pa_cons pe_str (pa_cons (pv 5) pa_nil))) pa_nil)))))) pss_nil) <|
      pss_cons (ps_asg (pe_ex fun j => pe_call (G j) (hrR j) (by rfl) g F.kp b .nil pass0 (pa_cons (pv 0) (pa_cons (pe_op op_sub (pv 1) pe_int) (pa_cons (pv 2) pa_nil)))) (pg_tup rfl (pgs_cons (pg_name (i := 4) scShape.nd rfl (.inl rfl)) (pgs_cons (pg_name (i := 5) scShape.nd rfl (.inl rfl)) pgs_nil)))) <|
      pss_cons (ps_if (pt_cmpR op_lt (pv 3) pe_int (nomark _)) (pss_one (ps_ret (pe_tup (pa_cons (pe_un (un_inv_own (E := E0) L.m1 L.I1 r6 L.d1 pass0) (pv 4)) (pa_cons (pe_tup (pa_cons pe_str (pa_cons (pv 5) pa_nil))) pa_nil))))) pss_nil) <|
      pss_cons (ps_asg (pe_ex fun j => pe_call (G j) (hrR j) (by rfl) g F.kp b .nil pass0 (pa_cons (pv 0) (pa_cons (pe_op op_sub (pv 1) pe_int) (pa_cons (pv 2) pa_nil)))) (pg_tup rfl (pgs_cons (pg_name (i := 6) scShape.nd rfl (.inl rfl)) (pgs_cons (pg_name (i := 7) scShape.nd rfl (.inl rfl)) pgs_nil)))) <|
      pss_cons (ps_if (pt_cmpR op_lt (pv 3) pe_int (nomark _)) (pss_one (ps_ret (pe_tup (pa_cons (pe_op (op_own2 (E := E0) (nm := "__or__") rfl L.m2 L.sf L.I2 r6 L.d2 pass0) (pv 4) (pv 6)) (pa_cons (pe_tup (pa_cons pe_str (pa_cons (pv 5) (pa_cons (pv 7) pa_nil)))) pa_nil))))) pss_nil) <|
      pss_one (ps_ret (pe_ifExp (pt_cmpR op_lt (pv 3) pe_int (nomark _)) (pe_tup (pa_cons (pe_op (op_own2 (E := E0) (nm := "__and__") rfl L.m3 L.sf L.I3 r6 L.d3 pass0) (pv 4) (pv 6)) (pa_cons (pe_tup (pa_cons pe_str (pa_cons (pv 5) (pa_cons (pv 7) pa_nil)))) pa_nil))) (pe_tup (pa_cons (pe_op (op_own2 (E := E0) (nm := "__sub__") rfl L.m4 L.sf L.I4 r6 L.d4 pass0) (pv 4) (pv 6)) (pa_cons (pe_tup (pa_cons pe_str (pa_cons (pv 5) (pa_cons (pv 7) pa_nil)))) pa_nil))))), ?_⟩
    refine ⟨_, rfl, p, 12, rfl, k0.b, by decide, by decide, fun x1 y1 pk hpk0 hpk1 => ?_⟩
    have k1 := k0.draw x1 y1
    generalize upd H p (.lst [.int x1, .int y1]) = G1 at k1
    have two1 : ∀ d : Nat, 2 ≤ 2 ^ (d + 1) := fun d => Nat.le_trans (show 2 ≤ 2 ^ 1 by decide) (Nat.pow_le_pow_right (by decide) (by omega))
    have fin : ∀ {G3 G4 : Hp} {left' : Nat} {x' tn t : Addr} {gs' : List Sg} {n' : Nd} {es : List PyData} {us : List V}, K2 H G3 p l left' → Same G3 G4 → ShAt K (ov G3 (ov H Hv G3) G4) C x' gs' → n'.dat = .tuple es → DpAll K (ov H Hv G3) us es → ShNd gs' n' → n'.deep ≤ deep → gs'.length + 1 ≤ 2 ^ (deep + 1) → asksN gs' + left' ≤ left → G4 tn = none → (upd G4 tn (.tup us)) t = none →
        Q (.ref t) (upd (upd G4 tn (.tup us)) t (.tup [.ref x', .ref tn])) := by
      intro G3 G4 left' x' tn t gs' n' es us k3 s4 sh hdat hus heq hdp hlen hask ntn nt
      have s5 := same_upd (o := .tup us) ntn
      have s6 := same_upd (o := .tup [.ref x', .ref tn]) nt
      have k5 := (k3.up s4).up s5
      have S := vw.step k3 (G' := upd (upd G4 tn (.tup us)) t (.tup [.ref x', .ref tn])) (fun b o _ _ e => (s4.trans (s5.trans s6)) _ _ e)
      refine q _ t x' (.ref tn) gs' n' left' (k5.up s6) ?_ ((sh.up (ov_more (s5.trans s6))).up S) ?_ heq hdp hlen hask
      · rw [ov_new (k5.fresh nt), upd_same]
      · rw [hdat]
        refine .tup (SqT.of ?_) (dpAll_same (vw.fr fun b o _ _ e => (s4.trans (s5.trans s6)) _ _ e) _ _ hus)
        rw [ov_new ((k3.up s4).fresh ntn)]
        exact s6 _ _ upd_same
    have leafq : LeafQ K C G1 (ov H Hv G1) p Q := fun G t x u gs n kb ht sh hd heq h0 ha hl => by
      have S := vw.step k1 (G' := G) (fun b o h1 _ e => kb.k b o h1 e)
      refine q G t x u gs n left (k1.kb kb) (S _ _ ht) (sh.up S) (dp_same S _ _ hd) heq (by omega) ?_ (by omega)
      have := two1 deep
      omega
    refine ⟨_, rfl, rfl, _, rfl, ?_⟩
    by_cases hd0 : deep = 0
    · subst hd0
      exact eqT rfl (iteT ⟨_, rfl, p, ov H Hv G1, rfl, k1.b, vw.del k1, leafq⟩)
    refine eqF (by omega) ⟨_, rfl, _, _, rfl, rfl, _, rfl, ?_⟩
    by_cases hp2 : pk < 2
    · exact ltT hp2 ⟨_, rfl, p, ov H Hv G1, rfl, k1.b, vw.del k1, leafq⟩
    refine ltF hp2 ?_
    obtain ⟨D', rfl⟩ : ∃ D', deep = D' + 1 := ⟨deep - 1, by omega⟩
    obtain ⟨M', rfl⟩ : ∃ M', N = M' + 1 := ⟨N - 1, by omega⟩
    have ed : ((D' + 1 : Nat) : Int) - 1 = ((D' : Nat) : Int) := by omega
    have pw : (2 : Nat) ^ (D' + 1 + 1) = 2 ^ (D' + 1) * 2 := Nat.pow_succ _ _
    have pw5 : (2 : Nat) ^ (D' + 1) ≤ 2 ^ 5 := Nat.pow_le_pow_right (by decide) (by omega)
    have e32 : (2 : Nat) ^ 5 = 32 := by decide
    refine ⟨fun σ' G' => σ' = [some (.ref p), some (.int ((D' + 1 : Nat) : Int)), some (.ref l), some (.int pk), none, none, none, none] ∧ G' = G1, ?_, ?_⟩
    · refine ⟨_, rfl, _, _, rfl, rfl, _, rfl, ?_⟩
      by_cases hp6 : pk < 6
      · refine ltT hp6 ⟨_, rfl, l, _, 0, _, rfl, rfl, SqL.of k1.f, atI_nat (j := 0) rfl, _, _, rfl, rfl, _, rfl, ?_⟩
        by_cases hl : (0 : Int) < (left : Int)
        · refine ltT hl ?_
          obtain ⟨L', rfl⟩ : ∃ L', left = L' + 1 := ⟨left - 1, by omega⟩
          refine ⟨_, rfl, l, _, 0, _, rfl, rfl, SqL.of k1.f, atI_nat (j := 0) rfl, _, _, rfl, rfl, _, rfl, l, _, 0, 0, rfl, rfl, k1.f, rfl, ?_⟩
          have k2 : K2 H (upd G1 l (.lst [.int (L' : Nat)])) p l L' := ⟨fun b o h1 h2 e => by rw [upd_ne h2]; exact k1.k b o h1 h2 e, let ⟨x, y, e⟩ := k1.b; ⟨x, y, by rw [upd_ne k1.ne]; exact e⟩, upd_same⟩
          have el : (HO.lst (([V.int ((L' + 1 : Nat) : Int)] : List V).set 0 ((fun i j : Int => V.int (i - j)) ((L' + 1 : Nat) : Int) 1))) = .lst [.int (L' : Nat)] := by
            show HO.lst [V.int (((L' + 1 : Nat) : Int) - 1)] = _
            rw [show ((L' + 1 : Nat) : Int) - 1 = (L' : Int) by omega]
          rw [el]
          generalize upd G1 l (.lst [.int (L' : Nat)]) = G2 at k2
          refine ⟨⟨M', rfl⟩, _, rfl, _, rfl, _, _, rfl, rfl, _, rfl, p, l, ov H Hv G2, D', L', ?_, ⟨fun _ _ _ _ e => e, k2.b, k2.f⟩, vw.next k2, (by show D' ≤ M'; omega), by omega, by omega, fun G3 t x u gs n left' k3 ht sh hd heq hdp hlen hask => ?_⟩
          · show [V.ref p, V.int (((D' + 1 : Nat) : Int) - 1), V.ref l] ++ [] = _
            rw [ed]
            rfl
          have S := vw.step k2 k3.k
          have k3' := k2.then_ k3
          have sh' := sh.up S
          have hd' := dp_same S _ _ hd
          refine ⟨t, _, rfl, SqT.of (vw.sub k3' _ _ (S _ _ ht)), rfl, _, _, rfl, _, _, rfl, rfl, _, rfl, _, _, rfl, rfl, _, rfl, ?_⟩
          refine ite2 (fun _ => ?_) (fun _ => ?_)
          · refine ⟨rfl, _, rfl, x, gs, ov H Hv G3, rfl, vw.sub k3', sh', heq.ne, by omega, by omega, fun G4 x' s4 nx sh4 => ⟨_, rfl, (by show 2 ≤ sizeLine; decide), fun tn ntn => ⟨(by show 2 ≤ sizeLine; decide), fun t' nt => ?_⟩⟩⟩
            exact fin (n' := .lists n) k3' s4 sh4 rfl (.cons (.str _) (.cons hd' .nil)) heq.lists (by simp only [Nd.deep]; omega) (by rw [List.length_append, List.length_singleton, pw]; omega) (by rw [asksN_snoc]; show asksN gs + 1 + left' ≤ L' + 1; omega) ntn nt
          · refine ⟨rfl, _, rfl, x, gs, ov H Hv G3, rfl, vw.sub k3', sh', heq.ne, by omega, by omega, fun G4 x' s4 nx sh4 => ⟨_, rfl, (by show 2 ≤ sizeLine; decide), fun tn ntn => ⟨(by show 2 ≤ sizeLine; decide), fun t' nt => ?_⟩⟩⟩
            exact fin (n' := .nested n) k3' s4 sh4 rfl (.cons (.str _) (.cons hd' .nil)) heq.nested (by simp only [Nd.deep]; omega) (by rw [List.length_append, List.length_singleton, pw]; omega) (by rw [asksN_snoc]; show asksN gs + 1 + left' ≤ L' + 1; omega) ntn nt
        · exact ltF hl ⟨rfl, rfl⟩
      · exact ltF hp6 (iteF ⟨rfl, rfl⟩)
    rintro σ G1' ⟨rfl, rfl⟩
    refine ⟨⟨M', rfl⟩, _, rfl, _, rfl, _, _, rfl, rfl, _, rfl, p, l, ov H Hv G1', D', left, ?_, ⟨fun _ _ _ _ e => e, k1.b, k1.f⟩, vw.next k1, (by show D' ≤ M'; omega), by omega, by omega, fun G3 t x u gs n left' k3 ht sh hd heq hdp hlen hask => ?_⟩
    · show [V.ref p, V.int (((D' + 1 : Nat) : Int) - 1), V.ref l] ++ [] = _
      rw [ed]
      rfl
    have S := vw.step k1 k3.k
    have k3' := k1.then_ k3
    have sh' := sh.up S
    have hd' := dp_same S _ _ hd
    obtain ⟨dx, fs, hx⟩ := sh'.obj
    refine ⟨t, _, rfl, SqT.of (vw.sub k3' _ _ (S _ _ ht)), rfl, _, _, rfl, _, _, rfl, rfl, _, rfl, _, _, rfl, rfl, _, rfl, ?_⟩
    by_cases hp7 : pk < 7
    · refine ltT hp7 ⟨_, rfl, x, dx, fs, rfl, vw.sub k3' _ _ hx, x, gs, ov H Hv G3, rfl, vw.sub k3', sh', heq.ne, by omega, by omega, fun G4 x' s4 nx sh4 => ⟨_, rfl, (by show 2 ≤ sizeLine; decide), fun tn ntn => ⟨(by show 2 ≤ sizeLine; decide), fun t' nt => ?_⟩⟩⟩
      exact fin (n' := .not_ n) k3' s4 sh4 rfl (.cons (.str _) (.cons hd' .nil)) heq.outside (by simp only [Nd.deep]; omega) (by rw [List.length_append, List.length_singleton, pw]; omega) (by rw [asksN_snoc]; show asksN gs + 0 + left' ≤ left; omega) ntn nt
    refine ltF hp7 ⟨⟨M', rfl⟩, _, rfl, _, rfl, _, _, rfl, rfl, _, rfl, p, l, ov H Hv G3, D', left', ?_, ⟨fun _ _ _ _ e => e, k3'.b, k3'.f⟩, vw.next k3', (by show D' ≤ M'; omega), by omega, by omega, fun G5 t2 y u2 gs2 n2 left2 k5 ht2 sh2 hd2 heq2 hdp2 hlen2 hask2 => ?_⟩
    · show [V.ref p, V.int (((D' + 1 : Nat) : Int) - 1), V.ref l] ++ [] = _
      rw [ed]
      rfl
    have S2 := vw.step k3' k5.k
    have k5' := k3'.then_ k5
    have S3 : Same (ov H Hv G3) (ov H Hv G5) := vw.fr k5.k
    have shA := sh'.up S3
    have hdA := dp_same S3 _ _ hd'
    have shB := sh2.up S2
    have hdB := dp_same S2 _ _ hd2
    obtain ⟨dy, fs2, hy⟩ := shB.obj
    have hxA := S3 _ _ hx
    have hop : ∀ {gs' : List Sg} {op : Bool → Bool → Bool} {n' : Nd}, gs' ≠ [] → lastP gs' = (fun d => op (lastP gs d) (lastP gs2 d)) → (∀ d, n'.has d = op (n.has d) (n2.has d)) → ShNd gs' n' := fun hne hp hn => ShNd.of hne fun d v b => by
      rw [hp, hn d, ← heq.last d v b, ← heq2.last d v b]
    refine ⟨t2, _, rfl, SqT.of (vw.sub k5' _ _ (S2 _ _ ht2)), rfl, _, _, rfl, _, _, rfl, rfl, _, rfl, _, _, rfl, rfl, _, rfl, ?_⟩
    refine ite2 (fun _ => ?_) (fun _ => ⟨_, rfl, _, _, rfl, rfl, _, rfl, ite2 (fun _ => ?_) (fun _ => ?_)⟩)
    · refine ⟨_, rfl, _, rfl, x, y, dx, dy, fs, fs2, rfl, rfl, vw.sub k5' _ _ hxA, vw.sub k5' _ _ hy, x, y, gs, gs2, ov H Hv G5, rfl, vw.sub k5', shA, shB, heq.ne, heq2.ne, by omega, by omega, by omega, fun G6 x' gs' s6 nx sh6 hne hask6 hlen6 hp6 => ⟨_, rfl, _, rfl, (by show 3 ≤ sizeLine; decide), fun tn ntn => ⟨(by show 2 ≤ sizeLine; decide), fun t' nt => ?_⟩⟩⟩
      exact fin (n' := .or_ n n2) k5' s6 sh6 rfl (.cons (.str _) (.cons hdA (.cons hdB .nil))) (hop hne hp6 fun _ => rfl) (by simp only [Nd.deep]; omega) (by rw [pw]; omega) (by omega) ntn nt
    · refine ⟨_, rfl, _, rfl, x, y, dx, dy, fs, fs2, rfl, rfl, vw.sub k5' _ _ hxA, vw.sub k5' _ _ hy, x, y, gs, gs2, ov H Hv G5, rfl, vw.sub k5', shA, shB, heq.ne, heq2.ne, by omega, by omega, by omega, fun G6 x' gs' s6 nx sh6 hne hask6 hlen6 hp6 => ⟨_, rfl, _, rfl, (by show 3 ≤ sizeLine; decide), fun tn ntn => ⟨(by show 2 ≤ sizeLine; decide), fun t' nt => ?_⟩⟩⟩
      exact fin (n' := .and_ n n2) k5' s6 sh6 rfl (.cons (.str _) (.cons hdA (.cons hdB .nil))) (hop hne hp6 fun _ => rfl) (by simp only [Nd.deep]; omega) (by rw [pw]; omega) (by omega) ntn nt
    · refine ⟨_, rfl, _, rfl, x, y, dx, dy, fs, fs2, rfl, rfl, vw.sub k5' _ _ hxA, vw.sub k5' _ _ hy, x, y, gs, gs2, ov H Hv G5, rfl, vw.sub k5', shA, shB, heq.ne, heq2.ne, by omega, by omega, by omega, fun G6 x' gs' s6 nx sh6 hne hask6 hlen6 hp6 => ⟨_, rfl, _, rfl, (by show 3 ≤ sizeLine; decide), fun tn ntn => ⟨(by show 2 ≤ sizeLine; decide), fun t' nt => ?_⟩⟩⟩
      exact fin (n' := .less n n2) k5' s6 sh6 rfl (.cons (.str _) (.cons hdA (.cons hdB .nil))) (hop (op := fun a b => a && !b) hne hp6 fun _ => rfl) (by simp only [Nd.deep]; omega) (by rw [pw]; omega) (by omega) ntn nt
theorem ok_shape {f : Addr} {fd : FuncData} {mc : Value} {fT fL f1 f2 p1 p2 i1 i2 i3 i4 : Addr} {dT dL e1 e2 e3 e4 : FuncData} (F : Fun K "_law_shape" "_law_shape" s__law_shape f fd) (b : Binds K fd ["_law_bag_here", "_law_deep", "_law_left"] []) (g : mg "_law_shape" = some (.ref f)) (T : Ek K mg C) (L : Lh P w K mg base C mc fT fL f1 f2 p1 p2 i1 i2 i3 i4 dT dL e1 e2 e3 e4) :
    ∀ N : Nat, FnOk P w K mg base CX0 (N + 8) f fd ["_law_bag_here", "_law_deep", "_law_left"] (spShape K C N)
  | 0 => ok_shape1 F b g T L 0 fun j => absurd j.2 (Nat.succ_ne_zero _)
  | N + 1 => ok_shape1 F b g T L (N + 1) fun ⟨M', e⟩ => by
    cases Nat.succ.inj e
    exact ok_shape F b g T L N
end
end TX
namespace TX
open PySem PySem.Spec PyProof.Rows L2
/-! ### _law_all -/
mutual
theorem val_bd : ∀ d : PyData, valD d → sz d ≤ 80000 → bdD d
  | .none, _, _ => trivial
  | .str x, _, h => by
    simp only [sz] at h
    show x.length ≤ 90000
    omega
  | .list es, v, h => by
    simp only [sz] at h
    exact val_bds es v (by omega)
  | .bool _, v, _ => v.elim
  | .int _, v, _ => v.elim
  | .tuple _, v, _ => v.elim
  | .dict _, v, _ => v.elim
theorem val_bds : ∀ ds : List PyData, valAll ds → szAll ds ≤ 80000 → bdAll ds
  | [], _, _ => trivial
  | d :: ds, v, h => by
    simp only [szAll] at h
    exact ⟨val_bd d v.1 (by omega), val_bds ds v.2 (by omega)⟩
end
/-- a value that is drawn -/
structure Vk (d : PyData) : Prop where
  v : valD d
  s : sz d ≤ 500
  z : d.depth ≤ 20
theorem Vk.ask {d : PyData} (h : Vk d) : AskOk d := ⟨h.v, val_bd d h.v (Nat.le_trans h.s (by decide)), Nat.le_trans (nd_sz d h.v) (Nat.le_trans h.s (by decide))⟩
theorem Vk.sh {d : PyData} (h : Vk d) : Sh d := sh_val h.v (Nat.le_trans h.s (by decide)) (Nat.le_trans h.z (by decide))
theorem sz_mem {ds : List PyData} {d : PyData} (h : d ∈ ds) : sz d ≤ szAll ds := by
  induction ds with
  | nil => nomatch h
  | cons e es ih =>
    rcases List.mem_cons.mp h with rfl | h
    · simp only [szAll]
      omega
    · have := ih h
      simp only [szAll]
      omega
theorem Vk.mem {es : List PyData} {d : PyData} (h : Vk (.list es)) (hd : d ∈ es) : Vk d := by
  have h1 := h.s
  have h2 := h.z
  have h3 := sz_mem hd
  have h4 := dep_mem hd
  simp only [sz] at h1
  simp only [PyData.depth] at h2
  exact ⟨valIn h.v hd, by omega, by omega⟩
theorem DpAll.drop {K : PySem.W.Frag} {H : Hp} : ∀ {ds : List PyData} {vs : List V} (n : Nat), DpAll K H vs ds → DpAll K H (vs.drop n) (ds.drop n)
  | _, _, 0, h => h
  | _, _, _ + 1, .nil => .nil
  | _, _, n + 1, .cons _ h => DpAll.drop n h
theorem cut_to (xs : List V) (n : Nat) : cutV xs none (some (n : Int)) = xs.take n := by
  unfold cutV
  have e1 : HT.sIx xs.length 0 none = 0 := rfl
  rw [e1, HT.sIx_nat, Nat.sub_zero, List.drop_zero, ← List.take_eq_take_min]
/-- values at a list that was made since -/
structure La (K : PySem.W.Frag) (H W G : Hp) (L : Addr) (us : List V) (ds : List PyData) (m : Nat) : Prop where
  s : Same H G
  at_ : G L = some (.lst us)
  n : H L = none
  d : DpAll K (ov H W G) us ds
  k : ∀ d ∈ ds, Vk d
  len : us.length ≤ m
section
variable {K : PySem.W.Frag} {H W G G' : Hp} {L p : Addr} {us zs : List V} {ds es : List PyData} {m k : Nat}
theorem La.up (h : La K H W G L us ds m) (s : Same G G') : La K H W G' L us ds m := ⟨h.s.trans s, s _ _ h.at_, h.n, dpAll_same (ov_more s) _ _ h.d, h.k, h.len⟩
theorem fresh_old (s : Same H G) {b : Addr} (h : G b = none) : H b = none := by
  cases e : H b with
  | none => rfl
  | some o => rw [s _ _ e] at h; cases h
theorem La.cat (h : La K H W G L us ds m) (hz : DpAll K (ov H W G) zs es) (hk : ∀ d ∈ es, Vk d) (hl : zs.length ≤ k) (np : G p = none) : La K H W (upd G p (.lst (us ++ zs))) p (us ++ zs) (ds ++ es) (m + k) := by
  have s := same_upd (o := .lst (us ++ zs)) np
  refine ⟨h.s.trans s, upd_same, fresh_old h.s np, dpAll_same (ov_more s) _ _ (DpAll.append h.d hz), fun d hd => ?_, by have := h.len; rw [List.length_append]; omega⟩
  rcases List.mem_append.mp hd with hd | hd
  · exact h.k d hd
  · exact hk d hd
end
def spAll (K : PySem.W.Frag) : Sp := fun vs H Q _ => ∃ (v : V) (d : PyData) (W : Hp), vs = [v] ∧ Same W H ∧ Dp K W v d ∧ Vk d ∧ ∀ (G : Hp) (L : Addr) (us : List V) (ds : List PyData), La K H W G L us ds 44 → Q (.ref L) G
def litA : List PyData := [.none, .str "", .str "a", .str "ab", .str "abc", .str "abcd", .list [], .list [.none], .list [.str ""], .list [.str "a", .none], .list [.list [], .list [.str "ab"]]]
theorem litA_k : ∀ d ∈ litA, Vk d := by
  have la : ∀ {z : Str}, Lt z → z.length ≤ 400 → Vk (.str z) := fun h h2 => ⟨h, by simp only [sz]; omega, by simp [PyData.depth]⟩
  have l1 : Lt "" := by unfold Lt; decide +kernel
  have l2 : Lt "a" := by unfold Lt; decide +kernel
  have l3 : Lt "ab" := by unfold Lt; decide +kernel
  have l4 : Lt "abc" := by unfold Lt; decide +kernel
  have l5 : Lt "abcd" := by unfold Lt; decide +kernel
  have n1 : Str.length "" = 0 := by decide +kernel
  have n2 : Str.length "a" = 1 := by decide +kernel
  have n3 : Str.length "ab" = 2 := by decide +kernel
  intro d hd
  simp only [litA, List.mem_cons, List.not_mem_nil, or_false] at hd
  rcases hd with rfl | rfl | rfl | rfl | rfl | rfl | rfl | rfl | rfl | rfl | rfl
  · exact ⟨trivial, by simp [sz], by simp [PyData.depth]⟩
  · exact la l1 (by decide +kernel)
  · exact la l2 (by decide +kernel)
  · exact la l3 (by decide +kernel)
  · exact la l4 (by decide +kernel)
  · exact la l5 (by decide +kernel)
  · exact ⟨trivial, by simp [sz, szAll], by simp [PyData.depth, PyData.depthAll]⟩
  · exact ⟨⟨trivial, trivial⟩, by simp [sz, szAll], by simp [PyData.depth, PyData.depthAll]⟩
  · exact ⟨⟨l1, trivial⟩, by simp [sz, szAll, n1], by simp [PyData.depth, PyData.depthAll]⟩
  · exact ⟨⟨l2, trivial, trivial⟩, by simp [sz, szAll, n2], by simp [PyData.depth, PyData.depthAll]⟩
  · exact ⟨⟨trivial, ⟨l3, trivial⟩, trivial⟩, by simp [sz, szAll, n3], by simp [PyData.depth, PyData.depthAll]⟩
theorem lits {K : PySem.W.Frag} {H W G : Hp} {L : Addr} {us : List V} {ds : List PyData} {m : Nat} (h : La K H W G L us ds m) {e1 e2 e3 e4 e5 e6 e7 e8 : Addr} {B1 B2 B3 B4 B5 B6 B7 B8 : Hp}
    (n1 : G e1 = none) (h1 : B1 = upd G e1 (.lst [])) (n2 : B1 e2 = none) (h2 : B2 = upd B1 e2 (.lst [.non])) (n3 : B2 e3 = none) (h3 : B3 = upd B2 e3 (.lst [.str ""])) (n4 : B3 e4 = none) (h4 : B4 = upd B3 e4 (.lst [.str "a", .non]))
    (n5 : B4 e5 = none) (h5 : B5 = upd B4 e5 (.lst [])) (n6 : B5 e6 = none) (h6 : B6 = upd B5 e6 (.lst [.str "ab"])) (n7 : B6 e7 = none) (h7 : B7 = upd B6 e7 (.lst [.ref e5, .ref e6])) (n8 : B7 e8 = none) (h8 : B8 = upd B7 e8 (.lst [.non, .str "", .str "a", .str "ab", .str "abc", .str "abcd", .ref e1, .ref e2, .ref e3, .ref e4, .ref e7])) :
    La K H W B8 L us ds m ∧ B8 e8 = some (.lst [.non, .str "", .str "a", .str "ab", .str "abc", .str "abcd", .ref e1, .ref e2, .ref e3, .ref e4, .ref e7]) ∧ DpAll K (ov H W B8) [.non, .str "", .str "a", .str "ab", .str "abc", .str "abcd", .ref e1, .ref e2, .ref e3, .ref e4, .ref e7] litA := by
  have u : ∀ {X Y : Hp} {b : Addr} {o : HO}, X b = none → Y = upd X b o → Same X Y ∧ Y b = some o := fun hn e => by
    rw [e]
    exact ⟨same_upd hn, upd_same⟩
  obtain ⟨s1, a1⟩ := u n1 h1
  obtain ⟨s2, a2⟩ := u n2 h2
  obtain ⟨s3, a3⟩ := u n3 h3
  obtain ⟨s4, a4⟩ := u n4 h4
  obtain ⟨s5, a5⟩ := u n5 h5
  obtain ⟨s6, a6⟩ := u n6 h6
  obtain ⟨s7, a7⟩ := u n7 h7
  obtain ⟨s8, a8⟩ := u n8 h8
  have nw : ∀ {X : Hp} {b : Addr} {o : HO}, Same G X → X b = none → ∀ {Y : Hp}, Y b = some o → ov H W Y b = some o := fun s n Y e => by
    rw [ov_new (fresh_old (h.s.trans s) n)]
    exact e
  have g2 := s1
  have g3 := g2.trans s2
  have g4 := g3.trans s3
  have g5 := g4.trans s4
  have g6 := g5.trans s5
  have g7 := g6.trans s6
  have t7 := s8
  have t6 := s7.trans t7
  have t5 := s6.trans t6
  have t4 := s5.trans t5
  have t3 := s4.trans t4
  have t2 := s3.trans t3
  have t1 := s2.trans t2
  have f1 := nw (Same.refl _) n1 (t1 _ _ a1)
  have f2 := nw g2 n2 (t2 _ _ a2)
  have f3 := nw g3 n3 (t3 _ _ a3)
  have f4 := nw g4 n4 (t4 _ _ a4)
  have f5 := nw g5 n5 (t5 _ _ a5)
  have f6 := nw g6 n6 (t6 _ _ a6)
  have f7 := nw g7 n7 (t7 _ _ a7)
  exact ⟨h.up (s1.trans t1), a8, .cons .non (.cons (.str _) (.cons (.str _) (.cons (.str _) (.cons (.str _) (.cons (.str _) (.cons (.lst (SqL.of f1) .nil) (.cons (.lst (SqL.of f2) (.cons .non .nil)) (.cons (.lst (SqL.of f3) (.cons (.str _) .nil)) (.cons (.lst (SqL.of f4) (.cons (.str _) (.cons .non .nil))) (.cons (.lst (SqL.of f7) (.cons (.lst (SqL.of f5) .nil) (.cons (.lst (SqL.of f6) (.cons (.str _) .nil)) .nil))) .nil))))))))))⟩
section
variable {P : Program} {w : World} {K : PySem.W.Frag} {mg : Str → Option Value} {base : Heap}
theorem scAll : FnScope ["_law_value_here", "_law_found", "_law_one"] ["_law_value_here"] (defScope s__law_all) := ⟨rfl, rfl, rfl, by decide +kernel, rfl, by decide +kernel, by decide +kernel⟩
theorem ok_all {f : Addr} {fd : FuncData} (F : Fun K "_law_all" "_law_all" s__law_all f fd) (T : Nm mg) : FnOk P w K mg base CX0 1 f fd ["_law_value_here"] (spAll K) := by
  refine F.ok scAll (fun vs H Q E h => ?_) (fun cdv A outer s H vs Q E hr h => ?_)
  · obtain ⟨v, d, W, rfl, _⟩ := h
    rfl
  · obtain ⟨v, d, W, rfl, sW, hd, hk, q⟩ := h
    refine ⟨_, C8.pss_cut (ps_set (i := 1) scAll.nd rfl (.inl rfl) (pe_op op_cat (pe_lst (pa_cons (pv 0) pa_nil)) (pe_ifExp (pt_val (pe_callB call_isi (by rfl) T.isi (by decide +kernel) (pa_cons (pv 0) (pa_cons (pe_bltn (v := .ty "list") (by rfl) T.lst (by decide +kernel) rfl) pa_nil)))) (pe_slice sl_list (pv 0) po_none (po_some pe_int)) (pe_lst pa_nil)))) <|
      pss_cons (ps_for PassesOwn.never rfl (pi_list (pe_callTy call_list_of (by rfl) T.lst (by decide +kernel) (pa_cons (pe_slice sl_list (pv 1) (po_some pe_int) po_none) pa_nil))) (pg_name (i := 2) scAll.nd rfl (.inl rfl)) (
        pss_one (ps_if (pt_val (pe_callB call_isi (by rfl) T.isi (by decide +kernel) (pa_cons (pv 2) (pa_cons (pe_bltn (v := .ty "list") (by rfl) T.lst (by decide +kernel) rfl) pa_nil)))) (pss_one (ps_set (i := 1) scAll.nd rfl (.inl rfl) (pe_op op_cat (pv 1) (pe_slice sl_list (pv 2) po_none (po_some pe_int))))) pss_nil))) <|
      pss_one (ps_ret (pe_op op_cat (pv 1) (pe_lst (pa_cons pe_non (pa_cons pe_str (pa_cons pe_str (pa_cons pe_str (pa_cons pe_str (pa_cons pe_str (pa_cons (pe_lst pa_nil) (pa_cons (pe_lst (pa_cons pe_non pa_nil)) (pa_cons (pe_lst (pa_cons pe_str pa_nil)) (pa_cons (pe_lst (pa_cons pe_str (pa_cons pe_non pa_nil))) (pa_cons (pe_lst (pa_cons (pe_lst pa_nil) (pa_cons (pe_lst (pa_cons pe_str pa_nil)) pa_nil))) pa_nil)))))))))))))), ?_⟩
    have fit : ∀ {n : Nat}, n ≤ 20000 → n ≤ sizeLine := fun h => Nat.le_trans h (by decide)
    refine ⟨fun σ' G' => ∃ (L : Addr) (us : List V) (ds : List PyData), σ' = [some v, some (.ref L), none] ∧ La K H W G' L us ds 9, ?_, ?_⟩
    · refine ⟨_, rfl, (by show 1 ≤ sizeLine; decide), fun L1 n1 => ?_⟩
      have s1 := same_upd (o := .lst [v]) n1
      have l1 : La K H W (upd H L1 (.lst [v])) L1 [v] [d] 1 := ⟨s1, upd_same, n1, .cons (dp_same (ov_sub sW) _ _ hd) .nil, fun e he => by rw [List.mem_singleton.mp he]; exact hk, Nat.le_refl _⟩
      generalize upd H L1 (.lst [v]) = G1 at l1
      have sG : Same W G1 := sW.trans l1.s
      have ty := dp_ty (dp_same sG _ _ hd)
      refine ⟨_, rfl, v, .ty "list", _, .type "list", _, rfl, .ty _, ty, kitL d K, _, rfl, ?_⟩
      have vd := hk.v
      cases hd with
      | non => exact iteF ⟨Nat.zero_le _, fun e n => ⟨L1, e, [.non], [], rfl, rfl, (same_upd n) _ _ l1.at_, upd_same, fit (by decide), fun p np => ⟨p, _, _, rfl, ((l1.up (same_upd n)).cat .nil (fun _ z => nomatch z) (Nat.zero_le 8) np)⟩⟩⟩
      | str x => exact iteF ⟨Nat.zero_le _, fun e n => ⟨L1, e, [.str x], [], rfl, rfl, (same_upd n) _ _ l1.at_, upd_same, fit (show 1 + 0 ≤ 20000 by decide), fun p np => ⟨p, _, _, rfl, ((l1.up (same_upd n)).cat .nil (fun _ z => nomatch z) (Nat.zero_le 8) np)⟩⟩⟩
      | @lst va xs es hS hA =>
        have c8 : cutV xs none (some 8) = xs.take 8 := cut_to xs 8
        refine iteT ⟨_, rfl, _, rfl, va, xs, rfl, sG.seq hS, fun e n => ⟨L1, e, [.ref va], _, rfl, rfl, (same_upd n) _ _ l1.at_, upd_same, ?_, fun p np => ?_⟩⟩
        · rw [c8]
          exact fit (show 1 + (xs.take 8).length ≤ 20000 by rw [List.length_take]; omega)
        · rw [c8] at np ⊢
          refine ⟨p, _, _, rfl, (l1.up (same_upd n)).cat (dpAll_same ((ov_sub sW).trans (ov_more (same_upd n))) _ _ (DpAll.take 8 hA)) (fun e he => hk.mem (List.mem_of_mem_take he)) (k := 8) (by rw [List.length_take]; omega) np⟩
      | _ => exact vd.elim
    rintro σ G1 ⟨L, us, ds, rfl, l1⟩
    have c1 : cutV us (some 1) none = us.drop 1 := cut_from us 1
    have hdr : DpAll K (ov H W G1) (us.drop 1) (ds.drop 1) := DpAll.drop 1 l1.d
    have kdr : ∀ e ∈ ds.drop 1, Vk e := fun e he => l1.k e (List.mem_of_mem_drop he)
    have ldr : (us.drop 1).length ≤ 8 := by have := l1.len; rw [List.length_drop]; omega
    refine ⟨_, rfl, _, rfl, L, us, rfl, SqL.of l1.at_, fun p1 np1 => ⟨p1, _, rfl, .inl (SqL.of upd_same), fun p2 np2 => ⟨p2, rfl, ⟨_, SqL.of upd_same⟩, ?_⟩⟩⟩
    rw [c1] at np2 ⊢
    generalize us.drop 1 = xs at hdr ldr np2 ⊢
    generalize ds.drop 1 = es at hdr kdr
    have l2 := (l1.up (same_upd np1)).up (same_upd (o := .lst xs) np2)
    have hp2 : (upd (upd G1 p1 (.lst xs)) p2 (.lst xs)) p2 = some (.lst xs) := upd_same
    have s12 : Same G1 (upd (upd G1 p1 (.lst xs)) p2 (.lst xs)) := (same_upd np1).trans (same_upd np2)
    generalize upd (upd G1 p1 (.lst xs)) p2 (.lst xs) = G2 at l2 hp2 s12 ⊢
    have hxs : DpAll K (ov H W G2) xs es := dpAll_same (ov_more s12) _ _ hdr
    clear l1 hdr np1 np2 s12
    refine for_list (K := K) (a := p2) (xs := xs) (fun m σ G' => ∃ (L : Addr) (us : List V) (ds : List PyData) (z : Option V), σ = [some v, some (.ref L), z] ∧ La K H W G' L us ds (9 + 3 * m) ∧ Same G2 G') ⟨L, us, ds, none, rfl, l2, Same.refl _⟩ (fun m σ G' hm ⟨_, _, _, _, _, _, sm⟩ => SqL.of (sm _ _ hp2)) ?_ ?_
    · rintro m x σ G' hx ⟨L', us', ds', z, rfl, l3, sm⟩
      obtain ⟨e, he, hxe⟩ := DpAll.at_ hxs hx
      have ke := kdr e (List.mem_of_getElem? he)
      have hO : Dp K (ov H W G') x e := dp_same (ov_more sm) _ _ hxe
      have hG : Dp K G' x e := dp_same (ov_same sW l3.s) _ _ hO
      have ty := dp_ty hG
      refine ⟨_, rfl, x, .ty "list", _, .type "list", _, rfl, .ty _, ty, kitL e K, _, rfl, ?_⟩
      have vd := ke.v
      cases hO with
      | non => exact iteF ⟨L', us', ds', _, rfl, ⟨l3.s, l3.at_, l3.n, l3.d, l3.k, by have := l3.len; omega⟩, sm⟩
      | str x => exact iteF ⟨L', us', ds', _, rfl, ⟨l3.s, l3.at_, l3.n, l3.d, l3.k, by have := l3.len; omega⟩, sm⟩
      | @lst va ys es2 hS hA =>
        have c3 : cutV ys none (some 3) = ys.take 3 := cut_to ys 3
        refine iteT ⟨_, rfl, _, rfl, _, rfl, va, ys, rfl, (ov_same sW l3.s).seq hS, fun e1 n1 => ⟨L', e1, us', _, rfl, rfl, (same_upd n1) _ _ l3.at_, upd_same, ?_, fun q1 nq => ?_⟩⟩
        · rw [c3]
          exact fit (show us'.length + (ys.take 3).length ≤ 20000 by have := l3.len; have := (List.getElem?_eq_some_iff.mp hx).1; rw [List.length_take]; omega)
        · rw [c3] at nq ⊢
          refine ⟨q1, _, _, _, rfl, ((l3.up (same_upd n1)).cat (dpAll_same (ov_more (same_upd n1)) _ _ (DpAll.take 3 hA)) (fun e he => ke.mem (List.mem_of_mem_take he)) (k := 3) (by rw [List.length_take]; omega) nq), sm.trans ((same_upd n1).trans (same_upd nq))⟩
      | _ => exact vd.elim
    rintro σ G3 ⟨L3, us3, ds3, z, rfl, l3, sm⟩
    refine ⟨_, rfl, ⟨Nat.zero_le _, fun e1 n1 => ⟨(by show 1 ≤ sizeLine; decide), fun e2 n2 => ⟨(by show 1 ≤ sizeLine; decide), fun e3 n3 => ⟨(by show 2 ≤ sizeLine; decide), fun e4 n4 => ⟨Nat.zero_le _, fun e5 n5 => ⟨(by show 1 ≤ sizeLine; decide), fun e6 n6 => ⟨(by show 2 ≤ sizeLine; decide), fun e7 n7 => ⟨(by show 11 ≤ sizeLine; decide), fun e8 n8 => ?_⟩⟩⟩⟩⟩⟩⟩⟩⟩
    have lx : xs.length ≤ 8 := ldr
    have l3' : La K H W G3 L3 us3 ds3 33 := ⟨l3.s, l3.at_, l3.n, l3.d, l3.k, by have := l3.len; omega⟩
    obtain ⟨l9, at8, hd8⟩ := lits (K := K) l3' n1 rfl n2 rfl n3 rfl n4 rfl n5 rfl n6 rfl n7 rfl n8 rfl
    refine ⟨L3, e8, us3, _, rfl, rfl, l9.at_, at8, fit (show us3.length + 11 ≤ 20000 by have := l3'.len; omega), fun p np => ?_⟩
    exact q _ p _ _ (l9.cat hd8 litA_k (k := 11) (Nat.le_refl _) np)
end
end TX
namespace TX
open PySem PySem.Spec PyProof.Rows L2
/-! ### what the law asks again and again -/
def inT (K : PySem.W.Frag) (C : Addr) : R2 := fun y x H Q => ∃ p dx fs, x = .ref p ∧ H p = some (.ins C dx fs) ∧ spConS K C [.ref p, y] H (fun v H' => ∃ b, v = .bl b ∧ Q (.bl b) H') E0
section
variable {K : PySem.W.Frag} {C : Addr} {H Hv G G' W V0 : Hp} {p l D : Addr} {n lf j : Nat} {ws : List V} {ds : List PyData}
theorem newp_ov (k : K2 H G p l n) : Same (newp G G') (ov H Hv G') := fun b o e => by
  cases hg : G b with
  | some u =>
    rw [newp_old hg] at e
    cases e
  | none =>
    rw [newp_at hg] at e
    rw [ov_new (k.fresh hg)]
    exact e
/-- the list that is made of drawn values, at D -/
structure Dq (K : PySem.W.Frag) (H Hv G : Hp) (p l : Addr) (lf : Nat) (D : Addr) (ws : List V) (ds : List PyData) (j : Nat) : Prop where
  k2 : K2 H G p l lf
  at_ : G D = some (.lst ws)
  d : DpAll K (ov H Hv (L2.del G D)) ws ds
  k : ∀ d ∈ ds, Vk d
  len : ws.length = j
theorem del_some {G : Hp} {D b : Addr} {o : HO} (e : L2.del G D b = some o) : b ≠ D ∧ G b = some o := by
  have bD : b ≠ D := fun z => by
    rw [z, del_same] at e
    cases e
  rw [del_ne bD] at e
  exact ⟨bD, e⟩
theorem K2.set (k : K2 H G p l n) (nD : H D = none) (hp : H p ≠ none) (hl : H l ≠ none) (o : HO) : K2 H (upd G D o) p l n := by
  have dp : p ≠ D := fun z => hp (z ▸ nD)
  have dl : l ≠ D := fun z => hl (z ▸ nD)
  obtain ⟨x, y, e⟩ := k.b
  refine ⟨fun b o h1 h2 e => ?_, ⟨x, y, by rw [upd_ne dp]; exact e⟩, by rw [upd_ne dl]; exact k.f⟩
  rw [upd_ne (ne_of_none e nD)]
  exact k.k b o h1 h2 e
theorem Dq.more {v : V} {d : PyData} (h : Dq K H Hv G p l lf D ws ds j) (vw : Vw H Hv p l) (nD : H D = none) (kb : Kb G G' p) (hv : Dp K (newp G G') v d) (hk : Vk d) :
    G' D = some (.lst ws) ∧ Dq K H Hv (upd G' D (.lst (ws ++ [v]))) p l lf D (ws ++ [v]) (ds ++ [d]) (j + 1) := by
  have dp : D ≠ p := fun z => vw.hp (z ▸ nD)
  have s1 : Same (ov H Hv (L2.del G D)) (ov H Hv (L2.del (upd G' D (.lst (ws ++ [v]))) D)) := fun b o e => by
    cases hb : H b with
    | some u =>
      rw [ov_old hb] at e ⊢
      exact e
    | none =>
      rw [ov_new hb] at e ⊢
      obtain ⟨bD, e⟩ := del_some e
      rw [del_ne bD, upd_ne bD]
      exact kb.k b o (fun z => vw.hp (z ▸ hb)) e
  have s2 : Same (newp G G') (ov H Hv (L2.del (upd G' D (.lst (ws ++ [v]))) D)) := fun b o e => by
    cases hg : G b with
    | some u =>
      rw [newp_old hg] at e
      cases e
    | none =>
      rw [newp_at hg] at e
      have bD : b ≠ D := fun z => by
        rw [z, h.at_] at hg
        cases hg
      rw [ov_new (h.k2.fresh hg), del_ne bD, upd_ne bD]
      exact e
  refine ⟨kb.k D _ dp h.at_, (h.k2.kb kb).set nD vw.hp vw.hl _, upd_same, DpAll.append (dpAll_same s1 _ _ h.d) (.cons (dp_same s2 _ _ hv) .nil), fun e he => ?_, by rw [List.length_append, h.len]; rfl⟩
  rcases List.mem_append.mp he with z | z
  · exact h.k e z
  · rw [List.mem_singleton.mp z]
    exact hk
theorem ov_less : Same (ov H Hv (L2.del G D)) (ov H Hv G) := fun b o e => by
  cases hb : H b with
  | some u =>
    rw [ov_old hb] at e ⊢
    exact e
  | none =>
    rw [ov_new hb] at e ⊢
    exact (del_some e).2
theorem ov_back {G0 G1 G2 : Hp} (sW : Same W G0) (s : Same G0 G1) : Same (ov G1 W G2) (ov G0 W G2) := fun b o e => by
  cases h1 : G1 b with
  | none =>
    have h0 := fresh_old s h1
    rw [ov_new h1] at e
    rw [ov_new h0]
    exact e
  | some u =>
    rw [ov_old h1] at e
    rw [ov_old (sW _ _ e)]
    exact e
theorem sh_bools (bs : List Bool) (h : bs.length ≤ 100) : Sh (.list (bs.map PyData.bool)) := by
  have h1 : ∀ bs : List Bool, okAll (bs.map PyData.bool) ∧ PyData.bulkAll (bs.map PyData.bool) ≤ 2 * bs.length ∧ PyData.depthAll (bs.map PyData.bool) = 0 := by
    intro bs
    induction bs with
    | nil => exact ⟨trivial, by simp [PyData.bulkAll], rfl⟩
    | cons b bs ih =>
      refine ⟨⟨trivial, ih.1⟩, ?_, by simp only [List.map_cons, PyData.depthAll, PyData.depth, ih.2.2]; rfl⟩
      have := ih.2.1
      simp only [List.map_cons, PyData.bulkAll, PyData.bulk, List.length_cons]
      omega
  obtain ⟨a, b, c⟩ := h1 bs
  refine sh_of a ?_ ?_
  · simp only [PyData.bulk]
    omega
  · simp only [PyData.depth, c]
    omega
theorem bools_dp {K : PySem.W.Frag} {H : Hp} : ∀ bs : List Bool, DpAll K H (bs.map V.bl) (bs.map PyData.bool)
  | [] => .nil
  | b :: bs => .cons (.bl b) (bools_dp bs)
theorem bools_shaped (bs : List Bool) : SeqAt.shaped (.list (bs.map PyData.bool)) = true ∧ PyData.eqv (.list (bs.map PyData.bool)) (.list (bs.map PyData.bool)) = true := by
  have h1 : ∀ bs : List Bool, PyData.canLayAll0 (bs.map PyData.bool) = true ∧ PyData.depthAll (bs.map PyData.bool) = 0 := by
    intro bs
    induction bs with
    | nil => exact ⟨rfl, rfl⟩
    | cons b bs ih => exact ⟨by simp only [List.map_cons, PyData.canLayAll0, PyData.canLay0, ih.1, Bool.and_self], by simp only [List.map_cons, PyData.depthAll, PyData.depth, ih.2]; rfl⟩
  obtain ⟨a, b⟩ := h1 bs
  have cl : (PyData.list (bs.map PyData.bool)).canLay0 = true := by simp only [PyData.canLay0, a]
  refine ⟨?_, SeqAt.eqv_refl _ cl⟩
  unfold SeqAt.shaped
  rw [cl, Bool.true_and]
  exact decide_eq_true (by simp only [PyData.depth, b]; omega)
theorem neF {v : V} {A B : Prop} (b : B) : if (!decide (v = v)) = true then A else B := by
  rw [decide_eq_true rfl]
  exact iteF b
/-- what a shape answers -/
theorem con_at {x : Addr} {gs : List Sg} {nd : Nd} {v : V} {d : PyData} {Q : VK} (h : ShAt K W C x gs) (he : ShNd gs nd) (s : Same W G) (hd : Dp K W v d) (hb : bdD d) (hn : TX.nd d ≤ 50000)
    (q1 : valD d → ∀ G', Same G G' → Q (.bl (nd.has d)) G') (q2 : ¬ valD d → ∀ G', Same G G' → Q (.bl false) G') : inT K C v (.ref x) G Q := by
  obtain ⟨g0, g, rfl, hp⟩ := he
  have h1 := h
  obtain ⟨dx, rc, pl, aW, aA, aR, aL, as, ak, ws, ar, lv, hx, _⟩ := h
  refine ⟨x, dx, _, rfl, s _ _ hx, x, g0, g, v, d, W, rfl, h1, s, hd, hb, hn, fun vd G' sG => ?_, fun nv G' sG => ⟨_, rfl, q2 nv G' sG⟩⟩
  rw [hp d vd hb]
  exact ⟨_, rfl, q1 vd G' sG⟩
/-- one answer for each of the values -/
theorem lc_ans {te : TE} {b : PyData → Bool} {L D : Addr} {us : List V} {s0 s1 s2 s3 s4 s5 s6 s7 s9 s10 s11 s12 s13 s14 : Option V} {Qd : Hp → Prop} (hL : G L = some (.lst us)) (hd : DpAll K V0 us ds) (hk : ∀ d ∈ ds, Vk d) (hl : us.length ≤ 100) (nD : G D = none)
    (hte : ∀ (v : V) (d : PyData) (G' : Hp) (Q' : VK), Same G G' → Dp K V0 v d → Vk d → (∀ G'', Same G' G'' → Q' (.bl (b d)) G'') → te [s0, s1, s2, s3, s4, s5, s6, s7, some (.ref L), s9, s10, s11, s12, s13, some v] G' Q')
    (q : ∀ (G' : Hp), Same G G' → G' D = some (.lst ((ds.map b).map V.bl)) → Qd G') :
    ∃ W : Nat → Nat → Hp → Prop, (∃ m : Nat, W 0 m (upd G D (.lst []))) ∧ ∀ (i m : Nat) (H : Hp), W i m H → (Itl K L).stop i H ∧ Qd H ∨ (Itl K L).go i H ∧ ∃ Nx : Hp → Prop, (∀ H', Nx H' → ∃ m', m' < m ∧ W (i + 1) m' H') ∧ ∀ (x : V) (H' : Hp), (Itl K L).yld i H x H' →
      gName 14 x (wipe [s0, s1, s2, s3, s4, s5, s6, s7, some (.ref L), s9, s10, s11, s12, s13, s14] [14]) H' fun σ2 H2 => wipe σ2 [14] = wipe [s0, s1, s2, s3, s4, s5, s6, s7, some (.ref L), s9, s10, s11, s12, s13, s14] [14] ∧ tYes σ2 H2 fun b H3 => if b = true then te σ2 H3 fun y H4 => ∃ acc, H4 D = some (.lst acc) ∧ acc.length < sizeLine ∧ Nx (upd H4 D (.lst (acc ++ [y]))) else Nx H3 := by
  have lds : ds.length = us.length := (DpAll.length hd).symm
  refine lc_list (K := K) (a := L) (xs := us) (g := gName 14) (tt := tYes) (te := te) (vs := [14]) (σ := [s0, s1, s2, s3, s4, s5, s6, s7, some (.ref L), s9, s10, s11, s12, s13, s14]) (fun m G' => G' D = some (.lst (((ds.take m).map b).map V.bl)) ∧ Same G G') ⟨upd_same, same_upd nD⟩ (fun m G' hm ⟨_, sm⟩ => SqL.of (sm _ _ hL)) ?_ ?_
  · rintro m v G' hv ⟨hD, sm⟩
    obtain ⟨d, hdm, hvd⟩ := DpAll.at_ hd hv
    have kv := hk d (List.mem_of_getElem? hdm)
    have ml := (List.getElem?_eq_some_iff.mp hv).1
    refine ⟨rfl, hte v d G' _ sm hvd kv fun H1 s1 => ⟨_, s1 _ _ hD, ?_, ?_, same_fresh nD (sm.trans s1)⟩⟩
    · simp only [List.length_map, List.length_take]
      exact Nat.lt_of_le_of_lt (show min m ds.length ≤ 100 by omega) (by decide)
    · rw [upd_same, List.take_add_one, hdm]
      simp only [List.map_append, Option.toList_some, List.map_cons, List.map_nil]
  · rintro G' ⟨hD, sm⟩
    rw [← lds, List.take_length] at hD
    exact q G' sm hD
end
end TX
namespace TX
open PySem PySem.Spec PyProof.Rows L2
/-! ### the law -/
abbrev NL : List Str := ["_law_script", "_law_at", "_law_bag_here", "_law_shape_here", "_law_node", "_law_other", "_law_beside", "_law_turn", "_law_values", "_law_dues", "_law_made", "_law_mark", "_law_due", "_law_thing", "_law_value_here"]
def thD : List PyData := [.bool true, .int 0, .tuple [], .tuple [.str "a"], .str "A", .list [.str "a", .int 1], .list [.list [.none, .tuple []]]]
theorem thD_no : ∀ d ∈ thD, ¬ valD d ∧ bdD d ∧ nd d ≤ 50000 := by
  have l1 : Str.length "a" ≤ 90000 := by decide +kernel
  have l2 : Str.length "A" ≤ 90000 := by decide +kernel
  have nA : ¬ Lt "A" := by unfold Lt; decide +kernel
  intro d hd
  simp only [thD, List.mem_cons, List.not_mem_nil, or_false] at hd
  rcases hd with rfl | rfl | rfl | rfl | rfl | rfl | rfl
  · exact ⟨fun z => z, by simp [bdD], by simp [nd]⟩
  · exact ⟨fun z => z, by simp [bdD], by simp [nd]⟩
  · exact ⟨fun z => z, by simp [bdD, bdAll], by simp [nd, ndAll]⟩
  · exact ⟨fun z => z, by simp [bdD, bdAll, l1], by simp [nd, ndAll]⟩
  · exact ⟨nA, l2, by simp [nd]⟩
  · exact ⟨fun z => z.2.1, by simp [bdD, bdAll, l1], by simp [nd, ndAll]⟩
  · exact ⟨fun z => z.1.2.1, by simp [bdD, bdAll], by simp [nd, ndAll]⟩

theorem things {K : PySem.W.Frag} {G : Hp} {e1 e2 e3 e4 e5 e6 e7 : Addr} {B1 B2 B3 B4 B5 B6 B7 : Hp}
    (n1 : G e1 = none) (h1 : B1 = upd G e1 (.tup [])) (n2 : B1 e2 = none) (h2 : B2 = upd B1 e2 (.tup [.str "a"])) (n3 : B2 e3 = none) (h3 : B3 = upd B2 e3 (.lst [.str "a", .int 1])) (n4 : B3 e4 = none) (h4 : B4 = upd B3 e4 (.tup []))
    (n5 : B4 e5 = none) (h5 : B5 = upd B4 e5 (.lst [.non, .ref e4])) (n6 : B5 e6 = none) (h6 : B6 = upd B5 e6 (.lst [.ref e5])) (n7 : B6 e7 = none) (h7 : B7 = upd B6 e7 (.lst [.bl true, .int 0, .ref e1, .ref e2, .str "A", .ref e3, .ref e6])) :
    Same G B7 ∧ B7 e7 = some (.lst [.bl true, .int 0, .ref e1, .ref e2, .str "A", .ref e3, .ref e6]) ∧ DpAll K B7 [.bl true, .int 0, .ref e1, .ref e2, .str "A", .ref e3, .ref e6] thD := by
  have u : ∀ {X Y : Hp} {b : Addr} {o : HO}, X b = none → Y = upd X b o → Same X Y ∧ Y b = some o := fun hn e => by
    rw [e]
    exact ⟨same_upd hn, upd_same⟩
  obtain ⟨s1, a1⟩ := u n1 h1
  obtain ⟨s2, a2⟩ := u n2 h2
  obtain ⟨s3, a3⟩ := u n3 h3
  obtain ⟨s4, a4⟩ := u n4 h4
  obtain ⟨s5, a5⟩ := u n5 h5
  obtain ⟨s6, a6⟩ := u n6 h6
  obtain ⟨s7, a7⟩ := u n7 h7
  have t6 := s7
  have t5 := s6.trans t6
  have t4 := s5.trans t5
  have t3 := s4.trans t4
  have t2 := s3.trans t3
  have t1 := s2.trans t2
  exact ⟨s1.trans t1, a7, .cons (.bl _) (.cons (.int _) (.cons (.tup (SqT.of (t1 _ _ a1)) .nil) (.cons (.tup (SqT.of (t2 _ _ a2)) (.cons (.str _) .nil)) (.cons (.str _) (.cons (.lst (SqL.of (t3 _ _ a3)) (.cons (.str _) (.cons (.int _) .nil))) (.cons (.lst (SqL.of (t6 _ _ a6)) (.cons (.lst (SqL.of (t5 _ _ a5)) (.cons .non (.cons (.tup (SqT.of (t4 _ _ a4)) .nil) .nil))) .nil)) .nil))))))⟩

structure Lw (P : Program) (w : World) (K : PySem.W.Frag) (mg : Str → Option Value) (base : Heap) (C : Addr) (a1 a3 a4 a5 a6 a7 a8 i1 i2 i3 i4 i9 : Addr) (f1 f3 f4 f5 f6 f7 f8 e1 e2 e3 e4 e9 : FuncData) : Prop where
  G1 : FnOk P w K mg base CX0 1 a1 f1 ["_law_script", "_law_at"] (spBag K)
  G3 : FnOk P w K mg base CX0 7 a3 f3 ["_law_bag_here", "_law_deep", "_law_room"] (spValue K 4)
  G4 : FnOk P w K mg base CX0 8 a4 f4 ["_law_bag_here"] (spGreat K)
  G5 : FnOk P w K mg base CX0 7 a5 f5 ["_law_bag_here"] (spLeafS K C)
  G6 : FnOk P w K mg base CX0 31 a6 f6 ["_law_node", "_law_value_here"] (spHas K 30)
  G7 : FnOk P w K mg base CX0 11 a7 f7 ["_law_bag_here", "_law_deep", "_law_left"] (spShape K C 3)
  G8 : FnOk P w K mg base CX0 1 a8 f8 ["_law_value_here"] (spAll K)
  I9 : FnOk P w K mg base CX0 4 i9 e9 ["self", "x"] (spConS K C)
  I1 : FnOk P w K mg base CX0 6 i1 e1 ["self"] (spInv K C)
  I2 : FnOk P w K mg base CX0 6 i2 e2 ["self", "other"] (spBin K C (fun a b => a || b))
  I3 : FnOk P w K mg base CX0 6 i3 e3 ["self", "other"] (spBin K C (fun a b => a && b))
  I4 : FnOk P w K mg base CX0 6 i4 e4 ["self", "other"] (spBin K C (fun a b => a && !b))
  b1 : Binds K f1 ["_law_script", "_law_at"] []
  b3 : Binds K f3 ["_law_bag_here", "_law_deep", "_law_room"] []
  b4 : Binds K f4 ["_law_bag_here"] []
  b5 : Binds K f5 ["_law_bag_here"] []
  b6 : Binds K f6 ["_law_node", "_law_value_here"] []
  b7 : Binds K f7 ["_law_bag_here", "_law_deep", "_law_left"] []
  b8 : Binds K f8 ["_law_value_here"] []
  c9 : Binds K e9 ["self", "x"] []
  d1 : Binds K e1 ["self"] []
  d2 : Binds K e2 ["self", "other"] []
  d3 : Binds K e3 ["self", "other"] []
  d4 : Binds K e4 ["self", "other"] []
  g1 : mg "_law_bag" = some (.ref a1)
  g3 : mg "_law_value" = some (.ref a3)
  g4 : mg "_law_great" = some (.ref a4)
  g5 : mg "_law_leaf" = some (.ref a5)
  g6 : mg "_law_has" = some (.ref a6)
  g7 : mg "_law_shape" = some (.ref a7)
  g8 : mg "_law_all" = some (.ref a8)
  k1 : PySem.W.keepIn K (.ref a1) = true
  k3 : PySem.W.keepIn K (.ref a3) = true
  k4 : PySem.W.keepIn K (.ref a4) = true
  k5 : PySem.W.keepIn K (.ref a5) = true
  k6 : PySem.W.keepIn K (.ref a6) = true
  k7 : PySem.W.keepIn K (.ref a7) = true
  k8 : PySem.W.keepIn K (.ref a8) = true
  m9 : Meth K C "__contains__" i9
  n1 : Meth K C "__invert__" i1
  n2 : Meth K C "__or__" i2
  n3 : Meth K C "__and__" i3
  n4 : Meth K C "__sub__" i4
  sf : PySem.W.selfFirst K C = true
structure Ml (mg : Str → Option Value) : Prop where
  max : mg "max" = none
  repr : mg "repr" = none
def spLaw (K : PySem.W.Frag) : Sp := fun vs H Q _ => ∃ (a : Addr) (ns : List Int), vs = [.ref a] ∧ SqL K H a (ns.map V.int) ∧ ns.length ≤ 63 ∧ ∀ H', Q (.bl true) H'
section
variable {P : Program} {w : World} {K : PySem.W.Frag} {mg : Str → Option Value} {base : Heap} {C : Addr}
theorem scLaw : FnScope NL ["_law_script"] (defScope sLaw) := ⟨rfl, rfl, rfl, by decide +kernel, rfl, by decide +kernel, by decide +kernel⟩
/-- what stays while a turn of the law asks -/
structure Fc (K : PySem.W.Frag) (C : Addr) (G : Hp) (x : Addr) (u : V) (gs : List Sg) (n : Nd) (y : Addr) (u2 : V) (gs2 : List Sg) (n2 : Nd) (L : Addr) (us : List V) (ds : List PyData) : Prop where
  shx : ShAt K G C x gs
  dx : Dp K G u n.dat
  ex : ShNd gs n
  shy : ShAt K G C y gs2
  dy : Dp K G u2 n2.dat
  ey : ShNd gs2 n2
  hL : G L = some (.lst us)
  hd : DpAll K G us ds
  hk : ∀ d ∈ ds, Vk d
  hl : us.length ≤ 100
  l1 : gs.length ≤ 100
  l2 : gs2.length ≤ 100
  as : asksN gs + asksN gs2 ≤ 8
  n1 : n.deep ≤ 3
  n2 : n2.deep ≤ 3
structure Md (K : PySem.W.Frag) (C : Addr) (G : Hp) (n n2 : Nd) (t : V) : Prop where
  ex : ∃ (T x : Addr) (mk : Str) (gs : List Sg) (m : Nd), t = .ref T ∧ G T = some (.tup [.ref x, .str mk]) ∧ ShAt K G C x gs ∧ ShNd gs m ∧ m.dat = .tuple [.str mk, n.dat, n2.dat] ∧ m.deep ≤ 4
section
variable {G G' : Hp} {x y L : Addr} {u u2 : V} {gs gs2 : List Sg} {n n2 m : Nd} {us : List V} {ds : List PyData}
theorem Fc.up (h : Fc K C G x u gs n y u2 gs2 n2 L us ds) (s : Same G G') : Fc K C G' x u gs n y u2 gs2 n2 L us ds := ⟨h.shx.up s, dp_same s _ _ h.dx, h.ex, h.shy.up s, dp_same s _ _ h.dy, h.ey, s _ _ h.hL, dpAll_same s _ _ h.hd, h.hk, h.hl, h.l1, h.l2, h.as, h.n1, h.n2⟩
theorem Md.up {t : V} (h : Md K C G n n2 t) (s : Same G G') : Md K C G' n n2 t := by
  obtain ⟨T, x, mk, gs, m, e, a, b, c, d⟩ := h.ex
  exact ⟨T, x, mk, gs, m, e, s _ _ a, b.up s, c, d⟩
theorem Md.mk2 {x' T : Addr} {mk : Str} {gs' : List Sg} (sh : ShAt K G C x' gs') (nT : G T = none) (e : ShNd gs' m) (ed : m.dat = .tuple [.str mk, n.dat, n2.dat]) (hd : m.deep ≤ 4) : Md K C (upd G T (.tup [.ref x', .str mk])) n n2 (.ref T) :=
  ⟨T, x', mk, gs', m, rfl, upd_same, sh.up (same_upd nT), e, ed, hd⟩
theorem op_nd {gs' : List Sg} {op : Bool → Bool → Bool} (e1 : ShNd gs n) (e2 : ShNd gs2 n2) (hne : gs' ≠ []) (hp : lastP gs' = fun d => op (lastP gs d) (lastP gs2 d)) (hm : ∀ d, m.has d = op (n.has d) (n2.has d)) : ShNd gs' m := ShNd.of hne fun d v b => by
  rw [hp, hm d, ← e1.last d v b, ← e2.last d v b]
theorem has_at {node v : V} {d : PyData} {Q : VK} (hn : Dp K G node m.dat) (hd : Dp K G v d) (kv : Vk d) (h4 : m.deep ≤ 4) (q : ∀ G', Same G G' → Q (.bl (m.has d)) G') : spHas K 30 [node, v] G Q E0 :=
  ⟨node, m, v, d, rfl, hn, hd, kv.ask, by have := kv.z; omega, q⟩
end

theorem ok_law {f a1 a3 a4 a5 a6 a7 a8 i1 i2 i3 i4 i9 : Addr} {fd f1 f3 f4 f5 f6 f7 f8 e1 e2 e3 e4 e9 : FuncData} (F : Fun K "law" "law" sLaw f fd) (M : Ml mg) (B : Nb mg) (Y : Nv mg) (L : Lw P w K mg base C a1 a3 a4 a5 a6 a7 a8 i1 i2 i3 i4 i9 f1 f3 f4 f5 f6 f7 f8 e1 e2 e3 e4 e9) :
    FnG P w K mg base CX0 32 f fd ["_law_script"] (spLaw K) := by
  refine fng_of F scLaw (fun vs H Q E h => ?_) (fun cdv A outer s H vs Q E hgd hr h => ?_)
  · obtain ⟨a, ns, rfl, _⟩ := h
    rfl
  · obtain ⟨a0, ns, rfl, hS, hn, q⟩ := h
    have hu := hr.units
    have r1 : Room 1 _ := hr.mono (by decide)
    have r4 : Room 4 _ := hr.mono (by decide)
    have r6 : Room 6 _ := hr.mono (by decide)
    have r7 : Room 7 _ := hr.mono (by decide)
    have r8 : Room 8 _ := hr.mono (by decide)
    have r11 : Room 11 _ := hr.mono (by decide)
    have r31 : Room 31 _ := hr.mono (by decide)
    refine ⟨_, pss_cons (ps_for PassesOwn.never rfl (pi_range1 (by rfl) Y.range (pa_cons (pe_callB (call_max2 rfl) (by rfl) M.max (by decide +kernel) (pa_cons pe_int (pa_cons (pe_callB (call_min2 rfl) (by rfl) Y.min (by decide +kernel) (pa_cons pe_int (pa_cons (pe_callB call_len_seq (by rfl) B.len PySem.boot_len (pa_cons (pv 0) pa_nil)) pa_nil))) pa_nil))) pa_nil))
        (pg_name (i := 1) scLaw.nd rfl (.inl rfl)) (
        pss_cons (ps_set (i := 2) scLaw.nd rfl (.inr rfl) (pe_call L.G1 r1 (by rfl) L.g1 L.k1 L.b1 .nil pass0 (pa_cons (pv 0) (pa_cons (pv 1) pa_nil)))) <|
        pss_cons (ps_asg (pe_call L.G7 r11 (by rfl) L.g7 L.k7 L.b7 .nil pass0 (pa_cons (pv 2) (pa_cons pe_int (pa_cons (pe_lst (pa_cons pe_int pa_nil)) pa_nil)))) (pg_tup rfl (pgs_cons (pg_name (i := 3) scLaw.nd rfl (.inr rfl)) (pgs_cons (pg_name (i := 4) scLaw.nd rfl (.inr rfl)) pgs_nil)))) <|
        pss_cons (ps_asg (pe_call L.G5 r7 (by rfl) L.g5 L.k5 L.b5 .nil pass0 (pa_cons (pv 2) pa_nil)) (pg_tup rfl (pgs_cons (pg_name (i := 5) scLaw.nd rfl (.inr rfl)) (pgs_cons (pg_name (i := 6) scLaw.nd rfl (.inr rfl)) pgs_nil)))) <|
        C8.pss_cut (ps_set (i := 8) scLaw.nd rfl (.inl rfl) (pe_op op_cat (pe_call L.G8 r1 (by rfl) L.g8 L.k8 L.b8 .nil pass0 (pa_cons (pe_call L.G4 r8 (by rfl) L.g4 L.k4 L.b4 .nil pass0 (pa_cons (pv 2) pa_nil)) pa_nil)) (pe_lc (own := [("_law_turn", 7)]) (g := gName 7) (tt := tYes) (te := tCall (spValue K 4) [] E0 (tCons (tVar 2) (tCons (tC (.int 3)) (tCons (tC (.int 30)) tNil)))) rfl scLaw.nd (pi_range1 (by rfl) Y.range (pa_cons pe_int pa_nil)) (blkOk_by (own := [("_law_turn", 7)]) (N := NL) (sc := defScope sLaw) (by decide +kernel)) (fun _ _ _ _ _ => pg_name (i := 7) scLaw.nd rfl (Or.inl rfl)) (fun _ _ _ _ _ => pts_nil) (fun _ _ _ _ _ => (pe_call L.G3 r7 (by rfl) L.g3 L.k3 L.b3 .nil pass0 (pa_cons (pv 2) (pa_cons pe_int (pa_cons pe_int pa_nil)))))))) <|
        pss_cons (ps_setLc (i := 9) (own := [("_law_value_here", 14)]) (g := gName 14) (tt := tYes) (te := tCall (spHas K 30) [] E0 (tCons (tVar 4) (tCons (tVar 14) tNil))) rfl scLaw.nd rfl rfl (sw_true rfl rfl rfl (by decide +kernel)) (pi_list (pv 8)) (blkOk_by (own := [("_law_value_here", 14)]) (N := NL) (sc := defScope sLaw) (by decide +kernel)) (fun _ _ _ _ _ => pg_name (i := 14) scLaw.nd rfl (Or.inl rfl)) (fun _ _ _ _ _ => pts_nil) (fun _ _ _ _ _ => (pe_call L.G6 r31 (by rfl) L.g6 L.k6 L.b6 .nil pass0 (pa_cons (pv 4) (pa_cons (pv 14) pa_nil))))) <|
        pss_cons (ps_for PassesOwn.never rfl (pi_range1 (by rfl) Y.range (pa_cons pe_int pa_nil)) (pg_name (i := 7) scLaw.nd rfl (.inl rfl)) (
          pss_cons (ps_if (pt_cmpR op_ne (pe_callB (call_repr hgd hu) (by rfl) M.repr (by decide +kernel) (pa_cons (pe_lc (own := [("_law_value_here", 14)]) (g := gName 14) (tt := tYes) (te := tOp (inT K C) (tVar 14) (tVar 3)) rfl scLaw.nd (pi_list (pv 8)) (blkOk_by (own := [("_law_value_here", 14)]) (N := NL) (sc := defScope sLaw) (by decide +kernel)) (fun _ _ _ _ _ => pg_name (i := 14) scLaw.nd rfl (Or.inl rfl)) (fun _ _ _ _ _ => pts_nil) (fun _ _ _ _ _ => (pe_cmpR (op_in_own (E := E0) L.m9 L.I9 r4 L.c9 pass0) (pv 14) (pv 3) (by rfl)))) pa_nil)) (pe_callB (call_repr hgd hu) (by rfl) M.repr (by decide +kernel) (pa_cons (pv 9) pa_nil)) (nomark _)) (pss_one (ps_ret pe_bl)) pss_nil) <|
          pss_cons (ps_for PassesOwn.never rfl (pi_list (pe_lst (pa_cons (pe_tup (pa_cons (pe_un (un_inv_own (E := E0) L.n1 L.I1 r6 L.d1 pass0) (pv 3)) (pa_cons pe_str pa_nil))) (pa_cons (pe_tup (pa_cons (pe_op (op_own2 (E := E0) (nm := "__or__") rfl L.n2 L.sf L.I2 r6 L.d2 pass0) (pv 3) (pv 5)) (pa_cons pe_str pa_nil))) (pa_cons (pe_tup (pa_cons (pe_op (op_own2 (E := E0) (nm := "__and__") rfl L.n3 L.sf L.I3 r6 L.d3 pass0) (pv 3) (pv 5)) (pa_cons pe_str pa_nil))) (pa_cons (pe_tup (pa_cons (pe_op (op_own2 (E := E0) (nm := "__sub__") rfl L.n4 L.sf L.I4 r6 L.d4 pass0) (pv 3) (pv 5)) (pa_cons pe_str pa_nil))) pa_nil)))))) (pg_tup rfl (pgs_cons (pg_name (i := 10) scLaw.nd rfl (.inr rfl)) (pgs_cons (pg_name (i := 11) scLaw.nd rfl (.inr rfl)) pgs_nil))) (
            pss_cons (ps_setLc (i := 12) (own := [("_law_value_here", 14)]) (g := gName 14) (tt := tYes) (te := tCall (spHas K 30) [] E0 (tCons (tTup (tCons (tVar 11) (tCons (tVar 4) (tCons (tVar 6) tNil)))) (tCons (tVar 14) tNil))) rfl scLaw.nd rfl rfl (sw_true rfl rfl rfl (by decide +kernel)) (pi_list (pv 8)) (blkOk_by (own := [("_law_value_here", 14)]) (N := NL) (sc := defScope sLaw) (by decide +kernel)) (fun _ _ _ _ _ => pg_name (i := 14) scLaw.nd rfl (Or.inl rfl)) (fun _ _ _ _ _ => pts_nil) (fun _ _ _ _ _ => (pe_call L.G6 r31 (by rfl) L.g6 L.k6 L.b6 .nil pass0 (pa_cons (pe_tup (pa_cons (pv 11) (pa_cons (pv 4) (pa_cons (pv 6) pa_nil)))) (pa_cons (pv 14) pa_nil))))) <|
            pss_cons (ps_if (pt_cmpR op_ne (pe_callB (call_repr hgd hu) (by rfl) M.repr (by decide +kernel) (pa_cons (pe_lc (own := [("_law_value_here", 14)]) (g := gName 14) (tt := tYes) (te := tOp (inT K C) (tVar 14) (tVar 10)) rfl scLaw.nd (pi_list (pv 8)) (blkOk_by (own := [("_law_value_here", 14)]) (N := NL) (sc := defScope sLaw) (by decide +kernel)) (fun _ _ _ _ _ => pg_name (i := 14) scLaw.nd rfl (Or.inl rfl)) (fun _ _ _ _ _ => pts_nil) (fun _ _ _ _ _ => (pe_cmpR (op_in_own (E := E0) L.m9 L.I9 r4 L.c9 pass0) (pv 14) (pv 10) (by rfl)))) pa_nil)) (pe_callB (call_repr hgd hu) (by rfl) M.repr (by decide +kernel) (pa_cons (pv 12) pa_nil)) (nomark _)) (pss_one (ps_ret pe_bl)) pss_nil) <|
            pss_one (ps_for PassesOwn.never rfl (pi_list (pe_lst (pa_cons pe_bl (pa_cons pe_int (pa_cons (pe_tup pa_nil) (pa_cons (pe_tup (pa_cons pe_str pa_nil)) (pa_cons pe_str (pa_cons (pe_lst (pa_cons pe_str (pa_cons pe_int pa_nil))) (pa_cons (pe_lst (pa_cons (pe_lst (pa_cons pe_non (pa_cons (pe_tup pa_nil) pa_nil))) pa_nil)) pa_nil))))))))) (pg_name (i := 13) scLaw.nd rfl (.inl rfl)) (
              pss_one (ps_if (pt_cmpR (op_in_own (E := E0) L.m9 L.I9 r4 L.c9 pass0) (pv 13) (pv 10) (by rfl)) (pss_one (ps_ret pe_bl)) pss_nil))))) <|
          pss_cons (ps_set (i := 10) scLaw.nd rfl (.inr rfl) (pe_op (op_own2 (E := E0) (nm := "__sub__") rfl L.n4 L.sf L.I4 r6 L.d4 pass0) (pv 5) (pv 3))) <|
          pss_one (ps_if (pt_cmpR (op_neD hu) (pe_lc (own := [("_law_value_here", 14)]) (g := gName 14) (tt := tYes) (te := tOp (inT K C) (tVar 14) (tVar 10)) rfl scLaw.nd (pi_list (pv 8)) (blkOk_by (own := [("_law_value_here", 14)]) (N := NL) (sc := defScope sLaw) (by decide +kernel)) (fun _ _ _ _ _ => pg_name (i := 14) scLaw.nd rfl (Or.inl rfl)) (fun _ _ _ _ _ => pts_nil) (fun _ _ _ _ _ => (pe_cmpR (op_in_own (E := E0) L.m9 L.I9 r4 L.c9 pass0) (pv 14) (pv 10) (by rfl)))) (pe_lc (own := [("_law_value_here", 14)]) (g := gName 14) (tt := tYes) (te := tCall (spHas K 30) [] E0 (tCons (tTup (tCons (tC (.str "less")) (tCons (tVar 6) (tCons (tVar 4) tNil)))) (tCons (tVar 14) tNil))) rfl scLaw.nd (pi_list (pv 8)) (blkOk_by (own := [("_law_value_here", 14)]) (N := NL) (sc := defScope sLaw) (by decide +kernel)) (fun _ _ _ _ _ => pg_name (i := 14) scLaw.nd rfl (Or.inl rfl)) (fun _ _ _ _ _ => pts_nil) (fun _ _ _ _ _ => (pe_call L.G6 r31 (by rfl) L.g6 L.k6 L.b6 .nil pass0 (pa_cons (pe_tup (pa_cons pe_str (pa_cons (pv 6) (pa_cons (pv 4) pa_nil)))) (pa_cons (pv 14) pa_nil))))) (nomark _)) (pss_one (ps_ret pe_bl)) pss_nil))) <|
        pss_one (ps_if (pt_cmpR (op_neD hu) (pe_lc (own := [("_law_value_here", 14)]) (g := gName 14) (tt := tYes) (te := tOp (inT K C) (tVar 14) (tVar 5)) rfl scLaw.nd (pi_list (pv 8)) (blkOk_by (own := [("_law_value_here", 14)]) (N := NL) (sc := defScope sLaw) (by decide +kernel)) (fun _ _ _ _ _ => pg_name (i := 14) scLaw.nd rfl (Or.inl rfl)) (fun _ _ _ _ _ => pts_nil) (fun _ _ _ _ _ => (pe_cmpR (op_in_own (E := E0) L.m9 L.I9 r4 L.c9 pass0) (pv 14) (pv 5) (by rfl)))) (pe_lc (own := [("_law_value_here", 14)]) (g := gName 14) (tt := tYes) (te := tCall (spHas K 30) [] E0 (tCons (tVar 6) (tCons (tVar 14) tNil))) rfl scLaw.nd (pi_list (pv 8)) (blkOk_by (own := [("_law_value_here", 14)]) (N := NL) (sc := defScope sLaw) (by decide +kernel)) (fun _ _ _ _ _ => pg_name (i := 14) scLaw.nd rfl (Or.inl rfl)) (fun _ _ _ _ _ => pts_nil) (fun _ _ _ _ _ => (pe_call L.G6 r31 (by rfl) L.g6 L.k6 L.b6 .nil pass0 (pa_cons (pv 6) (pa_cons (pv 14) pa_nil))))) (nomark _)) (pss_one (ps_ret pe_bl)) pss_nil))) <|
      pss_one (ps_ret pe_bl), ?_⟩

    have fit : ∀ {n : Nat}, n ≤ 20000 → n ≤ sizeLine := fun h => Nat.le_trans h (by decide)
    refine ⟨_, rfl, a0, _, rfl, .inl hS, _, _, rfl, _, _, rfl, _, rfl, ?_, ?_, ?_⟩
    · split <;> (try split) <;> omega
    · split <;> (try split) <;> omega
    refine for_range (lo := 0) (fun i σ H1 => ∃ y1 y2 y3 y4 y5 y6 y7 y8 y9 y10 y11 y12 y13 y14, σ = [some (.ref a0), y1, y2, y3, y4, y5, y6, y7, y8, y9, y10, y11, y12, y13, y14] ∧ Same H H1) ⟨_, _, _, _, _, _, _, _, _, _, _, _, _, _, rfl, Same.refl _⟩ ?_ ?_
    · rintro i σ H1 hi ⟨y1, y2, y3, y4, y5, y6, y7, y8, y9, y10, y11, y12, y13, y14, rfl, sm⟩
      have e0 : (0 : Int) + (i : Int) = (i : Int) := by omega
      rw [e0]
      refine ⟨_, rfl, _, rfl, a0, ns, i, rfl, sm.seq hS, hn, fun H2 p s2 np bag => ?_⟩
      have npH : H p = none := sm.free np
      have sH2 : Same H H2 := sm.trans s2
      refine ⟨_, rfl, (by show 1 ≤ sizeLine; decide), fun l nl => ?_⟩
      have sl := same_upd (o := .lst [.int 6]) nl
      have hl := upd_same (H := H2) (a := l) (o := .lst [.int 6])
      have lp : l ≠ p := TX.bag_ne bag nl
      have bag3 := TX.bag_same bag sl
      have nlH : H l = none := sH2.free nl
      have vw : Vw (upd H2 l (.lst [.int 6])) (L2.del H2 p) p l := ⟨del_sub.trans sl, del_same, by rw [del_ne lp]; exact nl, (by obtain ⟨a, b, e⟩ := bag3; rw [e]; simp), (by rw [hl]; simp)⟩
      have sH3 : Same H (upd H2 l (.lst [.int 6])) := sH2.trans sl
      generalize upd H2 l (.lst [.int 6]) = H3 at sl hl bag3 vw sH3 ⊢
      generalize L2.del H2 p = Hv at vw
      have k0 : K2 H3 H3 p l 6 := ⟨fun _ _ _ _ e => e, bag3, hl⟩
      refine ⟨p, l, Hv, 3, 6, rfl, k0, vw, by decide, by decide, by decide, fun G t x u gs n left' k1 ht sh hd heq hdp hlen hask => ?_⟩
      refine ⟨t, _, rfl, SqT.of (vw.sub k1 _ _ ht), rfl, _, _, rfl, _, _, rfl, rfl, ?_⟩
      -- the other one
      refine ⟨_, rfl, p, ov H3 Hv G, rfl, k1.b, vw.del k1, fun G2 t2 y u2 gs2 n2 kb ht2 sh2 hd2 heq2 h0 ha hl2 => ?_⟩
      have S := vw.step k1 (G' := G2) (fun b o h1 _ e => kb.k b o h1 e)
      have k2 := k1.kb kb
      have Sf := vw.fr (G := G) (G' := G2) (fun b o h1 _ e => kb.k b o h1 e)
      refine ⟨t2, _, rfl, SqT.of (vw.sub k2 _ _ (S _ _ ht2)), rfl, _, _, rfl, _, _, rfl, rfl, ?_⟩
      replace sh := sh.up Sf
      replace hd := dp_same Sf _ _ hd
      replace sh2 := sh2.up S
      replace hd2 := dp_same S _ _ hd2
      clear Sf S ht ht2
      -- the values
      refine ⟨fun σ' G' => ∃ (L : Addr) (us : List V) (ds : List PyData), σ' = [some (.ref a0), some (.int i), some (.ref p), some (.ref x), some u, some (.ref y), some u2, y7, some (.ref L), y9, y10, y11, y12, y13, y14] ∧ K2 H3 G' p l left' ∧ Fc K C G' x u gs n y u2 gs2 n2 L us ds, ?_, ?_⟩
      · refine ⟨_, rfl, p, rfl, k2.b, fun G3 v d k3 b3 hv vd dd ds => ?_⟩
        have kb3 : Kb G2 G3 p := ⟨k3, b3⟩
        have k3' := k2.kb kb3
        refine ⟨v, d, ov H3 Hv G3, rfl, vw.sub k3', dp_same (newp_ov k2) _ _ hv, ⟨vd, ds, by omega⟩, fun G4 L us es la => ?_⟩
        have S4 := vw.step k3' (G' := G4) (fun b o _ _ e => la.s _ _ e)
        have k4 := k3'.up la.s
        have Lp : L ≠ p := TX.bag_ne b3 la.n
        have Ll : L ≠ l := fun z => by
          have := la.n
          rw [z, k3'.f] at this
          cases this
        have fr24 : ∀ b o, b ≠ p → b ≠ l → G2 b = some o → G4 b = some o := fun b o h1 h2 e => la.s _ _ (kb3.k b o h1 e)
        refine ⟨6, rfl, by decide, by decide, fun D nD => lc_range (lo := 0) (n := 6) (fun m H' => ∃ ws es', Dq K H3 Hv H' p l left' D ws es' m ∧ (∀ b o, b ≠ p → b ≠ l → G4 b = some o → H' b = some o)) ?_ ?_ ?_⟩
        · exact ⟨[], [], ⟨k4.up (same_upd nD), upd_same, .nil, fun e he => (nomatch he), rfl⟩, fun b o _ _ e => same_upd nD _ _ e⟩
        · rintro m H' hm ⟨ws, es', dq, fr⟩
          refine ⟨rfl, _, rfl, p, 3, 30, rfl, dq.k2.b, by decide, by decide, by decide, fun H4 v' d' k4' b4' hv' vd' dd' ds' => ?_⟩
          obtain ⟨g1, g2⟩ := dq.more vw (k4.fresh nD) ⟨k4', b4'⟩ hv' ⟨vd', by omega, by omega⟩
          exact ⟨ws, g1, Nat.lt_of_le_of_lt (show ws.length ≤ 100 by have := dq.len; omega) (by decide), ws ++ [v'], es' ++ [d'], g2, fun b o h1 h2 e => by rw [upd_ne (ne_of_none e nD)]; exact k4' b o h1 (fr b o h1 h2 e)⟩
        · rintro H' ⟨ws, es', dq, fr⟩
          refine ⟨L, D, us, ws, rfl, rfl, fr L _ Lp Ll la.at_, dq.at_, fit (show us.length + ws.length ≤ 20000 by have := dq.len; have := la.len; omega), fun Lq nL2 => ?_⟩
          have s5 := same_upd (o := .lst (us ++ ws)) nL2
          have k5 := dq.k2.up s5
          have w1 : Same (ov H3 Hv G2) (upd H' Lq (.lst (us ++ ws))) := (vw.fr fun b o h1 h2 e => s5 _ _ (fr b o h1 h2 (fr24 b o h1 h2 e))).trans (vw.sub k5)
          have w2 : Same (ov G3 (ov H3 Hv G3) G4) (upd H' Lq (.lst (us ++ ws))) := (S4.trans (vw.fr fun b o h1 h2 e => s5 _ _ (fr b o h1 h2 e))).trans (vw.sub k5)
          have w3 : Same (ov H3 Hv (L2.del H' D)) (upd H' Lq (.lst (us ++ ws))) := (ov_less.trans (ov_more s5)).trans (vw.sub k5)
          refine ⟨Lq, us ++ ws, es ++ es', rfl, k5, ⟨sh.up w1, dp_same w1 _ _ hd, heq, sh2.up w1, dp_same w1 _ _ hd2, heq2, upd_same, DpAll.append (dpAll_same w2 _ _ la.d) (dpAll_same w3 _ _ dq.d), fun e he => ?_, ?_, ?_, ?_, ?_, hdp, by omega⟩⟩
          · rcases List.mem_append.mp he with he | he
            · exact la.k e he
            · exact dq.k e he
          · have := dq.len
            have := la.len
            rw [List.length_append]
            omega
          · have : (2 : Nat) ^ (3 + 1) = 16 := by decide
            omega
          · omega
          · omega
      rintro σ G5 ⟨L, us, ds, rfl, k5, fc⟩
      have sH5 : Same H G5 := fun b o e => k5.k b o (ne_of_none e npH) (ne_of_none e nlH) (sH3 _ _ e)
      clear sh hd sh2 hd2 heq heq2 hask ha
      -- what is due
      refine ⟨_, rfl, L, rfl, ⟨_, SqL.of fc.hL⟩, fun D1 nD1 => ?_⟩
      refine lc_ans (V0 := G5) (b := n.has) fc.hL fc.hd fc.hk fc.hl nD1 ?_ fun G6 s6 hD1 => ?_
      · intro v d G' Q' s hv kv q'
        exact ⟨_, rfl, _, rfl, has_at (dp_same s _ _ fc.dx) (dp_same s _ _ hv) kv (by have := fc.n1; omega) q'⟩
      have fc6 := fc.up s6
      have sH6 := sH5.trans s6
      clear fc s6 nD1 k5
      have shb := sh_bools (ds.map n.has) (by have := fc6.hl; have := DpAll.length fc6.hd; rw [List.length_map]; omega)
      refine ⟨2, rfl, by decide, by decide, for_range (lo := 0) (n := 2) (fun m σ G' => ∃ w7 w10 w11 w12 w13, σ = [some (.ref a0), some (.int i), some (.ref p), some (.ref x), some u, some (.ref y), some u2, w7, some (.ref L), some (.ref D1), w10, w11, w12, w13, y14] ∧ Same G6 G') ⟨_, _, _, _, _, rfl, Same.refl _⟩ ?_ ?_⟩
      · rintro m σ G7 hm ⟨w7, w10, w11, w12, w13, rfl, sm7⟩
        have fc7 := fc6.up sm7
        have hD7 := sm7 _ _ hD1
        -- the shape itself
        refine ⟨_, rfl, L, rfl, ⟨_, SqL.of fc7.hL⟩, fun D2 nD2 => ?_⟩
        refine lc_ans (V0 := G7) (b := n.has) fc7.hL fc7.hd fc7.hk fc7.hl nD2 ?_ fun G8 s8 hD2 => ?_
        · intro v d G' Q' s hv kv q'
          exact ⟨_, rfl, _, rfl, con_at fc7.shx fc7.ex s hv kv.ask.bd kv.ask.nd (fun _ => q') (fun nv => absurd kv.v nv)⟩
        refine ⟨_, .list ((ds.map n.has).map PyData.bool), rfl, .lst (SqL.of hD2) (bools_dp _), shb.s, shb.n, shb.z, shb.l, ?_⟩
        refine ⟨_, rfl, _, .list ((ds.map n.has).map PyData.bool), rfl, .lst (SqL.of (s8 _ _ hD7)) (bools_dp _), shb.s, shb.n, shb.z, shb.l, rfl, _, rfl, neF ?_⟩
        have fc8 := fc7.up s8
        have sm8 := sm7.trans s8
        clear fc7 nD2 hD2 s8 hD7 sm7
        -- the four
        obtain ⟨dx, fx, hx⟩ := fc8.shx.obj
        refine ⟨_, rfl, x, dx, fx, rfl, hx, x, gs, G8, rfl, Same.refl _, fc8.shx, fc8.ex.ne, by have := fc8.l1; omega, by have := fc8.as; omega, fun A1 x1 t1 nx1 sh1 => ⟨(by show 2 ≤ sizeLine; decide), fun T1 nT1 => ?_⟩⟩
        have v1 := t1.trans (same_upd (o := .tup [.ref x1, .str "not"]) nT1)
        have md1 : Md K C (upd A1 T1 (.tup [.ref x1, .str "not"])) n n2 (.ref T1) := .mk2 (m := .not3 n n2) (sh1.up (ov_same (Same.refl _) t1)) nT1 (op_nd (op := fun a _ => !a) fc8.ex fc8.ey (by simp) (by
          rw [lastP_snoc]
          rfl) fun _ => rfl) rfl (by have := fc8.n1; have := fc8.n2; simp only [Nd.deep]; omega)
        generalize upd A1 T1 (.tup [.ref x1, .str "not"]) = B1 at v1 md1 ⊢
        have fcB := fc8.up v1
        obtain ⟨dx, fx, hx⟩ := fcB.shx.obj
        obtain ⟨dy, fy, hy⟩ := fcB.shy.obj
        refine ⟨_, rfl, _, rfl, x, y, dx, dy, fx, fy, rfl, rfl, hx, hy, x, y, gs, gs2, B1, rfl, Same.refl _, fcB.shx, fcB.shy, fcB.ex.ne, fcB.ey.ne, by have := fcB.l1; omega, by have := fcB.l2; omega, fcB.as, fun A2 x2 gO t2 nx2 sh2 ne2 as2 ln2 hp2 => ⟨(by show 2 ≤ sizeLine; decide), fun T2 nT2 => ?_⟩⟩
        have v2 := t2.trans (same_upd (o := .tup [.ref x2, .str "or"]) nT2)
        have md2 : Md K C (upd A2 T2 (.tup [.ref x2, .str "or"])) n n2 (.ref T2) := .mk2 (m := .or_ n n2) (sh2.up (ov_same (Same.refl _) t2)) nT2 (op_nd fcB.ex fcB.ey ne2 hp2 fun _ => rfl) rfl (by have := fc8.n1; have := fc8.n2; simp only [Nd.deep]; omega)
        generalize upd A2 T2 (.tup [.ref x2, .str "or"]) = B2 at v2 md2 ⊢
        have fcC := fcB.up v2
        obtain ⟨dx, fx, hx⟩ := fcC.shx.obj
        obtain ⟨dy, fy, hy⟩ := fcC.shy.obj
        refine ⟨_, rfl, _, rfl, x, y, dx, dy, fx, fy, rfl, rfl, hx, hy, x, y, gs, gs2, B2, rfl, Same.refl _, fcC.shx, fcC.shy, fcC.ex.ne, fcC.ey.ne, by have := fcC.l1; omega, by have := fcC.l2; omega, fcC.as, fun A3 x3 gA t3 nx3 sh3 ne3 as3 ln3 hp3 => ⟨(by show 2 ≤ sizeLine; decide), fun T3 nT3 => ?_⟩⟩
        have v3 := t3.trans (same_upd (o := .tup [.ref x3, .str "and"]) nT3)
        have md3 : Md K C (upd A3 T3 (.tup [.ref x3, .str "and"])) n n2 (.ref T3) := .mk2 (m := .and_ n n2) (sh3.up (ov_same (Same.refl _) t3)) nT3 (op_nd fcC.ex fcC.ey ne3 hp3 fun _ => rfl) rfl (by have := fc8.n1; have := fc8.n2; simp only [Nd.deep]; omega)
        generalize upd A3 T3 (.tup [.ref x3, .str "and"]) = B3 at v3 md3 ⊢
        have fcD := fcC.up v3
        obtain ⟨dx, fx, hx⟩ := fcD.shx.obj
        obtain ⟨dy, fy, hy⟩ := fcD.shy.obj
        refine ⟨_, rfl, _, rfl, x, y, dx, dy, fx, fy, rfl, rfl, hx, hy, x, y, gs, gs2, B3, rfl, Same.refl _, fcD.shx, fcD.shy, fcD.ex.ne, fcD.ey.ne, by have := fcD.l1; omega, by have := fcD.l2; omega, fcD.as, fun A4 x4 gS t4 nx4 sh4 ne4 as4 ln4 hp4 => ⟨(by show 2 ≤ sizeLine; decide), fun T4 nT4 => ?_⟩⟩
        have v4 := t4.trans (same_upd (o := .tup [.ref x4, .str "less"]) nT4)
        have md4 : Md K C (upd A4 T4 (.tup [.ref x4, .str "less"])) n n2 (.ref T4) := .mk2 (m := .less n n2) (sh4.up (ov_same (Same.refl _) t4)) nT4 (op_nd (op := fun a b => a && !b) fcD.ex fcD.ey ne4 hp4 fun _ => rfl) rfl (by have := fc8.n1; have := fc8.n2; simp only [Nd.deep]; omega)
        generalize upd A4 T4 (.tup [.ref x4, .str "less"]) = B4 at v4 md4 ⊢
        refine ⟨(by show 4 ≤ sizeLine; decide), fun M nM => ⟨M, rfl, ⟨_, SqL.of upd_same⟩, ?_⟩⟩
        have v5 := same_upd (o := .lst [.ref T1, .ref T2, .ref T3, .ref T4]) nM
        have hM := upd_same (H := B4) (a := M) (o := .lst [.ref T1, .ref T2, .ref T3, .ref T4])
        have mds : ∀ t ∈ [V.ref T1, .ref T2, .ref T3, .ref T4], Md K C (upd B4 M (.lst [.ref T1, .ref T2, .ref T3, .ref T4])) n n2 t := fun t ht => by
          simp only [List.mem_cons, List.not_mem_nil, or_false] at ht
          rcases ht with rfl | rfl | rfl | rfl
          · exact md1.up (v2.trans (v3.trans (v4.trans v5)))
          · exact md2.up (v3.trans (v4.trans v5))
          · exact md3.up (v4.trans v5)
          · exact md4.up v5
        have fcM := fcD.up (v4.trans v5)
        have sM : Same G6 (upd B4 M (.lst [.ref T1, .ref T2, .ref T3, .ref T4])) := sm8.trans (v1.trans (v2.trans (v3.trans (v4.trans v5))))
        generalize upd B4 M (.lst [.ref T1, .ref T2, .ref T3, .ref T4]) = G9 at hM mds fcM sM ⊢
        clear md1 md2 md3 md4 sh1 sh2 sh3 sh4 fcB fcC fcD fc8 hx hy v1 v2 v3 v4 v5 t1 t2 t3 t4 nT1 nT2 nT3 nT4 nM sm8
        refine for_list (K := K) (a := M) (xs := [.ref T1, .ref T2, .ref T3, .ref T4]) (fun j σ G' => ∃ w10 w11 w12 w13, σ = [some (.ref a0), some (.int i), some (.ref p), some (.ref x), some u, some (.ref y), some u2, some (.int (0 + (m : Int))), some (.ref L), some (.ref D1), w10, w11, w12, w13, y14] ∧ Same G9 G') ⟨_, _, _, _, rfl, Same.refl _⟩ (fun j σ G' hj ⟨_, _, _, _, _, s⟩ => SqL.of (s _ _ hM)) ?_ ?_
        · rintro j v σ G10 hv ⟨w10, w11, w12, w13, rfl, s10⟩
          have fcN := fcM.up s10
          obtain ⟨T, xm, mk, gm, nm, rfl, hT, shm, exm, datm, dpm⟩ := ((mds v (List.mem_of_getElem? hv)).up s10).ex
          refine ⟨T, _, rfl, SqT.of hT, rfl, _, _, rfl, _, _, rfl, rfl, ?_⟩
          -- what is due of it
          refine ⟨_, rfl, L, rfl, ⟨_, SqL.of fcN.hL⟩, fun D3 nD3 => ?_⟩
          refine lc_ans (V0 := G10) (b := nm.has) fcN.hL fcN.hd fcN.hk fcN.hl nD3 ?_ fun G11 s11 hD3 => ?_
          · intro v d G' Q' s hv kv q'
            refine ⟨_, rfl, _, rfl, _, rfl, (by show 3 ≤ sizeLine; decide), fun tt nt => ⟨_, rfl, has_at (m := nm) ?_ (dp_same (s.trans (same_upd nt)) _ _ hv) kv dpm (fun G'' s'' => q' G'' ((same_upd nt).trans s''))⟩⟩
            rw [datm]
            exact .tup (SqT.of upd_same) (.cons (.str _) (.cons (dp_same (s.trans (same_upd nt)) _ _ fcN.dx) (.cons (dp_same (s.trans (same_upd nt)) _ _ fcN.dy) .nil)))
          -- what it answers
          have fcO := fcN.up s11
          have shO := shm.up s11
          refine ⟨_, rfl, L, rfl, ⟨_, SqL.of fcO.hL⟩, fun D4 nD4 => ?_⟩
          refine lc_ans (V0 := G11) (b := nm.has) fcO.hL fcO.hd fcO.hk fcO.hl nD4 ?_ fun G12 s12 hD4 => ?_
          · intro v d G' Q' s hv kv q'
            exact ⟨_, rfl, _, rfl, con_at shO exm s hv kv.ask.bd kv.ask.nd (fun _ => q') (fun nv => absurd kv.v nv)⟩
          have shb2 := sh_bools (ds.map nm.has) (by have := fcO.hl; have := DpAll.length fcO.hd; rw [List.length_map]; omega)
          refine ⟨_, .list ((ds.map nm.has).map PyData.bool), rfl, .lst (SqL.of hD4) (bools_dp _), shb2.s, shb2.n, shb2.z, shb2.l, ?_⟩
          refine ⟨_, rfl, _, .list ((ds.map nm.has).map PyData.bool), rfl, .lst (SqL.of (s12 _ _ hD3)) (bools_dp _), shb2.s, shb2.n, shb2.z, shb2.l, rfl, _, rfl, neF ?_⟩
          -- what is no value
          have shP := shO.up s12
          have s9 : Same G9 G12 := s10.trans (s11.trans s12)
          refine ⟨Nat.zero_le _, fun e1 m1 => ⟨(by show 1 ≤ sizeLine; decide), fun e2 m2 => ⟨(by show 2 ≤ sizeLine; decide), fun e3 m3 => ⟨Nat.zero_le _, fun e4 m4 => ⟨(by show 2 ≤ sizeLine; decide), fun e5 m5 => ⟨(by show 1 ≤ sizeLine; decide), fun e6 m6 => ⟨(by show 7 ≤ sizeLine; decide), fun e7 m7 => ⟨e7, rfl, ⟨_, SqL.of upd_same⟩, ?_⟩⟩⟩⟩⟩⟩⟩⟩
          obtain ⟨sth, hth, dth⟩ := things (K := K) m1 rfl m2 rfl m3 rfl m4 rfl m5 rfl m6 rfl m7 rfl
          have shQ := shP.up sth
          have sQ := s9.trans sth
          generalize upd _ e7 _ = G13 at sth hth dth shQ sQ ⊢
          refine for_list (K := K) (a := e7) (xs := [.bl true, .int 0, .ref e1, .ref e2, .str "A", .ref e3, .ref e6]) (fun j σ G' => ∃ w13, σ = [some (.ref a0), some (.int i), some (.ref p), some (.ref x), some u, some (.ref y), some u2, some (.int (0 + (m : Int))), some (.ref L), some (.ref D1), some (.ref xm), some (.str mk), some (.ref D3), w13, y14] ∧ Same G13 G') ⟨_, rfl, Same.refl _⟩ (fun j σ G' hj ⟨_, _, s⟩ => SqL.of (s _ _ hth)) ?_ ?_
          · rintro j v σ G14 hv ⟨w13, rfl, s14⟩
            obtain ⟨d, hd, hvd⟩ := DpAll.at_ dth hv
            obtain ⟨nv, bd, nn⟩ := thD_no d (List.mem_of_getElem? hd)
            obtain ⟨g0, g, eg, hp⟩ := exm
            subst eg
            have shN := shQ.up s14
            obtain ⟨dm, fm, hm'⟩ := shN.obj
            exact ⟨_, rfl, _, rfl, xm, dm, fm, rfl, hm', xm, g0, g, v, d, G14, rfl, shN, Same.refl _, dp_same s14 _ _ hvd, bd, nn, fun vd => absurd vd nv, fun _ G' s' => ⟨false, rfl, _, rfl, iteF ⟨_, rfl, s14.trans s'⟩⟩⟩
          · rintro σ G14 ⟨w13, rfl, s14⟩
            exact ⟨_, _, _, _, rfl, sQ.trans s14⟩
        rintro σ G10 ⟨w10, w11, w12, w13, rfl, s10⟩
        have fcE := fcM.up s10
        have sE : Same G6 G10 := sM.trans s10
        clear fcM mds hM sM s10
        -- the other one without the shape
        obtain ⟨dx, fx, hx⟩ := fcE.shx.obj
        obtain ⟨dy, fy, hy⟩ := fcE.shy.obj
        refine ⟨_, rfl, _, rfl, y, x, dy, dx, fy, fx, rfl, rfl, hy, hx, y, x, gs2, gs, G10, rfl, Same.refl _, fcE.shy, fcE.shx, fcE.ey.ne, fcE.ex.ne, by have := fcE.l2; omega, by have := fcE.l1; omega, by have := fcE.as; omega, fun G11 xr gr t11 nxr shr ner asr lnr hpr => ?_⟩
        have er : ShNd gr (.less n2 n) := op_nd (op := fun a b => a && !b) fcE.ey fcE.ex ner hpr fun _ => rfl
        replace shr := shr.up (ov_same (Same.refl _) t11)
        have fcR := fcE.up t11
        refine ⟨_, rfl, L, rfl, ⟨_, SqL.of fcR.hL⟩, fun D5 nD5 => ?_⟩
        refine lc_ans (V0 := G11) (b := (Nd.less n2 n).has) fcR.hL fcR.hd fcR.hk fcR.hl nD5 ?_ fun G12 s12 hD5 => ?_
        · intro v d G' Q' s hv kv q'
          exact ⟨_, rfl, _, rfl, con_at shr er s hv kv.ask.bd kv.ask.nd (fun _ => q') (fun nv => absurd kv.v nv)⟩
        have fcS := fcR.up s12
        refine ⟨_, rfl, L, rfl, ⟨_, SqL.of fcS.hL⟩, fun D6 nD6 => ?_⟩
        refine lc_ans (V0 := G12) (b := (Nd.less n2 n).has) fcS.hL fcS.hd fcS.hk fcS.hl nD6 ?_ fun G13 s13 hD6 => ?_
        · intro v d G' Q' s hv kv q'
          refine ⟨_, rfl, _, rfl, (by show 3 ≤ sizeLine; decide), fun tt nt => ⟨_, rfl, has_at (m := .less n2 n) ?_ (dp_same (s.trans (same_upd nt)) _ _ hv) kv (by have := fcS.n1; have := fcS.n2; simp only [Nd.deep]; omega) (fun G'' s'' => q' G'' ((same_upd nt).trans s''))⟩⟩
          exact .tup (SqT.of upd_same) (.cons (.str _) (.cons (dp_same (s.trans (same_upd nt)) _ _ fcS.dy) (.cons (dp_same (s.trans (same_upd nt)) _ _ fcS.dx) .nil)))
        obtain ⟨b1, b2⟩ := bools_shaped (ds.map (Nd.less n2 n).has)
        refine ⟨.list ((ds.map (Nd.less n2 n).has).map PyData.bool), .list ((ds.map (Nd.less n2 n).has).map PyData.bool), .lst (SqL.of (s13 _ _ hD5)) (bools_dp _), .lst (SqL.of hD6) (bools_dp _), b1, b1, _, rfl, ?_⟩
        rw [b2]
        exact iteF ⟨_, _, _, _, _, rfl, sE.trans (t11.trans (s12.trans s13))⟩
      rintro σ G7 ⟨w7, w10, w11, w12, w13, rfl, sm7⟩
      have fc7 := fc6.up sm7
      refine ⟨_, rfl, L, rfl, ⟨_, SqL.of fc7.hL⟩, fun D2 nD2 => ?_⟩
      refine lc_ans (V0 := G7) (b := n2.has) fc7.hL fc7.hd fc7.hk fc7.hl nD2 ?_ fun G8 s8 hD2 => ?_
      · intro v d G' Q' s hv kv q'
        exact ⟨_, rfl, _, rfl, con_at fc7.shy fc7.ey s hv kv.ask.bd kv.ask.nd (fun _ => q') (fun nv => absurd kv.v nv)⟩
      have fc8 := fc7.up s8
      refine ⟨_, rfl, L, rfl, ⟨_, SqL.of fc8.hL⟩, fun D3 nD3 => ?_⟩
      refine lc_ans (V0 := G8) (b := n2.has) fc8.hL fc8.hd fc8.hk fc8.hl nD3 ?_ fun G9 s9 hD3 => ?_
      · intro v d G' Q' s hv kv q'
        exact ⟨_, rfl, _, rfl, has_at (dp_same s _ _ fc8.dy) (dp_same s _ _ hv) kv (by have := fc8.n2; omega) q'⟩
      obtain ⟨b1, b2⟩ := bools_shaped (ds.map n2.has)
      refine ⟨.list ((ds.map n2.has).map PyData.bool), .list ((ds.map n2.has).map PyData.bool), .lst (SqL.of (s9 _ _ hD2)) (bools_dp _), .lst (SqL.of hD3) (bools_dp _), b1, b1, _, rfl, ?_⟩
      rw [b2]
      exact iteF ⟨_, _, _, _, _, _, _, _, _, _, _, _, _, _, rfl, sH6.trans (sm7.trans (s8.trans s9))⟩
    · rintro σ H1 ⟨y1, y2, y3, y4, y5, y6, y7, y8, y9, y10, y11, y12, y13, y14, rfl, sm⟩
      exact q _

end
end TX
namespace TX
open PySem PySem.Spec PyProof.Rows L2
theorem kit_self {K : PySem.W.Frag} {C : Addr} : PySem.W.kitOne K (.ref C) (.ref C) = some true := by
  unfold PySem.W.kitOne
  rw [beq_self_eq_true, if_pos rfl]
theorem kit_of {K : PySem.W.Frag} {C : Addr} {T : String} {b : Bool} (hd : PySem.W.hasDictIn K C = true) (ty : PySem.W.typeIn K (.ref C) = some (.type "type")) (hs : PySem.W.subIn K (.type T) (.ref C) = some b) : PySem.W.kitOne K (.type T) (.ref C) = some b := by
  have hne : (Value.type T == Value.ref C) = false := rfl
  have e2 : ((PySem.W.clsIn K C).isSome && PySem.W.typeIn K (.ref C) == some (.type "type")) = true := by
    rw [clsSome hd, ty]
    rfl
  unfold PySem.W.kitOne
  rw [hne, if_neg Bool.false_ne_true]
  show (if ((PySem.W.clsIn K C).isSome && PySem.W.typeIn K (.ref C) == some (.type "type")) = true then PySem.W.subIn K (.type T) (.ref C) else none) = _
  rw [if_pos e2, hs]
theorem all_mk {P : Program} {w : World} {K : PySem.W.Frag} {h : Heap} {mg : Str → Option Value} {fa f0 f1 f2 f3 f4 f5 f6 f7 f8 f9 f10 f11 f12 f13 f14 f15 f16 f17 f18 f19 f20 f21 f22 f23 C h0 h1 h2 h3 h4 h5 h_every h_never h_nothing h_texts h_lists h_nested : Addr} (X : K.In h) (G : h.Ns mainGlobals mg) (hfa : mg "law" = some (.ref fa))
    {od0 an0 : Option Addr} {sl0 : Array (Option Value)} {oc0 kV0 dc0 pm0 cd0 ct0 : Value}
    {od1 an1 : Option Addr} {sl1 : Array (Option Value)} {oc1 kV1 dc1 pm1 cd1 ct1 : Value}
    {od2 an2 : Option Addr} {sl2 : Array (Option Value)} {oc2 kV2 dc2 pm2 cd2 ct2 : Value}
    {od3 an3 : Option Addr} {sl3 : Array (Option Value)} {oc3 kV3 dc3 pm3 cd3 ct3 : Value}
    {od4 an4 : Option Addr} {sl4 : Array (Option Value)} {oc4 kV4 dc4 pm4 cd4 ct4 : Value}
    {od5 an5 : Option Addr} {sl5 : Array (Option Value)} {oc5 kV5 dc5 pm5 cd5 ct5 : Value}
    {od6 an6 : Option Addr} {sl6 : Array (Option Value)} {oc6 kV6 dc6 pm6 cd6 ct6 : Value}
    {od7 an7 : Option Addr} {sl7 : Array (Option Value)} {oc7 kV7 dc7 pm7 cd7 ct7 : Value}
    {od8 an8 : Option Addr} {sl8 : Array (Option Value)} {oc8 kV8 dc8 pm8 cd8 ct8 : Value}
    {od9 an9 : Option Addr} {sl9 : Array (Option Value)} {oc9 kV9 dc9 pm9 cd9 ct9 : Value}
    {od10 an10 : Option Addr} {sl10 : Array (Option Value)} {oc10 kV10 dc10 pm10 cd10 ct10 : Value}
    {od11 an11 : Option Addr} {sl11 : Array (Option Value)} {oc11 kV11 dc11 pm11 cd11 ct11 : Value}
    {od12 an12 : Option Addr} {sl12 : Array (Option Value)} {oc12 kV12 dc12 pm12 cd12 ct12 : Value}
    {od13 an13 : Option Addr} {sl13 : Array (Option Value)} {oc13 kV13 dc13 pm13 cd13 ct13 : Value}
    {od14 an14 : Option Addr} {sl14 : Array (Option Value)} {oc14 kV14 dc14 pm14 cd14 ct14 : Value}
    {od15 an15 : Option Addr} {sl15 : Array (Option Value)} {oc15 kV15 dc15 pm15 cd15 ct15 : Value}
    {od16 an16 : Option Addr} {sl16 : Array (Option Value)} {oc16 kV16 dc16 pm16 cd16 ct16 : Value}
    {od17 an17 : Option Addr} {sl17 : Array (Option Value)} {oc17 kV17 dc17 pm17 cd17 ct17 : Value}
    {od18 an18 : Option Addr} {sl18 : Array (Option Value)} {oc18 kV18 dc18 pm18 cd18 ct18 : Value}
    {od19 an19 : Option Addr} {sl19 : Array (Option Value)} {oc19 kV19 dc19 pm19 cd19 ct19 : Value}
    {od20 an20 : Option Addr} {sl20 : Array (Option Value)} {oc20 kV20 dc20 pm20 cd20 ct20 : Value}
    {od21 an21 : Option Addr} {sl21 : Array (Option Value)} {oc21 kV21 dc21 pm21 cd21 ct21 : Value}
    {od22 an22 : Option Addr} {sl22 : Array (Option Value)} {oc22 kV22 dc22 pm22 cd22 ct22 : Value}
    {od23 an23 : Option Addr} {sl23 : Array (Option Value)} {oc23 kV23 dc23 pm23 cd23 ct23 : Value}
    {tA tq0 tq1 tq2 tq3 tq4 tq5 tv0 tv1 tv2 tv3 tv4 tv5 ti0 ti1 ti2 ti3 ti4 ti5 ti6 ti7 te0 te1 te2 te3 te4 te5 tD : Tok} {pevery pnever pnothing ptexts plists pnested TD aV aI aN e1 e2 e3 e4 : Addr} {restevery restnever restnothing resttexts restlists restnested : List Value} {odlLV odlAI odlNP odlE1 odlE2 odlE3 odlE4 odlTD : Option Addr} {nlLV nlAI nlNP nlE1 nlE2 nlE3 nlE4 nlTD : Nat} {sllLV sllAI sllNP sllE1 sllE2 sllE3 sllE4 sllTD : Array (Option Value)}
    {odM0 anM0 : Option Addr} {slM0 : Array (Option Value)} {ocM0 kVM0 dcM0 pmM0 cdM0 ctM0 : Value}
    {odM1 anM1 : Option Addr} {slM1 : Array (Option Value)} {ocM1 kVM1 dcM1 pmM1 cdM1 ctM1 : Value}
    {odM2 anM2 : Option Addr} {slM2 : Array (Option Value)} {ocM2 kVM2 dcM2 pmM2 cdM2 ctM2 : Value}
    {odM3 anM3 : Option Addr} {slM3 : Array (Option Value)} {ocM3 kVM3 dcM3 pmM3 cdM3 ctM3 : Value}
    {odM4 anM4 : Option Addr} {slM4 : Array (Option Value)} {ocM4 kVM4 dcM4 pmM4 cdM4 ctM4 : Value}
    {odM5 anM5 : Option Addr} {slM5 : Array (Option Value)} {ocM5 kVM5 dcM5 pmM5 cdM5 ctM5 : Value}
    {odcevery ancevery : Option Addr} {slcevery : Array (Option Value)} {occevery kVcevery dccevery pmcevery cdcevery ctcevery : Value}
    {odcnever ancnever : Option Addr} {slcnever : Array (Option Value)} {occnever kVcnever dccnever pmcnever cdcnever ctcnever : Value}
    {odcnothing ancnothing : Option Addr} {slcnothing : Array (Option Value)} {occnothing kVcnothing dccnothing pmcnothing cdcnothing ctcnothing : Value}
    {odctexts anctexts : Option Addr} {slctexts : Array (Option Value)} {occtexts kVctexts dcctexts pmctexts cdctexts ctctexts : Value}
    {odclists anclists : Option Addr} {slclists : Array (Option Value)} {occlists kVclists dcclists pmclists cdclists ctclists : Value}
    {odcnested ancnested : Option Addr} {slcnested : Array (Option Value)} {occnested kVcnested dccnested pmcnested cdcnested ctcnested : Value}
    (a0 : PySem.W.nsIn K mainGlobals "all_parts" = some (some (.ref f0)))
    (l0 : K.lookup f0 = some ⟨oc0, od0, .func (PySem.W.fnOf "all_parts" "all_parts" (defArgs sParts) (defBody sParts) (defScope sParts) .none kV0 dc0 pm0 an0 cd0 ct0), sl0⟩)
    (c0 : PySem.W.codeIn K cd0 "all_parts" = true)
    (k0 : PySem.W.keepIn K (.ref f0) = true)
    (a1 : PySem.W.nsIn K mainGlobals "row_of_texts" = some (some (.ref f1)))
    (l1 : K.lookup f1 = some ⟨oc1, od1, .func (PySem.W.fnOf "row_of_texts" "row_of_texts" (defArgs s_row_of_texts) (defBody s_row_of_texts) (defScope s_row_of_texts) .none kV1 dc1 pm1 an1 cd1 ct1), sl1⟩)
    (c1 : PySem.W.codeIn K cd1 "row_of_texts" = true)
    (k1 : PySem.W.keepIn K (.ref f1) = true)
    (a2 : PySem.W.nsIn K mainGlobals "row_of_step" = some (some (.ref f2)))
    (l2 : K.lookup f2 = some ⟨oc2, od2, .func (PySem.W.fnOf "row_of_step" "row_of_step" (defArgs s_row_of_step) (defBody s_row_of_step) (defScope s_row_of_step) .none kV2 dc2 pm2 an2 cd2 ct2), sl2⟩)
    (c2 : PySem.W.codeIn K cd2 "row_of_step" = true)
    (k2 : PySem.W.keepIn K (.ref f2) = true)
    (a3 : PySem.W.nsIn K mainGlobals "step_asked" = some (some (.ref f3)))
    (l3 : K.lookup f3 = some ⟨oc3, od3, .func (PySem.W.fnOf "step_asked" "step_asked" (defArgs s_step_asked) (defBody s_step_asked) (defScope s_step_asked) .none kV3 dc3 pm3 an3 cd3 ct3), sl3⟩)
    (c3 : PySem.W.codeIn K cd3 "step_asked" = true)
    (k3 : PySem.W.keepIn K (.ref f3) = true)
    (a4 : PySem.W.nsIn K mainGlobals "has_row" = some (some (.ref f4)))
    (l4 : K.lookup f4 = some ⟨oc4, od4, .func (PySem.W.fnOf "has_row" "has_row" (defArgs s_has_row) (defBody s_has_row) (defScope s_has_row) .none kV4 dc4 pm4 an4 cd4 ct4), sl4⟩)
    (c4 : PySem.W.codeIn K cd4 "has_row" = true)
    (k4 : PySem.W.keepIn K (.ref f4) = true)
    (a5 : PySem.W.nsIn K mainGlobals "told_by" = some (some (.ref f5)))
    (l5 : K.lookup f5 = some ⟨oc5, od5, .func (PySem.W.fnOf "told_by" "told_by" (defArgs s_told_by) (defBody s_told_by) (defScope s_told_by) .none kV5 dc5 pm5 an5 cd5 ct5), sl5⟩)
    (c5 : PySem.W.codeIn K cd5 "told_by" = true)
    (k5 : PySem.W.keepIn K (.ref f5) = true)
    (a6 : PySem.W.nsIn K mainGlobals "longer_plan" = some (some (.ref f6)))
    (l6 : K.lookup f6 = some ⟨oc6, od6, .func (PySem.W.fnOf "longer_plan" "longer_plan" (defArgs s_longer_plan) (defBody s_longer_plan) (defScope s_longer_plan) .none kV6 dc6 pm6 an6 cd6 ct6), sl6⟩)
    (c6 : PySem.W.codeIn K cd6 "longer_plan" = true)
    (k6 : PySem.W.keepIn K (.ref f6) = true)
    (a7 : PySem.W.nsIn K mainGlobals "leaf_number" = some (some (.ref f7)))
    (l7 : K.lookup f7 = some ⟨oc7, od7, .func (PySem.W.fnOf "leaf_number" "leaf_number" (defArgs s_leaf_number) (defBody s_leaf_number) (defScope s_leaf_number) .none kV7 dc7 pm7 an7 cd7 ct7), sl7⟩)
    (c7 : PySem.W.codeIn K cd7 "leaf_number" = true)
    (k7 : PySem.W.keepIn K (.ref f7) = true)
    (a8 : PySem.W.nsIn K mainGlobals "list_look" = some (some (.ref f8)))
    (l8 : K.lookup f8 = some ⟨oc8, od8, .func (PySem.W.fnOf "list_look" "list_look" (defArgs s_list_look) (defBody s_list_look) (defScope s_list_look) .none kV8 dc8 pm8 an8 cd8 ct8), sl8⟩)
    (c8 : PySem.W.codeIn K cd8 "list_look" = true)
    (k8 : PySem.W.keepIn K (.ref f8) = true)
    (a9 : PySem.W.nsIn K mainGlobals "is_member" = some (some (.ref f9)))
    (l9 : K.lookup f9 = some ⟨oc9, od9, .func (PySem.W.fnOf "is_member" "is_member" (defArgs s_is_member) (defBody s_is_member) (defScope s_is_member) .none kV9 dc9 pm9 an9 cd9 ct9), sl9⟩)
    (c9 : PySem.W.codeIn K cd9 "is_member" = true)
    (k9 : PySem.W.keepIn K (.ref f9) = true)
    (a10 : PySem.W.nsIn K mainGlobals "first_step" = some (some (.ref f10)))
    (l10 : K.lookup f10 = some ⟨oc10, od10, .func (PySem.W.fnOf "first_step" "first_step" (defArgs s_first_step) (defBody s_first_step) (defScope s_first_step) .none kV10 dc10 pm10 an10 cd10 ct10), sl10⟩)
    (c10 : PySem.W.codeIn K cd10 "first_step" = true)
    (k10 : PySem.W.keepIn K (.ref f10) = true)
    (a11 : PySem.W.nsIn K mainGlobals "step_above" = some (some (.ref f11)))
    (l11 : K.lookup f11 = some ⟨oc11, od11, .func (PySem.W.fnOf "step_above" "step_above" (defArgs s_step_above) (defBody s_step_above) (defScope s_step_above) .none kV11 dc11 pm11 an11 cd11 ct11), sl11⟩)
    (c11 : PySem.W.codeIn K cd11 "step_above" = true)
    (k11 : PySem.W.keepIn K (.ref f11) = true)
    (a12 : PySem.W.nsIn K mainGlobals "step_over_both" = some (some (.ref f12)))
    (l12 : K.lookup f12 = some ⟨oc12, od12, .func (PySem.W.fnOf "step_over_both" "step_over_both" (defArgs s_step_over_both) (defBody s_step_over_both) (defScope s_step_over_both) .none kV12 dc12 pm12 an12 cd12 ct12), sl12⟩)
    (c12 : PySem.W.codeIn K cd12 "step_over_both" = true)
    (k12 : PySem.W.keepIn K (.ref f12) = true)
    (a13 : PySem.W.nsIn K mainGlobals "_law_bag" = some (some (.ref f13)))
    (l13 : K.lookup f13 = some ⟨oc13, od13, .func (PySem.W.fnOf "_law_bag" "_law_bag" (defArgs sBag) (defBody sBag) (defScope sBag) .none kV13 dc13 pm13 an13 cd13 ct13), sl13⟩)
    (c13 : PySem.W.codeIn K cd13 "_law_bag" = true)
    (k13 : PySem.W.keepIn K (.ref f13) = true)
    (a14 : PySem.W.nsIn K mainGlobals "_law_take" = some (some (.ref f14)))
    (l14 : K.lookup f14 = some ⟨oc14, od14, .func (PySem.W.fnOf "_law_take" "_law_take" (defArgs sTake) (defBody sTake) (defScope sTake) .none kV14 dc14 pm14 an14 cd14 ct14), sl14⟩)
    (c14 : PySem.W.codeIn K cd14 "_law_take" = true)
    (k14 : PySem.W.keepIn K (.ref f14) = true)
    (a15 : PySem.W.nsIn K mainGlobals "_law_text" = some (some (.ref f15)))
    (l15 : K.lookup f15 = some ⟨oc15, od15, .func (PySem.W.fnOf "_law_text" "_law_text" (defArgs sText) (defBody sText) (defScope sText) .none kV15 dc15 pm15 an15 cd15 ct15), sl15⟩)
    (c15 : PySem.W.codeIn K cd15 "_law_text" = true)
    (k15 : PySem.W.keepIn K (.ref f15) = true)
    (a16 : PySem.W.nsIn K mainGlobals "_law_size" = some (some (.ref f16)))
    (l16 : K.lookup f16 = some ⟨oc16, od16, .func (PySem.W.fnOf "_law_size" "_law_size" (defArgs sSize) (defBody sSize) (defScope sSize) .none kV16 dc16 pm16 an16 cd16 ct16), sl16⟩)
    (c16 : PySem.W.codeIn K cd16 "_law_size" = true)
    (k16 : PySem.W.keepIn K (.ref f16) = true)
    (a17 : PySem.W.nsIn K mainGlobals "_law_value" = some (some (.ref f17)))
    (l17 : K.lookup f17 = some ⟨oc17, od17, .func (PySem.W.fnOf "_law_value" "_law_value" (defArgs sValue) (defBody sValue) (defScope sValue) .none kV17 dc17 pm17 an17 cd17 ct17), sl17⟩)
    (c17 : PySem.W.codeIn K cd17 "_law_value" = true)
    (k17 : PySem.W.keepIn K (.ref f17) = true)
    (a18 : PySem.W.nsIn K mainGlobals "_law_great" = some (some (.ref f18)))
    (l18 : K.lookup f18 = some ⟨oc18, od18, .func (PySem.W.fnOf "_law_great" "_law_great" (defArgs sGreat) (defBody sGreat) (defScope sGreat) .none kV18 dc18 pm18 an18 cd18 ct18), sl18⟩)
    (c18 : PySem.W.codeIn K cd18 "_law_great" = true)
    (k18 : PySem.W.keepIn K (.ref f18) = true)
    (a19 : PySem.W.nsIn K mainGlobals "_law_leaf" = some (some (.ref f19)))
    (l19 : K.lookup f19 = some ⟨oc19, od19, .func (PySem.W.fnOf "_law_leaf" "_law_leaf" (defArgs s__law_leaf) (defBody s__law_leaf) (defScope s__law_leaf) .none kV19 dc19 pm19 an19 cd19 ct19), sl19⟩)
    (c19 : PySem.W.codeIn K cd19 "_law_leaf" = true)
    (k19 : PySem.W.keepIn K (.ref f19) = true)
    (a20 : PySem.W.nsIn K mainGlobals "_law_shape" = some (some (.ref f20)))
    (l20 : K.lookup f20 = some ⟨oc20, od20, .func (PySem.W.fnOf "_law_shape" "_law_shape" (defArgs s__law_shape) (defBody s__law_shape) (defScope s__law_shape) .none kV20 dc20 pm20 an20 cd20 ct20), sl20⟩)
    (c20 : PySem.W.codeIn K cd20 "_law_shape" = true)
    (k20 : PySem.W.keepIn K (.ref f20) = true)
    (a21 : PySem.W.nsIn K mainGlobals "_law_has" = some (some (.ref f21)))
    (l21 : K.lookup f21 = some ⟨oc21, od21, .func (PySem.W.fnOf "_law_has" "_law_has" (defArgs s__law_has) (defBody s__law_has) (defScope s__law_has) .none kV21 dc21 pm21 an21 cd21 ct21), sl21⟩)
    (c21 : PySem.W.codeIn K cd21 "_law_has" = true)
    (k21 : PySem.W.keepIn K (.ref f21) = true)
    (a22 : PySem.W.nsIn K mainGlobals "_law_all" = some (some (.ref f22)))
    (l22 : K.lookup f22 = some ⟨oc22, od22, .func (PySem.W.fnOf "_law_all" "_law_all" (defArgs s__law_all) (defBody s__law_all) (defScope s__law_all) .none kV22 dc22 pm22 an22 cd22 ct22), sl22⟩)
    (c22 : PySem.W.codeIn K cd22 "_law_all" = true)
    (k22 : PySem.W.keepIn K (.ref f22) = true)
    (a23 : PySem.W.nsIn K mainGlobals "law" = some (some (.ref f23)))
    (l23 : K.lookup f23 = some ⟨oc23, od23, .func (PySem.W.fnOf "law" "law" (defArgs sLaw) (defBody sLaw) (defScope sLaw) .none kV23 dc23 pm23 an23 cd23 ct23), sl23⟩)
    (c23 : PySem.W.codeIn K cd23 "law" = true)
    (k23 : PySem.W.keepIn K (.ref f23) = true)
    (aC : PySem.W.nsIn K mainGlobals "Shape" = some (some (.ref C)))
    (aM0 : PySem.W.findIn K (.ref C) "__init__" = some (some (.ref h0)))
    (lM0 : K.lookup h0 = some ⟨ocM0, odM0, .func (PySem.W.fnOf "__init__" "Shape.__init__" (defArgs mShape_init) (defBody mShape_init) (defScope mShape_init) .none kVM0 dcM0 pmM0 anM0 cdM0 ctM0), slM0⟩)
    (cM0 : PySem.W.codeIn K cdM0 "Shape.__init__" = true)
    (kM0 : PySem.W.keepIn K (.ref h0) = true)
    (iM0 : PySem.W.isFn K (.ref h0) = true)
    (aM1 : PySem.W.findIn K (.ref C) "__contains__" = some (some (.ref h1)))
    (lM1 : K.lookup h1 = some ⟨ocM1, odM1, .func (PySem.W.fnOf "__contains__" "Shape.__contains__" (defArgs mShape_contains) (defBody mShape_contains) (defScope mShape_contains) .none kVM1 dcM1 pmM1 anM1 cdM1 ctM1), slM1⟩)
    (cM1 : PySem.W.codeIn K cdM1 "Shape.__contains__" = true)
    (kM1 : PySem.W.keepIn K (.ref h1) = true)
    (iM1 : PySem.W.isFn K (.ref h1) = true)
    (aM2 : PySem.W.findIn K (.ref C) "__or__" = some (some (.ref h2)))
    (lM2 : K.lookup h2 = some ⟨ocM2, odM2, .func (PySem.W.fnOf "__or__" "Shape.__or__" (defArgs mShape_or) (defBody mShape_or) (defScope mShape_or) .none kVM2 dcM2 pmM2 anM2 cdM2 ctM2), slM2⟩)
    (cM2 : PySem.W.codeIn K cdM2 "Shape.__or__" = true)
    (kM2 : PySem.W.keepIn K (.ref h2) = true)
    (iM2 : PySem.W.isFn K (.ref h2) = true)
    (aM3 : PySem.W.findIn K (.ref C) "__and__" = some (some (.ref h3)))
    (lM3 : K.lookup h3 = some ⟨ocM3, odM3, .func (PySem.W.fnOf "__and__" "Shape.__and__" (defArgs mShape_and) (defBody mShape_and) (defScope mShape_and) .none kVM3 dcM3 pmM3 anM3 cdM3 ctM3), slM3⟩)
    (cM3 : PySem.W.codeIn K cdM3 "Shape.__and__" = true)
    (kM3 : PySem.W.keepIn K (.ref h3) = true)
    (iM3 : PySem.W.isFn K (.ref h3) = true)
    (aM4 : PySem.W.findIn K (.ref C) "__sub__" = some (some (.ref h4)))
    (lM4 : K.lookup h4 = some ⟨ocM4, odM4, .func (PySem.W.fnOf "__sub__" "Shape.__sub__" (defArgs mShape_sub) (defBody mShape_sub) (defScope mShape_sub) .none kVM4 dcM4 pmM4 anM4 cdM4 ctM4), slM4⟩)
    (cM4 : PySem.W.codeIn K cdM4 "Shape.__sub__" = true)
    (kM4 : PySem.W.keepIn K (.ref h4) = true)
    (iM4 : PySem.W.isFn K (.ref h4) = true)
    (aM5 : PySem.W.findIn K (.ref C) "__invert__" = some (some (.ref h5)))
    (lM5 : K.lookup h5 = some ⟨ocM5, odM5, .func (PySem.W.fnOf "__invert__" "Shape.__invert__" (defArgs mShape_invert) (defBody mShape_invert) (defScope mShape_invert) .none kVM5 dcM5 pmM5 anM5 cdM5 ctM5), slM5⟩)
    (cM5 : PySem.W.codeIn K cdM5 "Shape.__invert__" = true)
    (kM5 : PySem.W.keepIn K (.ref h5) = true)
    (iM5 : PySem.W.isFn K (.ref h5) = true)
    (pg : PySem.W.plainGet K C Str.empty = true)
    (hd : PySem.W.hasDictIn K C = true)
    (po : PySem.W.plainOver K C = true)
    (sa : PySem.W.findIn K (.ref C) "__setattr__" = some (some (.builtin "object.__setattr__")))
    (mk : PySem.W.makesIn K C = true)
    (kc : PySem.W.keepIn K (.ref C) = true)
    (nR : PySem.W.findIn K (.ref C) "recipe" = some none)
    (nP : PySem.W.findIn K (.ref C) "_plan" = some none)
    (ha : PySem.W.findIn K (.ref C) "__class__" = some (some (.builtin "object.__class__")))
    (hn : PySem.W.specialIn K (.builtin "object.__class__") "__get__" = some (some (.builtin "getset_descriptor.__get__")))
    (ht : PySem.W.takesIn K (.builtin "object.__class__") = some true)
    (hm : PySem.W.mroIn K C (.type "object") = some true)
    (tC : PySem.W.typeIn K (.ref C) = some (.type "type"))
    (uS : PySem.W.subIn K (.type "str") (.ref C) = some false)
    (uL : PySem.W.subIn K (.type "list") (.ref C) = some false)
    (uN : PySem.W.subIn K (.type "NoneType") (.ref C) = some false)
    (aAl : PySem.W.nsIn K mainGlobals "ALPHABET" = some (some (.str "abcdefghijklmnopqrstuvwxyz" tA)))
    (q0 : PySem.W.nsIn K mainGlobals "MOST_ASKED" = some (some (.int 8 tq0)))
    (q1 : PySem.W.nsIn K mainGlobals "EVERY_STEP" = some (some (.int 255 tq1)))
    (q2 : PySem.W.nsIn K mainGlobals "NOTHING" = some (some (.int 256 tq2)))
    (q3 : PySem.W.nsIn K mainGlobals "TEXTS" = some (some (.int 257 tq3)))
    (q4 : PySem.W.nsIn K mainGlobals "LONG" = some (some (.int 4 tq4)))
    (q5 : PySem.W.nsIn K mainGlobals "EVERY_LOOK" = some (some (.int 7410693711188236507108543040556026102609279018600996098525285376506440296955903 tq5)))
    (aLV : PySem.W.nsIn K mainGlobals "LEAVES" = some (some (.ref aV)))
    (lLV : K.lookup aV = some ⟨.type "tuple", odlLV, .seq #[.int 256 tv0, .int 257 tv1, .int 258 tv2, .int 259 tv3, .int 260 tv4, .int 261 tv5] nlLV, sllLV⟩)
    (aAI : PySem.W.nsIn K mainGlobals "ALL_IN" = some (some (.ref aI)))
    (lAI : K.lookup aI = some ⟨.type "tuple", odlAI, .seq #[.int 77194726158210796949047323339125271902179989777093709359638389338608753093290 ti0, .int 92633671389852956338856788006950326282615987732512451231566067206330503711948 ti1, .int 108980789870415242751596221184647442685430573802955824978313020242741769072880 ti2, .int 115341536360906404779899502576747487978354537254490211650198994186870666100480 ti3, .int 115790322417210952336529717160220497262186272106556906860092653394915770695680 ti4, .int 115792089210356248762697446947946071893095522863849111501270640965525260206080 ti5, .int 115792089237316195417293883273301227089774477609353836086800156426807153786880 ti6, .int 115792089237316195423570985008687907852929702298719625575994209400481361428480 ti7] nlAI, sllAI⟩)
    (aNP : PySem.W.nsIn K mainGlobals "NO_PLAN" = some (some (.ref aN)))
    (lNP : K.lookup aN = some ⟨.type "tuple", odlNP, .seq #[.ref e1, .ref e2, .ref e3, .ref e4] nlNP, sllNP⟩)
    (lE1 : K.lookup e1 = some ⟨.type "tuple", odlE1, .seq #[] nlE1, sllE1⟩)
    (lE2 : K.lookup e2 = some ⟨.type "tuple", odlE2, .seq #[] nlE2, sllE2⟩)
    (lE3 : K.lookup e3 = some ⟨.type "tuple", odlE3, .seq #[] nlE3, sllE3⟩)
    (lE4 : K.lookup e4 = some ⟨.type "tuple", odlE4, .seq #[.int 0 te0, .int 0 te1, .int 0 te2, .int 0 te3, .int 0 te4, .int 0 te5] nlE4, sllE4⟩)
    (rdO : PySem.W.readsIn K C (.type "type") = true)
    (gaO : PySem.W.specialIn K (.ref C) "__getattribute__" = some (some (.builtin "type.__getattribute__")))
    (sF : PySem.W.selfFirst K C = true)
    (a_every : PySem.W.findIn K (.ref C) "every" = some (some (.ref pevery)))
    (r_every : PySem.W.recIn K pevery "classmethod" = some (.ref h_every :: restevery))
    (f_every : PySem.W.fnIn K h_every = true)
    (fc_every : PySem.W.findCls K (.ref C) (.type "type") "every" = some (.get (.builtin "classmethod.__get__") (.ref pevery) .none (.ref C)))
    (a_never : PySem.W.findIn K (.ref C) "never" = some (some (.ref pnever)))
    (r_never : PySem.W.recIn K pnever "classmethod" = some (.ref h_never :: restnever))
    (f_never : PySem.W.fnIn K h_never = true)
    (fc_never : PySem.W.findCls K (.ref C) (.type "type") "never" = some (.get (.builtin "classmethod.__get__") (.ref pnever) .none (.ref C)))
    (a_nothing : PySem.W.findIn K (.ref C) "nothing" = some (some (.ref pnothing)))
    (r_nothing : PySem.W.recIn K pnothing "classmethod" = some (.ref h_nothing :: restnothing))
    (f_nothing : PySem.W.fnIn K h_nothing = true)
    (fc_nothing : PySem.W.findCls K (.ref C) (.type "type") "nothing" = some (.get (.builtin "classmethod.__get__") (.ref pnothing) .none (.ref C)))
    (a_texts : PySem.W.findIn K (.ref C) "texts" = some (some (.ref ptexts)))
    (r_texts : PySem.W.recIn K ptexts "classmethod" = some (.ref h_texts :: resttexts))
    (f_texts : PySem.W.fnIn K h_texts = true)
    (fc_texts : PySem.W.findCls K (.ref C) (.type "type") "texts" = some (.get (.builtin "classmethod.__get__") (.ref ptexts) .none (.ref C)))
    (a_lists : PySem.W.findIn K (.ref C) "lists" = some (some (.ref plists)))
    (r_lists : PySem.W.recIn K plists "classmethod" = some (.ref h_lists :: restlists))
    (f_lists : PySem.W.fnIn K h_lists = true)
    (fc_lists : PySem.W.findCls K (.ref C) (.type "type") "lists" = some (.get (.builtin "classmethod.__get__") (.ref plists) .none (.ref C)))
    (a_nested : PySem.W.findIn K (.ref C) "nested" = some (some (.ref pnested)))
    (r_nested : PySem.W.recIn K pnested "classmethod" = some (.ref h_nested :: restnested))
    (f_nested : PySem.W.fnIn K h_nested = true)
    (fc_nested : PySem.W.findCls K (.ref C) (.type "type") "nested" = some (.get (.builtin "classmethod.__get__") (.ref pnested) .none (.ref C)))
    (lcevery : K.lookup h_every = some ⟨occevery, odcevery, .func (PySem.W.fnOf "every" "Shape.every" (defArgs mShape_every) (defBody mShape_every) (defScope mShape_every) .none kVcevery dccevery pmcevery ancevery cdcevery ctcevery), slcevery⟩)
    (ccevery : PySem.W.codeIn K cdcevery "Shape.every" = true)
    (kcevery : PySem.W.keepIn K (.ref h_every) = true)
    (lcnever : K.lookup h_never = some ⟨occnever, odcnever, .func (PySem.W.fnOf "never" "Shape.never" (defArgs mShape_never) (defBody mShape_never) (defScope mShape_never) .none kVcnever dccnever pmcnever ancnever cdcnever ctcnever), slcnever⟩)
    (ccnever : PySem.W.codeIn K cdcnever "Shape.never" = true)
    (kcnever : PySem.W.keepIn K (.ref h_never) = true)
    (lcnothing : K.lookup h_nothing = some ⟨occnothing, odcnothing, .func (PySem.W.fnOf "nothing" "Shape.nothing" (defArgs mShape_nothing) (defBody mShape_nothing) (defScope mShape_nothing) .none kVcnothing dccnothing pmcnothing ancnothing cdcnothing ctcnothing), slcnothing⟩)
    (ccnothing : PySem.W.codeIn K cdcnothing "Shape.nothing" = true)
    (kcnothing : PySem.W.keepIn K (.ref h_nothing) = true)
    (lctexts : K.lookup h_texts = some ⟨occtexts, odctexts, .func (PySem.W.fnOf "texts" "Shape.texts" (defArgs mShape_texts) (defBody mShape_texts) (defScope mShape_texts) (.ref TD) kVctexts dcctexts pmctexts anctexts cdctexts ctctexts), slctexts⟩)
    (cctexts : PySem.W.codeIn K cdctexts "Shape.texts" = true)
    (kctexts : PySem.W.keepIn K (.ref h_texts) = true)
    (lclists : K.lookup h_lists = some ⟨occlists, odclists, .func (PySem.W.fnOf "lists" "Shape.lists" (defArgs mShape_lists) (defBody mShape_lists) (defScope mShape_lists) .none kVclists dcclists pmclists anclists cdclists ctclists), slclists⟩)
    (cclists : PySem.W.codeIn K cdclists "Shape.lists" = true)
    (kclists : PySem.W.keepIn K (.ref h_lists) = true)
    (lcnested : K.lookup h_nested = some ⟨occnested, odcnested, .func (PySem.W.fnOf "nested" "Shape.nested" (defArgs mShape_nested) (defBody mShape_nested) (defScope mShape_nested) .none kVcnested dccnested pmcnested ancnested cdcnested ctcnested), slcnested⟩)
    (ccnested : PySem.W.codeIn K cdcnested "Shape.nested" = true)
    (kcnested : PySem.W.keepIn K (.ref h_nested) = true)
    (lTD : K.lookup TD = some ⟨.type "tuple", odlTD, .seq #[.int 0 tD, .none] nlTD, sllTD⟩)
    (zisinstance : PySem.W.nsIn K mainGlobals "isinstance" = some none)
    (zlist : PySem.W.nsIn K mainGlobals "list" = some none)
    (ztuple : PySem.W.nsIn K mainGlobals "tuple" = some none)
    (zlen : PySem.W.nsIn K mainGlobals "len" = some none)
    (zabs : PySem.W.nsIn K mainGlobals "abs" = some none)
    (zenumerate : PySem.W.nsIn K mainGlobals "enumerate" = some none)
    (zint : PySem.W.nsIn K mainGlobals "int" = some none)
    (zrange : PySem.W.nsIn K mainGlobals "range" = some none)
    (zsum : PySem.W.nsIn K mainGlobals "sum" = some none)
    (zmin : PySem.W.nsIn K mainGlobals "min" = some none)
    (zmax : PySem.W.nsIn K mainGlobals "max" = some none)
    (zrepr : PySem.W.nsIn K mainGlobals "repr" = some none)
    (zstr : PySem.W.nsIn K mainGlobals "str" = some none)
    (zall : PySem.W.nsIn K mainGlobals "all" = some none) :
    ∃ fd : FuncData, (∀ (s : Shared) (v : Value), BindsTo s fd ⟨[v], []⟩ [("_law_script", v)]) ∧ ∀ base : Heap, K.In base → base.Ns mainGlobals mg → FnG P w K mg base CX0 32 fa fd ["_law_script"] (spLaw K) := by
  have e := hfa.symm.trans (PySem.W.mg_of X G a23)
  cases e
  have F0 := fun_mk (st := sParts) l0 c0 k0
  have F1 := fun_mk (st := s_row_of_texts) l1 c1 k1
  have F2 := fun_mk (st := s_row_of_step) l2 c2 k2
  have F3 := fun_mk (st := s_step_asked) l3 c3 k3
  have F4 := fun_mk (st := s_has_row) l4 c4 k4
  have F5 := fun_mk (st := s_told_by) l5 c5 k5
  have F6 := fun_mk (st := s_longer_plan) l6 c6 k6
  have F7 := fun_mk (st := s_leaf_number) l7 c7 k7
  have F8 := fun_mk (st := s_list_look) l8 c8 k8
  have F9 := fun_mk (st := s_is_member) l9 c9 k9
  have F10 := fun_mk (st := s_first_step) l10 c10 k10
  have F11 := fun_mk (st := s_step_above) l11 c11 k11
  have F12 := fun_mk (st := s_step_over_both) l12 c12 k12
  have F13 := fun_mk (st := sBag) l13 c13 k13
  have F14 := fun_mk (st := sTake) l14 c14 k14
  have F15 := fun_mk (st := sText) l15 c15 k15
  have F16 := fun_mk (st := sSize) l16 c16 k16
  have F17 := fun_mk (st := sValue) l17 c17 k17
  have F18 := fun_mk (st := sGreat) l18 c18 k18
  have F19 := fun_mk (st := s__law_leaf) l19 c19 k19
  have F20 := fun_mk (st := s__law_shape) l20 c20 k20
  have F21 := fun_mk (st := s__law_has) l21 c21 k21
  have F22 := fun_mk (st := s__law_all) l22 c22 k22
  have F23 := fun_mk (st := sLaw) l23 c23 k23
  have b0 := F0.binds (ps := ["thing"]) fun _ _ _ _ _ _ us hl => match us, hl with | [_], _ => rfl
  have g0 := PySem.W.mg_of X G a0
  have b1 := F1.binds (ps := ["numbers"]) fun _ _ _ _ _ _ us hl => match us, hl with | [_], _ => rfl
  have g1 := PySem.W.mg_of X G a1
  have b2 := F2.binds (ps := ["step", "rows", "lists"]) fun _ _ _ _ _ _ us hl => match us, hl with | [_, _, _], _ => rfl
  have g2 := PySem.W.mg_of X G a2
  have b3 := F3.binds (ps := ["number", "step"]) fun _ _ _ _ _ _ us hl => match us, hl with | [_, _], _ => rfl
  have g3 := PySem.W.mg_of X G a3
  have b4 := F4.binds (ps := ["step"]) fun _ _ _ _ _ _ us hl => match us, hl with | [_], _ => rfl
  have g4 := PySem.W.mg_of X G a4
  have b5 := F5.binds (ps := ["rows", "look"]) fun _ _ _ _ _ _ us hl => match us, hl with | [_, _], _ => rfl
  have g5 := PySem.W.mg_of X G a5
  have b6 := F6.binds (ps := ["plan", "recipe"]) fun _ _ _ _ _ _ us hl => match us, hl with | [_, _], _ => rfl
  have g6 := PySem.W.mg_of X G a6
  have b7 := F7.binds (ps := ["thing"]) fun _ _ _ _ _ _ us hl => match us, hl with | [_], _ => rfl
  have g7 := PySem.W.mg_of X G a7
  have b8 := F8.binds (ps := ["asked_rows", "leaves", "value"]) fun _ _ _ _ _ _ us hl => match us, hl with | [_, _, _], _ => rfl
  have g8 := PySem.W.mg_of X G a8
  have b9 := F9.binds (ps := ["plan", "thing"]) fun _ _ _ _ _ _ us hl => match us, hl with | [_, _], _ => rfl
  have g9 := PySem.W.mg_of X G a9
  have b10 := F10.binds (ps := ["sign", "numbers"]) fun _ _ _ _ _ _ us hl => match us, hl with | [_, _], _ => rfl
  have g10 := PySem.W.mg_of X G a10
  have b11 := F11.binds (ps := ["sign", "recipe"]) fun _ _ _ _ _ _ us hl => match us, hl with | [_, _], _ => rfl
  have g11 := PySem.W.mg_of X G a11
  have b12 := F12.binds (ps := ["sign", "one", "other"]) fun _ _ _ _ _ _ us hl => match us, hl with | [_, _, _], _ => rfl
  have g12 := PySem.W.mg_of X G a12
  have b13 := F13.binds (ps := ["_law_script", "_law_at"]) fun _ _ _ _ _ _ us hl => match us, hl with | [_, _], _ => rfl
  have g13 := PySem.W.mg_of X G a13
  have b14 := F14.binds (ps := ["_law_bag_here", "_law_many"]) fun _ _ _ _ _ _ us hl => match us, hl with | [_, _], _ => rfl
  have g14 := PySem.W.mg_of X G a14
  have b15 := F15.binds (ps := ["_law_bag_here", "_law_most"]) fun _ _ _ _ _ _ us hl => match us, hl with | [_, _], _ => rfl
  have g15 := PySem.W.mg_of X G a15
  have b16 := F16.binds (ps := ["_law_value_here"]) fun _ _ _ _ _ _ us hl => match us, hl with | [_], _ => rfl
  have g16 := PySem.W.mg_of X G a16
  have b17 := F17.binds (ps := ["_law_bag_here", "_law_deep", "_law_room"]) fun _ _ _ _ _ _ us hl => match us, hl with | [_, _, _], _ => rfl
  have g17 := PySem.W.mg_of X G a17
  have b18 := F18.binds (ps := ["_law_bag_here"]) fun _ _ _ _ _ _ us hl => match us, hl with | [_], _ => rfl
  have g18 := PySem.W.mg_of X G a18
  have b19 := F19.binds (ps := ["_law_bag_here"]) fun _ _ _ _ _ _ us hl => match us, hl with | [_], _ => rfl
  have g19 := PySem.W.mg_of X G a19
  have b20 := F20.binds (ps := ["_law_bag_here", "_law_deep", "_law_left"]) fun _ _ _ _ _ _ us hl => match us, hl with | [_, _, _], _ => rfl
  have g20 := PySem.W.mg_of X G a20
  have b21 := F21.binds (ps := ["_law_node", "_law_value_here"]) fun _ _ _ _ _ _ us hl => match us, hl with | [_, _], _ => rfl
  have g21 := PySem.W.mg_of X G a21
  have b22 := F22.binds (ps := ["_law_value_here"]) fun _ _ _ _ _ _ us hl => match us, hl with | [_], _ => rfl
  have g22 := PySem.W.mg_of X G a22
  have E0 := fun_mk (st := mShape_init) lM0 cM0 kM0
  have d0 := E0.binds (ps := ["self", "recipe", "before"]) fun _ _ _ _ _ _ us hl => match us, hl with | [_, _, _], _ => rfl
  have m0 : Meth K C "__init__" h0 := ⟨aM0, iM0, kM0⟩
  have E1 := fun_mk (st := mShape_contains) lM1 cM1 kM1
  have d1 := E1.binds (ps := ["self", "x"]) fun _ _ _ _ _ _ us hl => match us, hl with | [_, _], _ => rfl
  have m1 : Meth K C "__contains__" h1 := ⟨aM1, iM1, kM1⟩
  have E2 := fun_mk (st := mShape_or) lM2 cM2 kM2
  have d2 := E2.binds (ps := ["self", "other"]) fun _ _ _ _ _ _ us hl => match us, hl with | [_, _], _ => rfl
  have m2 : Meth K C "__or__" h2 := ⟨aM2, iM2, kM2⟩
  have E3 := fun_mk (st := mShape_and) lM3 cM3 kM3
  have d3 := E3.binds (ps := ["self", "other"]) fun _ _ _ _ _ _ us hl => match us, hl with | [_, _], _ => rfl
  have m3 : Meth K C "__and__" h3 := ⟨aM3, iM3, kM3⟩
  have E4 := fun_mk (st := mShape_sub) lM4 cM4 kM4
  have d4 := E4.binds (ps := ["self", "other"]) fun _ _ _ _ _ _ us hl => match us, hl with | [_, _], _ => rfl
  have m4 : Meth K C "__sub__" h4 := ⟨aM4, iM4, kM4⟩
  have E5 := fun_mk (st := mShape_invert) lM5 cM5 kM5
  have d5 := E5.binds (ps := ["self"]) fun _ _ _ _ _ _ us hl => match us, hl with | [_], _ => rfl
  have m5 : Meth K C "__invert__" h5 := ⟨aM5, iM5, kM5⟩
  have Ecevery := fun_mk (st := mShape_every) lcevery ccevery kcevery
  have Ecnever := fun_mk (st := mShape_never) lcnever ccnever kcnever
  have Ecnothing := fun_mk (st := mShape_nothing) lcnothing ccnothing kcnothing
  have Eclists := fun_mk (st := mShape_lists) lclists cclists kclists
  have Ecnested := fun_mk (st := mShape_nested) lcnested ccnested kcnested
  have hTp : ∀ x : Str, PySem.W.nsIn K mainGlobals x = some none → mg x = none := fun x z => PySem.W.mg_none_of X G z
  have T : Ek K mg C := ⟨⟨pg, hd, po, sa⟩, nR, nP, PySem.W.mg_of X G aC⟩
  have M : Mk K C h0 := ⟨mk, aM0, iM0, kc⟩
  refine ⟨PySem.W.fnOf "law" "law" (defArgs sLaw) (defBody sLaw) (defScope sLaw) .none kV23 dc23 pm23 an23 cd23 ct23, fun s v => .of_eq rfl, fun base _ _ => ?_⟩
  have NM : Nm mg := ⟨hTp _ zisinstance, hTp _ zlist, hTp _ ztuple⟩
  have NB : Nb mg := ⟨hTp _ zlen, hTp _ zabs, hTp _ zenumerate, hTp _ zint⟩
  have NK : Nk mg := ⟨hTp _ zstr⟩
  have NV : Nv mg := ⟨hTp _ zrange, hTp _ zsum, hTp _ zmin⟩
  have gT1 := PySem.W.mg_of X G q3
  have gL1 := PySem.W.mg_of X G q4
  have gV := PySem.W.mg_of X G aLV
  have gI := PySem.W.mg_of X G aAI
  have gN := PySem.W.mg_of X G aNP
  have hV : ∀ H, SqT K H aV leavesL := fun H => .inr ⟨_, _, _, lLV, rfl, rfl, (by show 6 ≤ sizeLine; decide), (.cons ⟨_, rfl⟩ (.cons ⟨_, rfl⟩ (.cons ⟨_, rfl⟩ (.cons ⟨_, rfl⟩ (.cons ⟨_, rfl⟩ (.cons ⟨_, rfl⟩ .nil))))))⟩
  have hI : ∀ H, SqT K H aI (allIn.map fun (n : Nat) => V.int n) := fun H => .inr ⟨_, _, _, lAI, rfl, rfl, (by show 8 ≤ sizeLine; decide), (.cons ⟨_, rfl⟩ (.cons ⟨_, rfl⟩ (.cons ⟨_, rfl⟩ (.cons ⟨_, rfl⟩ (.cons ⟨_, rfl⟩ (.cons ⟨_, rfl⟩ (.cons ⟨_, rfl⟩ (.cons ⟨_, rfl⟩ .nil))))))))⟩
  have NP : Np K aN e1 e2 e3 e4 := ⟨fun H => .inr ⟨_, _, _, lNP, rfl, rfl, (by show 4 ≤ sizeLine; decide), (.cons rfl (.cons rfl (.cons rfl (.cons rfl .nil))))⟩, fun H => .inr ⟨_, _, _, lE1, rfl, rfl, (by show 0 ≤ sizeLine; decide), .nil⟩, fun H => .inr ⟨_, _, _, lE2, rfl, rfl, (by show 0 ≤ sizeLine; decide), .nil⟩, fun H => .inr ⟨_, _, _, lE3, rfl, rfl, (by show 0 ≤ sizeLine; decide), .nil⟩, fun H => .inr ⟨_, _, _, lE4, rfl, rfl, (by show 6 ≤ sizeLine; decide), (.cons ⟨_, rfl⟩ (.cons ⟨_, rfl⟩ (.cons ⟨_, rfl⟩ (.cons ⟨_, rfl⟩ (.cons ⟨_, rfl⟩ (.cons ⟨_, rfl⟩ .nil))))))⟩⟩
  have GP : FnOk P w K mg base CX0 1 f0 _ ["thing"] (spParts K) := ok_parts F0 NM
  have GRT := ok_rowT (P := P) (w := w) (base := base) F1 NV gT1 gL1
  have GR := ok_row (P := P) (w := w) (base := base) F2 (PySem.W.mg_of X G q5) (PySem.W.mg_of X G q2) GRT g1 k1 b1
  have GA := ok_asked (P := P) (w := w) (mg := mg) (base := base) F3
  have GH := ok_hasRow (P := P) (w := w) (base := base) F4 gL1 (hTp _ zmax)
  have GTo := ok_toldN (P := P) (w := w) (mg := mg) (base := base) F5
  have GLo := ok_longer F6 NM NB (PySem.W.mg_of X G q0) gI hI gV hV GA g3 k3 b3 GH g4 k4 b4 GR g2 k2 b2 GTo g5 k5 b5
  have GLe := ok_leafN (P := P) (w := w) (base := base) F7 NM NK NB (PySem.W.mg_of X G aAl) gL1
  have GLk := ok_look F8 NM (PySem.W.mg_of X G q1) GP g0 k0 b0 GTo g5 k5 b5 GLe g7 k7 b7
  have GMe := ok_member F9 NM gV GLk g8 k8 b8 GLe g7 k7 b7
  have GFi := ok_first (P := P) (w := w) (mg := mg) (base := base) F10
  have GAb := ok_above (P := P) (w := w) (base := base) F11 NB
  have GBo := ok_both (P := P) (w := w) (base := base) F12 NM NB
  have GB : FnOk P w K mg base CX0 1 f13 _ ["_law_script", "_law_at"] (spBag K) := ok_bag (k := 0) F13 NB
  have GT : FnOk P w K mg base CX0 1 f14 _ ["_law_bag_here", "_law_many"] spTake := ok_take (k := 0) F14 NB
  have GX : FnOk P w K mg base CX0 2 f15 _ ["_law_bag_here", "_law_most"] spText := ok_text F15 NB NV F14 b14 g14
  have C1 : Vc P w K mg base f14 f15 f16 (PySem.W.fnOf "_law_take" "_law_take" (defArgs sTake) (defBody sTake) (defScope sTake) .none kV14 dc14 pm14 an14 cd14 ct14) (PySem.W.fnOf "_law_text" "_law_text" (defArgs sText) (defBody sText) (defScope sText) .none kV15 dc15 pm15 an15 cd15 ct15) (PySem.W.fnOf "_law_size" "_law_size" (defArgs sSize) (defBody sSize) (defScope sSize) .none kV16 dc16 pm16 an16 cd16 ct16) := ⟨GT, b14, g14, k14, GX, b15, g15, k15, fun N => ok_size F16 NM NB NV b16 g16 N, b16, g16, k16⟩
  have GV := ok_values F17 b17 g17 NV C1 4
  have GG := ok_great F18 NV C1 GV g17 k17 b17
  have I0 := ok_initS E0 T GLo g6 k6 b6
  have I9 := ok_conS E1 T hV GMe g9 k9 b9
  have Y1 := ok_every Ecevery M I0 d0 GFi g10 k10 b10 NP gN
  have Y2 := ok_never Ecnever M I0 d0 GFi g10 k10 b10 NP gN
  have Y3 := ok_nothing Ecnothing M I0 d0 GFi g10 k10 b10 NP gN
  have Y5 := ok_listsS Eclists T M I0 d0 GAb g11 k11 b11
  have Y6 := ok_nestedS Ecnested T M I0 d0 GAb g11 k11 b11
  have ED : FunD K "texts" "Shape.texts" (defArgs mShape_texts) (defBody mShape_texts) (defScope mShape_texts) [.int ((0 : Nat) : Int), hiV none] [] h_texts _ := ⟨⟨occtexts, odctexts, .ref TD, kVctexts, dcctexts, pmctexts, anctexts, cdctexts, ctctexts, slctexts, rfl, lctexts, cctexts, .inr ⟨by simp, TD, _, [.int 0 tD, .none], nlTD, rfl, lTD, rfl, .cons ⟨_, rfl⟩ (.cons rfl .nil)⟩, .inl rfl⟩, kctexts⟩
  have Y4 := ok_texts ED M I0 d0 GFi g10 k10 b10 NP gN
  obtain ⟨ds0, vd0, bd0⟩ := FunD.binds1 (ps := ["cls", "least", "most"]) ED 1 0 (by simp) rfl (fun T kV doc pm an cdv ct us its hu hi => match us, its, hu, hi with | [_], [_, _], _, _ => ⟨_, rfl, rfl⟩)
  obtain ⟨ds1, vd1, bd1⟩ := FunD.binds1 (ps := ["cls", "least", "most"]) ED 2 1 (by simp) rfl (fun T kV doc pm an cdv ct us its hu hi => match us, its, hu, hi with | [_, _], [_, _], _, _ => ⟨_, rfl, rfl⟩)
  obtain ⟨ds2, vd2, bd2⟩ := FunD.binds1 (ps := ["cls", "least", "most"]) ED 3 2 (by simp) rfl (fun T kV doc pm an cdv ct us its hu hi => match us, its, hu, hi with | [_, _, _], [_, _], _, _ => ⟨_, rfl, rfl⟩)
  have R40 : FnR P w K mg base CX0 6 h_texts (fun vs H Q E => spTexts K C (vs ++ [.int ((0 : Nat) : Int), hiV none]) H Q E) := FnOk.raw Y4 bd0 vd0
  have R41 : FnR P w K mg base CX0 6 h_texts (fun vs H Q E => spTexts K C (vs ++ [hiV none]) H Q E) := FnOk.raw Y4 bd1 vd1
  have R42 : FnR P w K mg base CX0 6 h_texts (spTexts K C) := (FnOk.raw Y4 bd2 vd2).imp fun vs H Q E h => by
    rw [show ([V.int ((0 : Nat) : Int), hiV none] : List V).drop 2 = [] from rfl, List.append_nil]
    exact h
  have RY1 : FnR P w K mg base CX0 6 h_every (spOne K C .every) := (FnOk.raw Y1 (Ecevery.binds (ps := ["cls"]) fun _ _ _ _ _ _ us hl => match us, hl with | [_], _ => rfl) .nil).imp fun vs H Q E h => by
    rw [List.append_nil]
    exact h
  have RY2 : FnR P w K mg base CX0 6 h_never (spOne K C .never) := (FnOk.raw Y2 (Ecnever.binds (ps := ["cls"]) fun _ _ _ _ _ _ us hl => match us, hl with | [_], _ => rfl) .nil).imp fun vs H Q E h => by
    rw [List.append_nil]
    exact h
  have RY3 : FnR P w K mg base CX0 6 h_nothing (spOne K C .nothing) := (FnOk.raw Y3 (Ecnothing.binds (ps := ["cls"]) fun _ _ _ _ _ _ us hl => match us, hl with | [_], _ => rfl) .nil).imp fun vs H Q E h => by
    rw [List.append_nil]
    exact h
  have RY5 : FnR P w K mg base CX0 6 h_lists (spOver K C .lists) := (FnOk.raw Y5 (Eclists.binds (ps := ["cls", "shape"]) fun _ _ _ _ _ _ us hl => match us, hl with | [_, _], _ => rfl) .nil).imp fun vs H Q E h => by
    rw [List.append_nil]
    exact h
  have RY6 : FnR P w K mg base CX0 6 h_nested (spOver K C .nested) := (FnOk.raw Y6 (Ecnested.binds (ps := ["cls", "shape"]) fun _ _ _ _ _ _ us hl => match us, hl with | [_, _], _ => rfl) .nil).imp fun vs H Q E h => by
    rw [List.append_nil]
    exact h
  have cr : ClX.CRead K C (.type "type") := ⟨rdO, gaO⟩
  have O1 := ok_orS E2 T M I0 d0 GBo g12 k12 b12
  have O2 := ok_andS E3 T M I0 d0 GBo g12 k12 b12
  have O3 := ok_subS E4 T M I0 d0 GBo g12 k12 b12
  have O4 := ok_invS E5 T M I0 d0 GAb g11 k11 b11
  have GLf := ok_leafS F19 T ⟨GT, b14, g14, k14, cr, ⟨fc_every, ⟨_, r_every⟩, f_every⟩, ⟨fc_never, ⟨_, r_never⟩, f_never⟩, ⟨fc_nothing, ⟨_, r_nothing⟩, f_nothing⟩, ⟨fc_texts, ⟨_, r_texts⟩, f_texts⟩, RY1, RY2, RY3, R40, R41, R42⟩
  have GSh := ok_shape F20 b20 g20 T ⟨GT, b14, g14, k14, GLf, b19, g19, k19, cr, ⟨fc_lists, ⟨_, r_lists⟩, f_lists⟩, ⟨fc_nested, ⟨_, r_nested⟩, f_nested⟩, RY5, RY6, O4, O1, O2, O3, m5, m2, m3, m4, d5, d2, d3, d4, sF⟩ 3
  have GHa := ok_has (P := P) (w := w) (base := base) F21 b21 g21 NM NK NB ⟨hTp _ zall⟩ 30
  have GAl := ok_all (P := P) (w := w) (base := base) F22 NM
  exact ok_law F23 ⟨hTp _ zmax, hTp _ zrepr⟩ NB NV ⟨GB, GV, GG, GLf, GHa, GSh, GAl, I9, O4, O1, O2, O3, b13, b17, b18, b19, b21, b20, b22, d1, d5, d2, d3, d4, g13, g17, g18, g19, g21, g20, g22, k13, k17, k18, k19, k21, k20, k22, m1, m5, m2, m3, m4, sF⟩
end TX
open PySem PySem.W PyProof.Rows
set_option maxRecDepth 100000 in
set_option maxHeartbeats 0 in
theorem PySem.Challenge.cw_textorlist_k16_shapes_by_operators_holds : PySem.Challenge.rw_textorlist_k16_shapes_by_operators.Holds := by
  w_on; o_law; k_head; (case hw => w_witness2)
  k_fill
  refine TX.walkG (l := PySem.Challenge.rw_textorlist_k16_shapes_by_operators) (n := 63) (k := 32) (x := "_law_script") (sp := fun w => TX.spLaw _) rfl (by decide) rfl ⟨rfl, by decide, by decide⟩ (fun w h Y => PySem.W.km_in_of Y) ?F (fun _ _ a ns hl _ hS => ⟨a, ns, rfl, hS, hl, fun _ => rfl⟩)
  case F =>
    intro w mg fa h KX G hmg
    refine' TX.all_mk KX G hmg ?a0 ?l0 ?c0 ?k0 ?a1 ?l1 ?c1 ?k1 ?a2 ?l2 ?c2 ?k2 ?a3 ?l3 ?c3 ?k3 ?a4 ?l4 ?c4 ?k4 ?a5 ?l5 ?c5 ?k5 ?a6 ?l6 ?c6 ?k6 ?a7 ?l7 ?c7 ?k7 ?a8 ?l8 ?c8 ?k8 ?a9 ?l9 ?c9 ?k9 ?a10 ?l10 ?c10 ?k10 ?a11 ?l11 ?c11 ?k11 ?a12 ?l12 ?c12 ?k12 ?a13 ?l13 ?c13 ?k13 ?a14 ?l14 ?c14 ?k14 ?a15 ?l15 ?c15 ?k15 ?a16 ?l16 ?c16 ?k16 ?a17 ?l17 ?c17 ?k17 ?a18 ?l18 ?c18 ?k18 ?a19 ?l19 ?c19 ?k19 ?a20 ?l20 ?c20 ?k20 ?a21 ?l21 ?c21 ?k21 ?a22 ?l22 ?c22 ?k22 ?a23 ?l23 ?c23 ?k23 ?aC ?aM0 ?lM0 ?cM0 ?kM0 ?iM0 ?aM1 ?lM1 ?cM1 ?kM1 ?iM1 ?aM2 ?lM2 ?cM2 ?kM2 ?iM2 ?aM3 ?lM3 ?cM3 ?kM3 ?iM3 ?aM4 ?lM4 ?cM4 ?kM4 ?iM4 ?aM5 ?lM5 ?cM5 ?kM5 ?iM5 ?pg ?hd ?po ?sa ?mk ?kc ?nR ?nP ?ha ?hn ?ht ?hm ?tC ?uS ?uL ?uN ?aAl ?q0 ?q1 ?q2 ?q3 ?q4 ?q5 ?aLV ?lLV ?aAI ?lAI ?aNP ?lNP ?lE1 ?lE2 ?lE3 ?lE4 ?rdO ?gaO ?sF ?a_every ?r_every ?f_every ?fc_every ?a_never ?r_never ?f_never ?fc_never ?a_nothing ?r_nothing ?f_nothing ?fc_nothing ?a_texts ?r_texts ?f_texts ?fc_texts ?a_lists ?r_lists ?f_lists ?fc_lists ?a_nested ?r_nested ?f_nested ?fc_nested ?lcevery ?ccevery ?kcevery ?lcnever ?ccnever ?kcnever ?lcnothing ?ccnothing ?kcnothing ?lctexts ?cctexts ?kctexts ?lclists ?cclists ?kclists ?lcnested ?ccnested ?kcnested ?lTD ?zisinstance ?zlist ?ztuple ?zlen ?zabs ?zenumerate ?zint ?zrange ?zsum ?zmin ?zmax ?zrepr ?zstr ?zall
    (case a0 => k_is)
    (case l0 => k_is)
    (case c0 => k_is)
    (case k0 => k_is)
    (case a1 => k_is)
    (case l1 => k_is)
    (case c1 => k_is)
    (case k1 => k_is)
    (case a2 => k_is)
    (case l2 => k_is)
    (case c2 => k_is)
    (case k2 => k_is)
    (case a3 => k_is)
    (case l3 => k_is)
    (case c3 => k_is)
    (case k3 => k_is)
    (case a4 => k_is)
    (case l4 => k_is)
    (case c4 => k_is)
    (case k4 => k_is)
    (case a5 => k_is)
    (case l5 => k_is)
    (case c5 => k_is)
    (case k5 => k_is)
    (case a6 => k_is)
    (case l6 => k_is)
    (case c6 => k_is)
    (case k6 => k_is)
    (case a7 => k_is)
    (case l7 => k_is)
    (case c7 => k_is)
    (case k7 => k_is)
    (case a8 => k_is)
    (case l8 => k_is)
    (case c8 => k_is)
    (case k8 => k_is)
    (case a9 => k_is)
    (case l9 => k_is)
    (case c9 => k_is)
    (case k9 => k_is)
    (case a10 => k_is)
    (case l10 => k_is)
    (case c10 => k_is)
    (case k10 => k_is)
    (case a11 => k_is)
    (case l11 => k_is)
    (case c11 => k_is)
    (case k11 => k_is)
    (case a12 => k_is)
    (case l12 => k_is)
    (case c12 => k_is)
    (case k12 => k_is)
    (case a13 => k_is)
    (case l13 => k_is)
    (case c13 => k_is)
    (case k13 => k_is)
    (case a14 => k_is)
    (case l14 => k_is)
    (case c14 => k_is)
    (case k14 => k_is)
    (case a15 => k_is)
    (case l15 => k_is)
    (case c15 => k_is)
    (case k15 => k_is)
    (case a16 => k_is)
    (case l16 => k_is)
    (case c16 => k_is)
    (case k16 => k_is)
    (case a17 => k_is)
    (case l17 => k_is)
    (case c17 => k_is)
    (case k17 => k_is)
    (case a18 => k_is)
    (case l18 => k_is)
    (case c18 => k_is)
    (case k18 => k_is)
    (case a19 => k_is)
    (case l19 => k_is)
    (case c19 => k_is)
    (case k19 => k_is)
    (case a20 => k_is)
    (case l20 => k_is)
    (case c20 => k_is)
    (case k20 => k_is)
    (case a21 => k_is)
    (case l21 => k_is)
    (case c21 => k_is)
    (case k21 => k_is)
    (case a22 => k_is)
    (case l22 => k_is)
    (case c22 => k_is)
    (case k22 => k_is)
    (case a23 => k_is)
    (case l23 => k_is)
    (case c23 => k_is)
    (case k23 => k_is)
    (case aC => k_is)
    (case aM0 => k_is)
    (case lM0 => k_is)
    (case cM0 => k_is)
    (case kM0 => k_is)
    (case iM0 => k_is)
    (case aM1 => k_is)
    (case lM1 => k_is)
    (case cM1 => k_is)
    (case kM1 => k_is)
    (case iM1 => k_is)
    (case aM2 => k_is)
    (case lM2 => k_is)
    (case cM2 => k_is)
    (case kM2 => k_is)
    (case iM2 => k_is)
    (case aM3 => k_is)
    (case lM3 => k_is)
    (case cM3 => k_is)
    (case kM3 => k_is)
    (case iM3 => k_is)
    (case aM4 => k_is)
    (case lM4 => k_is)
    (case cM4 => k_is)
    (case kM4 => k_is)
    (case iM4 => k_is)
    (case aM5 => k_is)
    (case lM5 => k_is)
    (case cM5 => k_is)
    (case kM5 => k_is)
    (case iM5 => k_is)
    (case pg => k_is)
    (case hd => k_is)
    (case po => k_is)
    (case sa => k_is)
    (case mk => k_is)
    (case kc => k_is)
    (case nR => k_is)
    (case nP => k_is)
    (case ha => k_is)
    (case hn => k_is)
    (case ht => k_is)
    (case hm => k_is)
    (case tC => k_is)
    (case uS => k_is)
    (case uL => k_is)
    (case uN => k_is)
    (case aAl => k_is)
    (case q0 => k_is)
    (case q1 => k_is)
    (case q2 => k_is)
    (case q3 => k_is)
    (case q4 => k_is)
    (case q5 => k_is)
    (case aLV => k_is)
    (case lLV => k_is)
    (case aAI => k_is)
    (case lAI => k_is)
    (case aNP => k_is)
    (case lNP => k_is)
    (case lE1 => k_is)
    (case lE2 => k_is)
    (case lE3 => k_is)
    (case lE4 => k_is)
    (case rdO => first | k_is | rfl | decide +kernel)
    (case gaO => first | k_is | rfl | decide +kernel)
    (case sF => first | k_is | rfl | decide +kernel)
    (case a_every => k_is)
    (case r_every => first | k_is | rfl | decide +kernel)
    (case f_every => first | k_is | rfl | decide +kernel)
    (case fc_every => first | k_is | rfl | decide +kernel)
    (case a_never => k_is)
    (case r_never => first | k_is | rfl | decide +kernel)
    (case f_never => first | k_is | rfl | decide +kernel)
    (case fc_never => first | k_is | rfl | decide +kernel)
    (case a_nothing => k_is)
    (case r_nothing => first | k_is | rfl | decide +kernel)
    (case f_nothing => first | k_is | rfl | decide +kernel)
    (case fc_nothing => first | k_is | rfl | decide +kernel)
    (case a_texts => k_is)
    (case r_texts => first | k_is | rfl | decide +kernel)
    (case f_texts => first | k_is | rfl | decide +kernel)
    (case fc_texts => first | k_is | rfl | decide +kernel)
    (case a_lists => k_is)
    (case r_lists => first | k_is | rfl | decide +kernel)
    (case f_lists => first | k_is | rfl | decide +kernel)
    (case fc_lists => first | k_is | rfl | decide +kernel)
    (case a_nested => k_is)
    (case r_nested => first | k_is | rfl | decide +kernel)
    (case f_nested => first | k_is | rfl | decide +kernel)
    (case fc_nested => first | k_is | rfl | decide +kernel)
    (case lcevery => k_is)
    (case ccevery => k_is)
    (case kcevery => k_is)
    (case lcnever => k_is)
    (case ccnever => k_is)
    (case kcnever => k_is)
    (case lcnothing => k_is)
    (case ccnothing => k_is)
    (case kcnothing => k_is)
    (case lctexts => k_is)
    (case cctexts => k_is)
    (case kctexts => k_is)
    (case lclists => k_is)
    (case cclists => k_is)
    (case kclists => k_is)
    (case lcnested => k_is)
    (case ccnested => k_is)
    (case kcnested => k_is)
    (case lTD => k_is)
    (case zisinstance => k_is)
    (case zlist => k_is)
    (case ztuple => k_is)
    (case zlen => k_is)
    (case zabs => k_is)
    (case zenumerate => k_is)
    (case zint => k_is)
    (case zrange => k_is)
    (case zsum => k_is)
    (case zmin => k_is)
    (case zmax => k_is)
    (case zrepr => k_is)
    (case zstr => k_is)
    (case zall => k_is)
