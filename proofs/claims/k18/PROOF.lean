import PyProof.Rows.All
import PyProof.ListStr
import HandS.Flow
import HandS.StrMore
import HandS.Iter
import HandS.Walk
import Wide.All
import OpenK.AllK
import Wide.FinOn
import HandS.ForMost
import HandS.Style
import HandS.IsInst
import HandS.ExcInit
import HandS.ExcIs
import HandS.ExcField
import HandS.ForExc
import HandS.TupAny
import PyProof.InstNe
import PyProof.MeetsIn
import PyProof.Rows.Range3
import HandS.OwnEq
import HandS.Small
import KE.KOpsOwn
import HandS.Codes
import PyProof.LongRange
import PyProof.ListMulRight
import HandS.TupLe
import HandS.ClsMeth
import HandS.Codes
import HandS.Defaults
import HandS.Dict
import HandS.EndTab
import HandS.ExcField
import HandS.ExcInit
import HandS.ExcIs
import HandS.Flow
import HandS.ForExc
import HandS.ForMost
import HandS.IsInst
import HandS.Iter
import HandS.Lambda
import HandS.MakeKw
import HandS.OwnEq
import HandS.Set
import HandS.SetFor
import HandS.SetIn
import HandS.SetKeys
import HandS.Small
import HandS.Star
import HandS.StrMore
import HandS.Style
import HandS.TupAny
import HandS.TupLe
import HandS.Walk
import KE.BitLaws
import KE.GoesMore
import KE.GoesNewDict
import KE.KDictCopyH
import KE.KDictWalk
import KE.KMinKey
import KE.KOpsOwn
import KE.KeyNested
import OpenK.AllK
import OpenK.KMeth
import PyProof.DictStraight
import PyProof.Draws
import PyProof.EnumMake
import PyProof.InstNe
import PyProof.ListMulRight
import PyProof.ListStr
import PyProof.LongRange
import PyProof.MeetsIn
import PyProof.Rows.All
import PyProof.Rows.Range3
import PyProof.WalkInts
import Wide.All
import Wide.FinOn
import PySem.Challenge.RW_textorlist_k18_equal_shapes
set_option Elab.async false
set_option linter.all false
set_option maxRecDepth 100000
set_option maxHeartbeats 8000000
set_option exponentiation.threshold 300
namespace TX
open PySem PySem.Spec PyProof.Rows L2

/-! ### either of two rules -/
section
variable {X : Cx}
theorem pe_alt {e : Expr} {t u : TE} (h1 : PE X e t) (h2 : PE X e u) : PE X e (fun σ H Q => t σ H Q ∨ u σ H Q) :=
  ⟨fun pins s σ H Q I h => h.elim (h1.run pins s σ H Q I) (h2.run pins s σ H Q I)⟩
theorem ps_alt {e : Stmt} {t u : TS} (h1 : PS X e t) (h2 : PS X e u) : PS X e (fun D σ H => t D σ H ∨ u D σ H) :=
  ⟨fun pins s σ H D I h => h.elim (h1.run pins s σ H D I) (h2.run pins s σ H D I)⟩
theorem pi_alt {tg e : Expr} {t u : TI} (h1 : PI X tg e t) (h2 : PI X tg e u) : PI X tg e (fun σ H R => t σ H R ∨ u σ H R) :=
  ⟨fun pins s σ H R I h => h.elim (h1.run pins s σ H R I) (h2.run pins s σ H R I)⟩
end

/-! ### data stays where the heap grows -/
theorem same_sqt {K : PySem.W.Frag} {H H' : Hp} {a : Addr} {xs : List V} (e : Same H H') (h : SqT K H a xs) : SqT K H' a xs := by
  rcases h with (h | ⟨o, h⟩) | h
  · exact .inl (.inl (e _ _ h))
  · exact .inl (.inr ⟨o, e _ _ h⟩)
  · exact .inr h
mutual
theorem dp_same {K : PySem.W.Frag} {H H' : Hp} (e : Same H H') : ∀ (d : PyData) (v : V), Dp K H v d → Dp K H' v d
  | .none, _, h => by cases h; exact .non
  | .bool b, _, h => by cases h; exact .bl b
  | .int i, _, h => by cases h; exact .int i
  | .str x, _, h => by cases h; exact .str x
  | .list xs, _, h => by
    cases h with
    | lst h1 h2 => exact .lst (e.seq h1) (dpAll_same e xs _ h2)
  | .tuple xs, _, h => by
    cases h with
    | tup h1 h2 => exact .tup (same_sqt e h1) (dpAll_same e xs _ h2)
  | .dict _, _, h => nomatch h
theorem dpAll_same {K : PySem.W.Frag} {H H' : Hp} (e : Same H H') : ∀ (ds : List PyData) (vs : List V), DpAll K H vs ds → DpAll K H' vs ds
  | [], _, h => by cases h; exact .nil
  | d :: ds, _, h => by
    cases h with
    | cons h1 h2 => exact .cons (dp_same e d _ h1) (dpAll_same e ds _ h2)
end
theorem DpAll.length {K : PySem.W.Frag} {H : Hp} : ∀ {ds : List PyData} {vs : List V}, DpAll K H vs ds → vs.length = ds.length
  | [], _, h => by cases h; rfl
  | _ :: _, _, h => by
    cases h with
    | cons _ h2 => exact congrArg (· + 1) (DpAll.length h2)
theorem DpAll.append {K : PySem.W.Frag} {H : Hp} : ∀ {ds es : List PyData} {vs ws : List V}, DpAll K H vs ds → DpAll K H ws es → DpAll K H (vs ++ ws) (ds ++ es)
  | [], _, _, _, h, g => by cases h; exact g
  | _ :: _, _, _, _, h, g => by
    cases h with
    | cons h1 h2 => exact .cons h1 (DpAll.append h2 g)
theorem DpAll.split {K : PySem.W.Frag} {H : Hp} : ∀ {ds es : List PyData} {vs : List V}, DpAll K H vs (ds ++ es) → ∃ a b, vs = a ++ b ∧ DpAll K H a ds ∧ DpAll K H b es
  | [], _, vs, h => ⟨[], vs, rfl, .nil, h⟩
  | d :: ds, es, _, h => by
    cases h with
    | cons h1 h2 =>
      obtain ⟨a, b, rfl, ha, hb⟩ := DpAll.split (ds := ds) (es := es) h2
      exact ⟨_ :: a, b, rfl, .cons h1 ha, hb⟩
theorem same_upd {H : Hp} {p : Addr} {o : HO} (h : H p = none) : Same H (upd H p o) := fun b x e => by
  rw [upd_ne (ne_of_none e h)]
  exact e
/-- a fresh place may be written again and again -/
theorem same_fresh {H0 H : Hp} {p : Addr} {o : HO} (h : H0 p = none) (e : Same H0 H) : Same H0 (upd H p o) := fun b x q => by
  rw [upd_ne (ne_of_none q h)]
  exact e b x q

/-! ### the number of parts -/
mutual
def nd : PyData → Nat
  | .list xs => ndAll xs + 1
  | .tuple xs => ndAll xs + 1
  | _ => 1
def ndAll : List PyData → Nat
  | [] => 0
  | d :: ds => nd d + ndAll ds
end
theorem ndAll_append : ∀ (a b : List PyData), ndAll (a ++ b) = ndAll a + ndAll b
  | [], b => by simp [ndAll]
  | d :: a, b => by
    rw [List.cons_append, ndAll, ndAll, ndAll_append a b]
    omega
theorem nd_pos : ∀ d : PyData, 1 ≤ nd d
  | .none => by simp [nd]
  | .bool _ => by simp [nd]
  | .int _ => by simp [nd]
  | .str _ => by simp [nd]
  | .list _ => by simp [nd]
  | .tuple _ => by simp [nd]
  | .dict _ => by simp [nd]
theorem ndAll_len : ∀ ds : List PyData, ds.length ≤ ndAll ds
  | [] => by simp
  | d :: ds => by
    have := ndAll_len ds
    have := nd_pos d
    rw [ndAll, List.length_cons]
    omega

/-! ### what a value's type is, for isinstance -/
/-- the type of a value that represents data -/
def tyD : PyData → String
  | .none => "NoneType"
  | .bool _ => "bool"
  | .int _ => "int"
  | .str _ => "str"
  | .list _ => "list"
  | .tuple _ => "tuple"
  | .dict _ => "dict"
theorem dp_ty {K : PySem.W.Frag} {H : Hp} {v : V} {d : PyData} (h : Dp K H v d) : TyX K H v (.type (tyD d)) := by
  cases h with
  | non => exact .base .non
  | bl b => exact .base (.bl b)
  | int i => exact .base (.int i)
  | str x => exact .base (.str x)
  | lst h1 _ =>
    rcases h1 with (h | ⟨o, h⟩) | ⟨o, its, n, hk, hc, _⟩
    · exact .base (.lst h)
    · exact .base (.frz h)
    · exact .kList hk hc
  | tup h1 _ =>
    rcases h1 with (h | ⟨o, h⟩) | ⟨o, its, n, hk, hc, _⟩
    · exact .base (.tup h)
    · exact .fTuple h
    · exact .kTuple hk hc

/-! ### repr of data -/
section
variable {X : Cx}
def rRepr (K : PySem.W.Frag) : List V → Hp → VK → Prop := fun xs H Q => ∃ v d, xs = [v] ∧ Dp K H v d ∧ d.showable = true ∧ d.hasDict = false ∧ d.depth ≤ 60 ∧ d.shown.length ≤ sizeLine ∧ Q (.str d.shown) H
theorem call_repr (hg : X.A.guards = some []) (hu : X.A.units + 64 < cLine) : CallR X (.builtin "repr") (rRepr X.K) := by
  intro pins s σ H xs us Q I r h
  obtain ⟨v, d, rfl, hd, hs, hn, hz, hl, q⟩ := h
  obtain ⟨u, rfl, rv⟩ := r.one
  have fin : ∀ tk t, EP X pins σ Q (.str d.shown t) { s with toks := tk } := fun tk t => ⟨.str _, H, I.tok tk, ⟨t, rfl⟩, q⟩
  obtain ⟨as, rd⟩ := Dp.reads I d v u hd rv
  cases hd with
  | non =>
    cases rv
    simp only [PyData.shown] at fin
    exact PySem.P.repr_of_none (fin _ _)
  | bl b =>
    cases rv
    simp only [PyData.shown] at fin
    exact PySem.P.repr_of_bool (fin _ _)
  | int i =>
    obtain ⟨t, rfl⟩ := rv
    simp only [PyData.shown] at fin
    exact PySem.P.repr_of_int (by simpa [PyData.showable] using hs) (fin _ _)
  | str x =>
    obtain ⟨t, rfl⟩ := rv
    simp only [PyData.shown] at fin hl
    exact PySem.P.repr_of_str (fin _ _) hl
  | lst h1 h2 =>
    cases rv
    exact repr_of_reads' rd hs (PyData.noDict_hsm hn) hg (by omega) (fun _ _ e => e) (fun h' t tk hk => ⟨.str _, H, I.kept hk, ⟨t, rfl⟩, q⟩) hl
  | tup h1 h2 =>
    cases rv
    exact repr_of_reads' rd hs (PyData.noDict_hsm hn) hg (by omega) (fun _ _ e => e) (fun h' t tk hk => ⟨.str _, H, I.kept hk, ⟨t, rfl⟩, q⟩) hl
end
end TX
namespace TX
open PySem PySem.Spec PyProof.Rows L2
/-! ### a def that is called where nothing is being shown (no repr under way) -/
structure FnG (P : Program) (w : World) (K : PySem.W.Frag) (mg : Str → Option Value) (base : Heap) (C : CXT) (k : Nat) (f : Addr) (fd : FuncData) (ps : List Str) (sp : Sp) : Prop where
  len : ∀ vs H Q E, sp vs H Q E → vs.length = ps.length
  go : ∀ (A : Around), A.guards = some [] → ∀ (outer : List Env) (s : Shared) (H : Hp) (args : Args) (us : List Value) (vs : List V) (Q : VK) (E : XK), Room k A → Env0 P w K mg base A outer s H →
    BindsTo s fd args (ps.zip us) → Vals vs us → sp vs H Q E → codeAny (model P w) A (.call (.ref f) args) (CR C outer P w H s Q E) s
section
variable {P : Program} {w : World} {K : PySem.W.Frag} {mg : Str → Option Value} {base : Heap} {C : CXT} {k : Nat} {f : Addr} {fd : FuncData} {N ps : List Str} {sp : Sp}
theorem fng_of {x qual : Str} {st : Stmt} (F : Fun K x qual st f fd) (S : FnScope N ps (defScope st)) (len : ∀ vs H Q E, sp vs H Q E → vs.length = ps.length)
    (hb : ∀ (cdv : Value) (A : Around) (outer : List Env) (s : Shared) (H : Hp) (vs : List V) (Q : VK) (E : XK), A.guards = some [] → Room k (A.deeper (envOfC qual (defScope st) s.heap.objs.size f cdv)) → sp vs H Q E →
      ∃ t, PSs (cxOf CX0 P w K mg base N qual (defScope st) f cdv A outer s H E).nox (defBody st) t ∧ t { nx := fun _ H' => Q .non H', rt := Q } (start N vs) H) : FnG P w K mg base CX0 (k + 1) f fd ps sp := by
  obtain ⟨oc, od, kV, doc, pm, an, cdv, ct, osl, rfl, lk, hcd⟩ := F.ex
  refine ⟨len, fun A hg outer s H args us vs Q E hr e0 hbd r hsp => ?_⟩
  have up : ∀ b o, base.get? b = some o → s.heap.get? b = some o := fun b o e => (e0.bs b o e).1
  have KX : K.In s.heap := e0.mod.kin.keeps up
  have par : ∀ y ∈ ps.zip us, (defScope st).names.lookup y.1 = some .local ∨ ((defScope st).names.lookup y.1 = some .cell ∧ ((cellsFrom (s.heap.objs.size + 1) (defScope st).names []).lookup y.1).isSome = true) := by
    rintro ⟨n, v⟩ hy
    exact (S.par n (List.of_mem_zip hy).1).imp id fun q => ⟨q, PySem.W.cellsFrom_some _ _ _ (.inl q)⟩
  refine codeAny_call_function hr.depth (KX _ _ lk) rfl S.co S.gen rfl (PySem.W.codeRec_of KX hcd) (hbd _ _ _ _ (wpAny_newFunctionEnv_cells S.kind par fun env he s1 x => ?_))
  cases he
  obtain ⟨t, ht, hq⟩ := hb cdv A outer s H vs Q E hg (hr.deeper _) hsp
  refine ⟨(e0.mod.nolimit.keeps up).keeps x.toInCall.keep, codeAny_func (wpAny_mono (ht.nox.run [] s1 (start N vs) H _ (inv_start S hr.hd e0 (len _ _ _ _ hsp) r x) hq) (fun fl s' hs => ?_) fun e s' hs => hs)⟩
  cases fl with
  | next => exact let ⟨σ', H', J, q⟩ := hs; ⟨.non, H', J.os, J.bare, J.base, J.hok, rfl, q⟩
  | ret u => exact let ⟨v, σ', H', J, rv, q⟩ := hs; ⟨v, H', J.os, J.bare, J.base, J.hok, rv, q⟩
  | brk => exact let ⟨_, _, _, q⟩ := hs; False.elim q
  | cont => exact let ⟨_, _, _, q⟩ := hs; False.elim q
theorem deeper_guards {A : Around} {env : Env} : (A.deeper env).guards = A.guards := rfl
end
section
variable {X : Cx} {C : CXT} {k : Nat} {f : Addr} {fd : FuncData} {ps : List Str} {sp : Sp} {dvs : List V} {ds : List Value} {E : XK} {x : Str} {p pos : Pos} {e : Expr} {es : List Expr} {t : TA}
theorem pe_callG (F : FnG X.prog X.w X.K X.mg X.base C k f fd ps sp) (hgd : X.A.guards = some []) (hr : Room k X.A) (hg : Gl X x) (hm : X.mg x = some (.ref f)) (hk : PySem.W.keepIn X.K (.ref f) = true) (hb : Binds X.K fd ps ds) (hd : Vals dvs ds)
    (hx : Passes C X E) (ha : PA X (e :: es) t) (hdb : (x == ("__debug__" : Str)) = false := by decide) (he : starEach (e :: es) X.env = (false, eval e X.env) :: starEach es X.env := by rfl)
    (hpl : (backTo pos (starEach es X.env)).any (·.1) = false := by rfl) : PE X (.Call (.Name x p) (e :: es) [] pos) (tCall sp dvs E t) := by
  refine ⟨fun pins s σ H Q I h => wpAny_Call_Name_kw (ld_glob I hg hm (PySem.W.callWith_K (h₀ := X.base) I.ok.mod.kin hk (thn (ha.run pos pins s σ H _ I h) fun us s1 h1 => ?_) he hpl) hdb)⟩
  obtain ⟨vs, H1, I1, r, q⟩ := h1
  have r2 := r.append hd
  have hl : (us ++ ds).length = ps.length := r2.length.symm.trans (F.len _ _ _ _ q)
  refine ⟨I1.kIn, wpAny_call (codeAny_mono (F.go X.A hgd X.stack s1 H1 ⟨us, []⟩ _ _ _ _ hr I1.env0 (hb s1 us I1.kIn hl) r2 q) fun r s' hq => ?_)⟩
  cases r with
  | error er => exact hx pins σ H1 s1 er s' I1 hq
  | ok fl => cases fl with
    | ret u => exact I1.after hq
    | next => exact hq.elim
    | brk => exact hq.elim
    | cont => exact hq.elim
end
/-- the law's def, called by the claim -/
theorem lawG {P : Program} {w : World} {K : PySem.W.Frag} {mg mb : Str → Option Value} {k : Nat} {fa a : Addr} {fd : FuncData} {x : Str} {sp : Sp} {s₁ : Shared} {vs : List Value} {ns : List Int}
    (KX : K.In s₁.heap) (hns : s₁.heap.Ns mainGlobals mg) (hb : s₁.heap.Ns builtinsNs mb) (hbb : ∀ x : Str, x ≠ "__name__" → mb x = bootBuiltins x) (hlim : s₁.heap.NoLimit) (hg : s₁.gens = #[])
    (ha : s₁.heap.get? a = some { cls := .type "list", data := .seq vs.toArray }) (hi : IntsAre vs ns) (hl : ns.length ≤ sizeLine) (hr : Room k callerA)
    (F : ∀ base : Heap, K.In base → base.Ns mainGlobals mg → FnG P w K mg base CX0 k fa fd [x] sp) (hbind : ∀ (s : Shared) (u : Value), BindsTo s fd ⟨[u], []⟩ [(x, u)])
    (hsp : ∀ H : Hp, Only H → SqL K H a (ns.map V.int) → sp [.ref a] H (fun v _ => v = .bl true) fun _ _ _ => False) :
    codeAny (model P w) callerA (.call (.ref fa) ⟨[.ref a], []⟩) (fun r s' => r = .ok (.ret (.bool true)) ∧ OldK s₁.heap s'.heap ∧ s'.os = s₁.os ∧ AllBare s'.gens) s₁ := by
  have rv := vals_ints hi
  have lenV := hi.length
  have main : ∀ H : Hp, Only H → SqL K H a (ns.map V.int) → HOk P w H s₁.heap → (∀ b, H b ≠ none → b = a) → (H a ≠ none → K.lookup a = none) →
      codeAny (model P w) callerA (.call (.ref fa) ⟨[.ref a], []⟩) (fun r s' => r = .ok (.ret (.bool true)) ∧ OldK s₁.heap s'.heap ∧ s'.os = s₁.os ∧ AllBare s'.gens) s₁ := by
    intro H hO hS hok hA hK
    have atA : ∀ {b : Addr} {u : HO}, H b = some u → b = a := fun q => hA _ (by rw [q]; exact fun z => nomatch z)
    have noD : ∀ {b : Addr} {o : Obj} {es : Array DictEntry} {ep : Nat}, s₁.heap.get? b = some o → o.data = .dict es ep → H b = none := by
      intro b o es ep e d
      cases q : H b with
      | none => rfl
      | some u =>
        cases atA q
        rw [ha] at e
        cases e
        exact absurd d (fun z => nomatch z)
    have nsK : ∀ {b : Addr} {m : Str → Option Value}, s₁.heap.Ns b m → (hidT s₁.heap H).Ns b m := fun ⟨o, es, ep, e, d, r⟩ => ⟨o, es, ep, hidT_get e (noD e d), d, r⟩
    have hKb : K.In (hidT s₁.heap H) := by
      intro b o e
      refine hidT_get (KX b o e) ?_
      cases q : H b with
      | none => rfl
      | some u =>
        cases atA q
        rw [hK (by rw [q]; exact fun z => nomatch z)] at e
        cases e
    have hM : Mod K mg (hidT s₁.heap H) := ⟨hKb, nsK hns, ⟨mb, nsK hb, hbb⟩, let ⟨mc, h1, h2⟩ := hlim; ⟨mc, nsK h1, h2⟩⟩
    have e0 : Env0 P w K mg (hidT s₁.heap H) callerA [] s₁ H := ⟨rfl, hM, fun b o e => of_hidT e, Nat.le_of_eq (hidT_size _ _), trivial, fun b hb => (nomatch hb), hok, .of_eq hg⟩
    refine codeAny_mono ((F _ hKb (nsK hns)).go callerA rfl [] s₁ H ⟨[.ref a], []⟩ [.ref a] [.ref a] _ _ hr e0 (hbind s₁ (.ref a)) (.cons rfl .nil) (hsp H hO hS)) fun r s' h => ?_
    cases r with
    | error e => exact (show False from h).elim
    | ok fl => cases fl with
      | next => exact h.elim
      | brk => exact h.elim
      | cont => exact h.elim
      | ret u =>
        obtain ⟨v, H', os, bare, un, hok', r', q⟩ := h
        cases (show v = .bl true from q)
        cases (show u = Value.bool true from r')
        refine ⟨rfl, OldK.of_keep fun b o e => ?_, os, bare⟩
        cases q : H b with
        | none => exact un.keep b o e q (fun z => nomatch z) (fun z => nomatch z)
        | some u =>
          rcases hO b with z | ⟨ob, xs, z⟩
          · rw [q] at z
            cases z
          · obtain ⟨e1, _⟩ := hok b _ z
            obtain ⟨e2, _⟩ := hok' b _ (un.frzs b ob _ z)
            rw [e] at e1
            cases e1
            exact e2
  cases hk : K.lookup a with
  | some o =>
    have e := KX a o hk
    rw [ha] at e
    cases e
    exact main (fun _ => none) (fun _ => .inl rfl) (.inr ⟨_, vs.toArray, _, hk, rfl, rfl, rfl, by rw [List.size_toArray, lenV]; exact hl, by simpa using rv⟩) (fun b u z => nomatch z) (fun b z => absurd rfl z) fun z => absurd rfl z
  | none =>
    refine main (fun b => if b = a then some (.frz { cls := .type "list", data := .seq vs.toArray } (.lst (ns.map V.int))) else none) (fun b => ?_) (.inl (.inr ⟨{ cls := .type "list", data := .seq vs.toArray }, if_pos rfl⟩)) (fun b u z => ?_) (fun b z => ?_) fun _ => hk
    · by_cases hb : b = a
      · exact .inr ⟨_, _, if_pos hb⟩
      · exact .inl (if_neg hb)
    · by_cases hb : b = a
      · cases hb
        cases (if_pos rfl).symm.trans z
        exact ⟨ha, by rw [List.length_map]; exact hl, vs, _, rv, ha⟩
      · cases (if_neg hb).symm.trans z
    · exact Classical.byContradiction fun hb => z (if_neg hb)
theorem walkG {l : PySem.W.OpenLaw} {n k : Nat} {q : Program} {loose : List Str} {XP : (Str → Option Value) → Heap → Prop} {YP : World → Heap → Prop} {d : DefRec} {K : Params → PySem.W.Frag} {sp : World → Sp} {x : Str}
    (hn : l.most = some n) (hn2 : n ≤ sizeLine) (hdf : d.params.defaults = []) (hr : Room k callerA) (hY : ∀ (w : World) (h : Heap), YP w h → (K w.params).In h)
    (F : ∀ (w : World) (mg : Str → Option Value) (fa : Addr) (h : Heap), (K w.params).In h → h.Ns mainGlobals mg → mg d.name = some (.ref fa) →
      ∃ fd : FuncData, (∀ (s : Shared) (u : Value), BindsTo s fd ⟨[u], []⟩ [(x, u)]) ∧ ∀ base : Heap, (K w.params).In base → base.Ns mainGlobals mg → FnG l.prog w (K w.params) mg base CX0 k fa fd [x] (sp w))
    (hsp : ∀ (w : World) (H : Hp) (a : Addr) (ns : List Int), ns.length ≤ n → Only H → SqL (K w.params) H a (ns.map V.int) → sp w [.ref a] H (fun v _ => v = .bl true) fun _ _ _ => False) :
    PySem.W.WalkO q loose XP YP l.row.toRowW d [] (fun f vs => PySem.call f vs) := by
  refine Att.attach_call hn hdf fun w s₀ s₁ mg mb fa o pm cd doc a vs ns G Y ho hd hcd hmg hobj hints hlen hg => ?_
  obtain ⟨fd, hb, hF⟩ := F w mg fa _ (hY w _ Y) G.T.g hmg
  exact lawG (hY w _ Y) G.T.g G.T.b G.T.builtins G.T.nolimit hg hobj hints (Nat.le_trans hlen hn2) hr hF hb fun H hO hS => hsp w H a ns hlen hO hS
end TX
namespace TX
open PySem PySem.Spec PyProof.Rows L2
section
variable {prog : Program} {w : World} {A : Around} {E : Value → Shared → Prop} {s : Shared}
theorem slAdj_back (n : Nat) : Builtin.Slice.sliceAdjust none none (-1) (n : Int) = ((n : Int) - 1, -1) := rfl
theorem slPl_back (n : Nat) : Builtin.Slice.slicePlaces ((n : Int) - 1) (-1) (-1) = n := by
  unfold Builtin.Slice.slicePlaces
  rw [if_neg (by decide)]
  split
  · have e : -(-1 : Int) = 1 := by decide
    rw [e, Int.ediv_one]
    omega
  · omega
theorem slApp_back {sl : Addr} {n : Nat} {u : Tok} {Q : Int × Int × Nat → Shared → Prop} (hs : s.heap.IsSliceOf sl .none .none (.int (-1) u)) (h : Q ((n : Int) - 1, -1, n) s) :
    wpAny (model prog w) A (Builtin.Slice.sliceApplied (.ref sl) (pure (n : Int))) Q E s := by
  obtain ⟨os, g1, g2, g3⟩ := hs
  unfold Builtin.Slice.sliceApplied Builtin.Slice.sliceFields
  refine wpAny_bind (wpAny_bind (wpAny_field g1 g3 (x := .none) rfl (wpAny_bind (wpAny_field g1 g3 (x := .none) rfl (wpAny_bind (wpAny_field g1 g3 (x := .int (-1) u) rfl (wpAny_pure ?_)))))))
  refine wpAny_bind (slicePart_int ?_)
  show wpAny _ _ (if ((-1 : Int) == 0) = true then _ else _) _ _ s
  rw [if_neg (by decide)]
  refine wpAny_bind (slicePart_none (wpAny_bind (slicePart_none (wpAny_bind (wpAny_pure ?_)))))
  show wpAny _ _ (match Builtin.Slice.sliceAdjust none none (-1) (n : Int) with | (lo, hi) => pure (lo, (-1 : Int), Builtin.Slice.slicePlaces lo hi (-1))) _ _ s
  rw [slAdj_back]
  show wpAny _ _ (pure ((n : Int) - 1, (-1 : Int), Builtin.Slice.slicePlaces ((n : Int) - 1) (-1) (-1))) _ _ s
  rw [slPl_back]
  exact wpAny_pure h
theorem fm_congr {f g : Nat → Option Value} : ∀ l : List Nat, (∀ k ∈ l, f k = g k) → l.filterMap f = l.filterMap g
  | [], _ => rfl
  | k :: l, h => by
    rw [List.filterMap_cons, List.filterMap_cons, h k List.mem_cons_self, fm_congr l fun j hj => h j (List.mem_cons_of_mem _ hj)]
theorem pick_back (l : List Value) : ((List.range l.length).filterMap fun (k : Nat) => l.toArray[(((l.length : Nat) : Int) - 1 + (k : Int) * (-1)).toNat]?) = l.reverse := by
  have e : ∀ k ∈ List.range l.length, (fun (k : Nat) => l.toArray[(((l.length : Nat) : Int) - 1 + (k : Int) * (-1)).toNat]?) k = (some ∘ fun k => (l.reverse[k]?).getD .none) k := by
    intro k hk
    have hk' := List.mem_range.mp hk
    have e1 : (((l.length : Nat) : Int) - 1 + (k : Int) * (-1)).toNat = l.length - 1 - k := by omega
    show l.toArray[(((l.length : Nat) : Int) - 1 + (k : Int) * (-1)).toNat]? = some ((l.reverse[k]?).getD .none)
    rw [e1, List.getElem?_toArray, List.getElem?_reverse (by omega), List.getElem?_eq_getElem (by omega)]
    rfl
  rw [fm_congr _ e, List.filterMap_eq_map]
  apply List.ext_getElem?
  intro i
  rw [List.getElem?_map]
  by_cases h : i < l.length
  · rw [List.getElem?_range h, List.getElem?_eq_getElem (by simpa using h)]
    simp [List.getElem?_eq_getElem, h]
  · rw [List.getElem?_eq_none (by simpa using h), List.getElem?_eq_none (by simpa using h)]
    rfl
/-- t[::-1] of a tuple -/
theorem getItem_tuple_back {t sl : Addr} {items : List Value} {u : Tok} {Q : Value → Shared → Prop} (ht : IsTup s.heap t items.toArray) (hs : s.heap.IsSliceOf sl .none .none (.int (-1) u))
    (h : Q (.ref s.heap.objs.size) { s with heap := s.heap.push { cls := .type "tuple", data := .seq items.reverse.toArray } }) (hsz : items.length ≤ sizeLine) : wpAny (model prog w) A (getItem (.ref t) (.ref sl)) Q E s := by
  have hTs : s.TypeIs (.ref sl) "slice" := let ⟨os, g1, g2, _⟩ := hs; ⟨os, g1, g2⟩
  have hfit : sizeOk (.seq items.reverse.toArray) := by
    show items.reverse.toArray.size ≤ sizeLine
    rw [List.size_toArray, List.length_reverse]
    exact hsz
  unfold getItem
  try with_reducible refine wpAny_holding ?_
  first | refine wpAny_bind (wpAny_pure ?_) | skip
  refine wpAny_bind (wpAny_sequenceKey ht.typeIs (by decide) ?_)
  refine wpAny_bind (wpAny_callSpecial?_slot (name := Str.ofString "__getitem__") ht.typeIs PyProof.Rows.slot_tuple_getitem (wpAny_call_entry PyProof.Rows.slot_tuple_getitem ht.typeIs entry_tuple_getitem ?_ (args_tuple_getitem _ _)))
  show wpAny _ _ (Builtin.Tuple.tupleItemsOf (.ref t) >>= _) _ _ s
  refine wpAny_bind (tupleItemsOf_ ht (wpAny_bind (wpAny_typeOf hTs ?_)))
  rw [if_pos (by decide)]
  refine wpAny_bind (slApp_back hs ?_)
  have no : ¬ ((((items.toArray.size : Nat) : Int) - 1 == 0 && (-1 : Int) == 1 && items.toArray.size == items.toArray.size) = true) := by
    intro q
    rw [Bool.and_eq_true, Bool.and_eq_true] at q
    exact absurd (eq_of_beq q.1.2) (by decide)
  show wpAny _ _ (if (((items.toArray.size : Nat) : Int) - 1 == 0 && (-1 : Int) == 1 && items.toArray.size == items.toArray.size) = true then _ else _) _ _ s
  rw [if_neg no]
  have e : ((List.range items.toArray.size).filterMap fun (k : Nat) => items.toArray[(((items.toArray.size : Nat) : Int) - 1 + (k : Int) * (-1)).toNat]?) = items.reverse := by
    rw [List.size_toArray]
    exact pick_back items
  rw [e]
  first
    | exact wpAny_bind (m := Builtin.Tuple.tupleExact _) (wpAny_newObj_type (wpAny_pure ⟨_, rfl, wpAny_pure h⟩) hfit)
    | exact wpAny_bind (m := Builtin.Tuple.tupleExact _) (wpAny_newObj_type (wpAny_bind (wpAny_pure (wpAny_pure ⟨_, rfl, wpAny_pure h⟩))) hfit)
    | exact wpAny_bind (wpAny_bind (m := Builtin.Tuple.tupleExact _) (wpAny_newObj_type (wpAny_pure (wpAny_pure ⟨_, rfl, wpAny_pure h⟩)) hfit))
    | exact wpAny_bind (wpAny_bind (m := Builtin.Tuple.tupleExact _) (wpAny_newObj_type (wpAny_pure ⟨_, rfl, wpAny_pure h⟩) hfit))
end
section
variable {X : Cx}
def tRevT (K : PySem.W.Frag) (te : TE) : TE := fun σ H Q => te σ H fun x H1 => ∃ a xs, x = .ref a ∧ SqT K H1 a xs ∧ ∀ p, H1 p = none → Q (.ref p) (upd H1 p (.tup xs.reverse))
theorem pe_revT {e : Expr} {te : TE} {k : Nat} {p1 p2 p3 pos : Pos} (he : PE X e te) : PE X (.Subscript e (.Slice none none (some (.UnaryOp .USub (.Constant (.int 1) k p1) p2)) p3) pos) (tRevT X.K te) := by
  refine ⟨fun pins s σ H Q I h => Subscript_ (thn (he.run pins s σ H _ I h) fun v s1 ⟨x, H1, I1, r1, a, xs, ex, hx, q⟩ => ?_)⟩
  subst ex
  cases r1
  have hst : PO X (some (.UnaryOp .USub (.Constant (.int 1) k p1) p2)) (tPart (tUn (rU fun i => .int (-i)) (tC (.int 1)))) := po_some (pe_un un_neg pe_int)
  refine wpAny_Slice (thn (po_none.run pins s1 σ H1 (fun o H2 => o = none ∧ H2 = H1) I1 ⟨rfl, rfl⟩) fun vl s2 ⟨l, H2, I2, pl, el, e2⟩ => ?_)
  subst el e2
  refine thn (po_none.run pins s2 σ H2 (fun o H3 => o = none ∧ H3 = H2) I2 ⟨rfl, rfl⟩) fun vu s3 ⟨u, H3, I3, pu, eu, e3⟩ => ?_
  subst eu e3
  refine thn (hst.run pins s3 σ H3 (fun o H4 => o = some (-1) ∧ H4 = H3) I3 ⟨1, rfl, -1, rfl, rfl, rfl⟩) fun vs s4 ⟨o, H4, I4, ps, eo, e4⟩ => ?_
  subst eo e4
  have I5 : Inv X pins σ H4 { s4 with heap := s4.heap.push { cls := .type "slice", data := .fields #[vl, vu, vs] } } := I4.kept (t' := s4.toks) fun b ob q => Heap.get?_push_of_some _ q
  obtain ⟨its, r, ht, hz⟩ := I5.tuple hx
  have hlen := r.length
  cases pl
  cases pu
  obtain ⟨tk, rfl⟩ : ∃ tk, vs = .int (-1) tk := by
    cases ps
    exact ⟨_, rfl⟩
  show wpAny (model X.prog X.w) X.A (subscriptTail e (.Slice none none (some (.UnaryOp .USub (.Constant (.int 1) k p1) p2)) p3) (.ref a) (.ref s4.heap.objs.size)) (EP X pins σ Q) X.xe { s4 with heap := s4.heap.push { cls := .type "slice", data := .fields #[.none, .none, .int (-1) tk] } }
  refine tail_any (ops := [.ref a, .ref s4.heap.objs.size]) ht.typeIs PyProof.Rows.slot_tuple_getitem.lookup ?_ (by with_unfolding_all rfl)
  refine getItem_tuple_back ht (Heap.IsSliceOf.new _ _ _ _) ?_ (by omega)
  refine ⟨.ref _, _, I5.laid (t' := s4.toks) (o := .tup xs.reverse) (fun b ob q => Heap.get?_push_of_some _ q) (Nat.le_refl _) ?_, rfl, q _ (I5.hok.fresh (Nat.le_refl _))⟩
  exact ⟨by rw [List.length_reverse]; exact hz, _, r.reverse, ⟨_, Heap.get?_push_size _ rfl, rfl, _, rfl⟩⟩
end
theorem ext_tup (l : Addr) (items : Array Value) (n : Nat) (b : Addr) (items2 : Array Value) (n2 : Nat) (dd : Option Addr) (sl : Array (Option Value)) (hs0 : ¬(!items.isEmpty && Builtin.List.listTooLong (items.size + items2.size)) = true)
    (hs1 : items.size ≤ sizeLine) (hs2 : items.size + items2.size ≤ sizeLine + 1) :
    Meets (Builtin.«list.extend» ⟨[.ref l, .ref b], []⟩) (fun _ R s => s.heap.get? l = some { cls := .type "list", dict := none, data := .seq items n, slots := #[] } ∧ s.heap.get? b = some { cls := .type "tuple", dict := dd, data := .seq items2 n2, slots := sl } ∧
      R (.ok (.ret Value.none)) { s with heap := s.heap.update l (Obj.mapSeq fun x => x ++ items2), toks := s.toks }) :=
  .of_wp fun prog w A R s h => by
    obtain ⟨hp, g, d, tk, os⟩ := s
    obtain ⟨hl, hb, h⟩ := h
    have f1 := AutoSeq1.idx_int
    have f2 := AutoSeq1.sub_tuple_tuple
    have f3 := AutoSeq1.sub_list_list
    have f4 := AutoSeq1.sub_tuple_list
    have f5 := AutoSeq1.sub_list_tuple
    have hz' : (items ++ items2).size ≤ sizeLine + 1 := by
      rw [Array.size_append]
      exact hs2
    wp_walk using (wpAny_updateSeq hl rfl (hz := hs1) (_hz' := hz')), AutoSeq1.wpAny_loadPart' hl, AutoSeq1.wpAny_loadPart' hb
    exact ⟨_, rfl, h⟩
section
variable {X : Cx}
def rExtT (K : PySem.W.Frag) : V → List V → Hp → VK → Prop := fun x vs H Q => ∃ l b xs zs, x = .ref l ∧ vs = [.ref b] ∧ H l = some (.lst xs) ∧ SqT K H b zs ∧ xs.length + zs.length ≤ sizeLine ∧ Q .non (upd H l (.lst (xs ++ zs)))
theorem mt_extT : MtM X "list.extend" (rExtT X.K) := by
  intro pins s σ H x vs v us Q I rx rv h
  obtain ⟨l, b, xs, zs, rfl, rfl, hH, hB, hz, q⟩ := h
  cases rx
  obtain ⟨u, rfl, ru⟩ := rv.one
  cases ru
  obtain ⟨z, its, n, r, hl, e⟩ := I.lstM hH
  obtain ⟨its2, r2, ⟨⟨cls, dd, data, sl⟩, e2, hc, n2, hd⟩, hz2⟩ := I.tuple hB
  simp only at hc hd
  subst hc hd
  have hl2 := r2.length
  have hsz : its.toArray.size + its2.toArray.size ≤ sizeLine := by
    rw [List.size_toArray, List.size_toArray]
    omega
  have hlong : ¬ (!its.toArray.isEmpty && Builtin.List.listTooLong (its.toArray.size + its2.toArray.size)) = true := by
    rw [notLongL hsz, Bool.and_false]
    exact Bool.false_ne_true
  refine call_meets F.slot_list_extend ⟨_, e, rfl⟩ F.entry_list_extend (F.args_list_extend_2 _ _) (ext_tup l its.toArray n b its2.toArray n2 dd sl hlong (by rw [List.size_toArray]; omega) (by omega)) ⟨e, e2, ?_⟩
  refine ⟨.non, _, I.lset (its' := its ++ its2) hH e (by simp) (r.append r2) ?_, rfl, q⟩
  rw [List.length_append]
  omega
end
end TX
namespace TX
open PySem PySem.Spec PySem.Calls PyProof.Rows L2
open PySem.W (Frag InstAt findIn subIn hasDictIn specialIn takesIn mroIn clsIn Looks looks_findIn looks_find looks_subIn KitX)
section
variable {prog : Program} {w : World} {A : Around} {E : Value → Shared → Prop} {s : Shared} {K : Frag} {x D : Addr} {ox : Obj} {od : Option Obj}
theorem clsSome {D : Addr} (h : hasDictIn K D = true) : (clsIn K D).isSome = true := by
  unfold hasDictIn at h
  cases e : clsIn K D with
  | none => rw [e] at h; cases h
  | some c => rfl
theorem findData {C : Addr} {name : Str} {a g : Value} (hc : (clsIn K C).isSome = true) (ha : findIn K (.ref C) name = some (some a)) (hg : specialIn K a "__get__" = some (some g)) (ht : takesIn K a = some true) :
    PySem.W.findObj K C od name = some (.bind g a) := by
  obtain ⟨cd, hc⟩ := Option.isSome_iff_exists.mp hc
  simp [PySem.W.findObj, hc, ha, hg, ht]
/-- e.__class__ of an exception of an own class, with or without a dict of its own -/
theorem classOf {Q : Option Value → Shared → Prop} (T : ExcC K D) (X : K.In s.heap) (I : InstAt s.heap x ox D od) (h : Q (some (.ref D)) { s with toks := s.toks + 1 }) : wpAny (model prog w) A (getAttr? (.ref x) "__class__") Q E s := by
  have hf : PySem.W.findObj K D od "__class__" = some (.bind (.builtin "getset_descriptor.__get__") (.builtin "object.__class__")) := findData (clsSome T.hd) T.ha T.hn T.ht
  obtain ⟨hp, g, d, t, os⟩ := s
  have L0 := I.type (M := model prog w)
  have L1 := looks_findIn (M := model prog w) X T.hg
  have L2 := looks_findIn (M := model prog w) X T.hk
  have L3 := looks_find (M := model prog w) X I hf
  have sub : Looks (model prog w) hp (isInstance (.ref x) (.type "BaseException")) true := L0.andThen (looks_subIn X T.hs)
  have n0 : (false && onTheHeap (Value.builtin "BaseException.__getattribute__")) = false := rfl
  have n2 : (Value.builtin "BaseException.__getattribute__" == Value.builtin "object.__getattribute__") = false := by decide +kernel
  have n1 : (onTheHeap (Value.ref D) && Value.builtin "BaseException.__getattribute__" == Value.builtin "object.__getattribute__") = false := by
    rw [n2]
    rfl
  unfold getAttr? getAttrBy? getAttrBy
  refine wpAny_bind (wpAny_mkText (wpAny_bind (wpAny_attempt (wpAny_holding (wpAny_bind (L0.at (wpAny_bind (L1.at ?_))))))))
  show wpAny _ _ (if (onTheHeap (Value.ref D) && Value.builtin "BaseException.__getattribute__" == Value.builtin "object.__getattribute__") = true then _ else _) _ _ _
  rw [n1, if_neg Bool.false_ne_true]
  unfold getAttrByItsOwn hookBefore
  refine wpAny_bind ?_
  rw [if_pos (show onTheHeap (Value.ref D) = true from rfl)]
  refine L2.at (wpAny_bind (wpAny_attempt (wpAny_holding ?_)))
  unfold callGetattribute
  rw [n0, if_neg Bool.false_ne_true]
  unfold boundAndCalled
  rw [PySem.F.excAttr_ValueError.ga.bind (.ref x)]
  refine wpAny_bind (wpAny_pure ?_)
  show wpAny _ _ (call (.builtin "BaseException.__getattribute__") [.ref x, .str "__class__" t]) _ _ _
  refine wpAny_call (codeAny_call_builtin PySem.F.excAttr_ValueError.ga.plain PySem.F.entry_bexc_ga ?_)
  refine @PySem.W.check_slot (model prog w) _ _ ⟨hp, g, d, t + 1, os⟩ "BaseException.__getattribute__" "BaseException" "__getattribute__" (.ref x) [.str "__class__" t] [] _ (by decide +kernel) (by decide +kernel) sub (PySem.F.args_bexc_ga (.ref x) (.str "__class__" t)) ?_
  unfold Builtin.«object.__getattribute__»
  refine wpAny_bind (wpAny_of_eq (a := ((Value.ref x : Value), [Value.str "__class__" t])) (by first | rfl | (simp only [slotArgs]; rfl)) ?_)
  refine wpAny_bind (wpAny_pure (wpAny_bind (L0.at (wpAny_bind (L3.at ?_)))))
  show wpAny _ _ (holding [Value.builtin "object.__class__"] (call (.builtin "getset_descriptor.__get__") [.builtin "object.__class__", .ref x, .ref D]) >>= ret) _ _ _
  refine wpAny_bind (wpAny_holding (wpAny_call (PySem.W.class_get (s := ⟨hp, g, d, t + 1, os⟩) (ox := ox) (od := od) X I T.hm (wpAny_pure ?_))))
  show wpAny _ _ (handedOut (.ref D)) _ _ _
  rw [PySem.W.handedOut_of (v := .ref D) rfl]
  first
    | exact wpAny_pure (wpAny_pure h)
    | exact wpAny_pure h
    | exact wpAny_pure (wpAny_bind (wpAny_pure (wpAny_pure h)))
theorem kitE (T : ExcC K D) : KitX K (.ref x) (.ref D) (fun h => InstAt h x ox D od) where
  ty := fun _ _ _ I => I.type
  it := fun _ _ X _ => by
    obtain ⟨cd, hc⟩ := Option.isSome_iff_exists.mp (clsSome T.hd)
    unfold clsIn at hc
    split at hc
    · rename_i c' d' cd' sl' ho
      intro A' Q' E' s' k q
      unfold isType loadHead
      exact wpAny_bind (wpAny_loadPart (k _ _ (X _ _ ho)) (wpAny_pure q))
    · cases hc
  ne := fun h tp dd its n sl X htp => by
    obtain ⟨cd, hc⟩ := Option.isSome_iff_exists.mp (clsSome T.hd)
    refine Bool.eq_false_iff.mpr fun q => ?_
    have e : D = tp := Value.ref.inj (beq_iff_eq.mp q)
    subst e
    unfold clsIn at hc
    split at hc
    · rename_i c' d' cd' sl' ho
      have z := (X _ _ ho).symm.trans htp
      cases z
    · cases hc
  ca := fun X I k => classOf T X I k
end
/-- the exception that the suite holds, as the state has it -/
theorem atE {X : Cx} {pins : List (Addr × Obj)} {σ : L2.St} {H : Hp} {s : Shared} {a D : Addr} {oe : Obj} {d : Option Addr} {pn : List (Addr × Obj)} (I : Inv (X.suite a ((a, oe) :: pn)) pins σ H s) (hz : Zc (.ref D) d oe) (hf : ∃ vs, oe.data = .fields vs)
    (hd : ∀ dd, d = some dd → ∃ fs, H dd = some (.xd fs)) : ∃ od, InstAt s.heap a oe D od := by
  obtain ⟨hget, _⟩ := I.pin (a, oe) (List.mem_append.mpr (.inl List.mem_cons_self))
  obtain ⟨vs, hv⟩ := hf
  obtain ⟨oc, odd, oda, osl⟩ := oe
  obtain ⟨h1, h2⟩ := hz
  dsimp only at h1 h2 hv
  subst h1 h2 hv
  cases odd with
  | none => exact ⟨none, hget, rfl, rfl, trivial⟩
  | some dd =>
    obtain ⟨fs, hx⟩ := hd dd rfl
    have ob : ObjOk X.prog X.w H s.heap dd (.xd fs) := I.hok dd _ hx
    obtain ⟨mA, ⟨o, es, ep, ho, _⟩, _⟩ := ob
    exact ⟨some o, hget, rfl, rfl, ho⟩
/-- isinstance(e, c) -/
def rIsE2 (K : Frag) (D a : Addr) (d : Option Addr) : List V → Hp → VK → Prop := fun xs H Q => ∃ (c : V) (cv : Value) (b : Bool), xs = [.ref a, c] ∧ ClsV c cv ∧ PySem.W.kitOne K (.ref D) cv = some b ∧ (∀ dd, d = some dd → ∃ fs, H dd = some (.xd fs)) ∧ Q (.bl b) H
theorem call_isE2 {X : Cx} {a D : Addr} {oe : Obj} {d : Option Addr} {pn : List (Addr × Obj)} (C : ExcC X.K D) (hz : Zc (.ref D) d oe) (hf : ∃ vs, oe.data = .fields vs) : CallR (X.suite a ((a, oe) :: pn)) (.builtin "isinstance") (rIsE2 X.K D a d) := by
  intro pins s σ H xs us Q I r h
  obtain ⟨c, cv, b, rfl, hcv, e, hd, q⟩ := h
  obtain ⟨u1, u2, rfl, r1, r2⟩ := vals2 r
  cases (show u1 = Value.ref a from r1)
  cases hcv.eq r2
  obtain ⟨od, J⟩ := atE I hz hf hd
  exact PySem.W.kia_one (kitE C) I.kIn J e (fun z => nomatch z) fun tk => ⟨.bl b, H, I.tok tk, rfl, q⟩
/-- isinstance(e, (c1, c2, ..)) -/
def rIsET (K : Frag) (D a : Addr) (d : Option Addr) : List V → Hp → VK → Prop := fun xs H Q => ∃ (tp : Addr) (cs : List V) (us : List Value) (b : Bool), xs = [.ref a, .ref tp] ∧ H tp = some (.tup cs) ∧ Paired ClsV cs us ∧ PySem.W.kitAny K (.ref D) us = some b ∧
  (∀ dd, d = some dd → ∃ fs, H dd = some (.xd fs)) ∧ Q (.bl b) H
theorem call_isET {X : Cx} {a D : Addr} {oe : Obj} {d : Option Addr} {pn : List (Addr × Obj)} (C : ExcC X.K D) (hz : Zc (.ref D) d oe) (hf : ∃ vs, oe.data = .fields vs) : CallR (X.suite a ((a, oe) :: pn)) (.builtin "isinstance") (rIsET X.K D a d) := by
  intro pins s σ H xs us Q I r h
  obtain ⟨tp, cs, ws, b, rfl, hT, k, e, hd, q⟩ := h
  obtain ⟨u1, u2, rfl, r1, r2⟩ := vals2 r
  cases (show u1 = Value.ref a from r1)
  cases (show u2 = Value.ref tp from r2)
  obtain ⟨_, its, rv, o, h1, h2, n, h3⟩ := (show ObjOk X.prog X.w H s.heap tp (.tup cs) from I.hok tp _ hT)
  cases ClsV.all k rv
  obtain ⟨oc, odd, dt, sl⟩ := o
  simp only at h2 h3
  subst h2 h3
  obtain ⟨od, J⟩ := atE I hz hf hd
  exact PySem.W.kia_tup (kitE C) I.kIn J h1 e (fun z => nomatch z) fun tk => ⟨.bl b, H, I.tok tk, rfl, q⟩
/-! ### X(), an own exception class whose __init__ stores nothing -/
def tMkN (C : Addr) (sp : Sp) : L2.St → Hp → XK → Prop := fun _ H Q => ∀ a, H a = none → sp [.ref a] (upd H a (exo a C none)) (fun v H2 => v = .non ∧ H2 a = some (exo a C none) ∧ Q (.ref C) none (del H2 a)) (fun _ _ _ => False)
theorem pmk_oexN {X : Cx} {CX : CXT} {x : Str} {C fI : Addr} {k : Nat} {fd : FuncData} {ps : List Str} {sp : Sp} {p pos : Pos} (T : OexC X.K C) (iC : findIn X.K (.ref C) "__init__" = some (some (.ref fI))) (tI : PySem.W.typeIn X.K (.ref fI) = some (.type "function"))
    (F1 : FnOk X.prog X.w X.K X.mg X.base CX k fI fd ps sp) (hr : Room (k + 1) X.A) (hb : Binds X.K fd ps []) (hx : Passes CX X (fun _ _ _ => False)) (hg : Gl X x) (hm : X.mg x = some (.ref C)) (hdb : (x == ("__debug__" : Str)) = false := by decide) :
    PMk X (.Call (.Name x p) [] [] pos) (tMkN C sp) := by
  intro pins s σ H Q I h
  obtain ⟨nm, q, N, bs, bm, sn, sub, ab, col, dd, k0, k1, k2, k3, k5, hC, hbm⟩ := T.cls
  refine wpAny_Call_Name_kw (ld_glob I hg hm (PySem.W.callWith_K0 I.kIn T.kC ?_) hdb)
  obtain ⟨hp, g, dr, tk, os⟩ := s
  have hsz : hp.objs.size ≤ hp.objs.size + 1 := Nat.le_succ _
  have hn : H (hp.objs.size + 1) = none := I.hok.fresh hsz
  have hq := h (hp.objs.size + 1) hn
  have kk : ∀ b o, hp.get? b = some o → ((hp.push (PySem.W.kdv_tup [])).push (PySem.HandSPX.excO C hp.objs.size)).get? b = some o := fun b o e => Heap.get?_push_of_some _ (Heap.get?_push_of_some _ e)
  have hget : ((hp.push (PySem.W.kdv_tup [])).push (PySem.HandSPX.excO C hp.objs.size)).get? (hp.objs.size + 1) = some (PySem.HandSPX.excO C hp.objs.size) := by heap_get
  have I2 : Inv X pins σ (upd H (hp.objs.size + 1) (exo (hp.objs.size + 1) C none)) ⟨(hp.push (PySem.W.kdv_tup [])).push (PySem.HandSPX.excO C hp.objs.size), g, dr, tk, os⟩ :=
    I.laid (t' := tk) (a := hp.objs.size + 1) (o := exo (hp.objs.size + 1) C none) (h' := (hp.push (PySem.W.kdv_tup [])).push (PySem.HandSPX.excO C hp.objs.size)) kk hsz (exo_ok hget)
  have r2 : Vals [V.ref (hp.objs.size + 1)] [Value.ref (hp.objs.size + 1)] := .cons rfl .nil
  have hl : ([Value.ref (hp.objs.size + 1)] ++ ([] : List Value)).length = ps.length := (F1.len _ _ _ _ hq).symm ▸ rfl
  refine wpAny_call (PySem.HandSPX.call_own F.excBase_ValueError (fun Y => PySem.HandSPX.refsVE_contains Y bm hbm) (I.kIn _ _ hC) (looks_findIn I.kIn iC) (fun self => PySem.W.bind_fn I.kIn self tI) (by show 0 ≤ sizeLine; exact Nat.zero_le _)
    (codeAny_mono (F1.run _ X.stack _ _ ⟨[Value.ref (hp.objs.size + 1)], []⟩ [Value.ref (hp.objs.size + 1)] _ _ (fun _ _ _ => False) (hr.make C [] []) (I2.env0.make C [] []) (hb _ [Value.ref (hp.objs.size + 1)] I2.kIn hl) r2 hq) fun r s' hq' => ?_))
  cases r with
  | error er => exact hx pins σ _ _ er s' I2 hq'
  | ok fl => cases fl with
    | next => exact False.elim hq'
    | brk => exact False.elim hq'
    | cont => exact False.elim hq'
    | ret u =>
      obtain ⟨v, H2, os2, bare2, un2, hok2, rv, ev, ea, q2⟩ := hq'
      subst ev
      refine ⟨rv, ?_⟩
      obtain ⟨h2, g2, d2, t2, os'⟩ := s'
      generalize hA : hp.objs.size + 1 = a at *
      obtain ⟨t0, hoe⟩ := exo_at hok2 ea
      obtain ⟨G, g1', g2'⟩ := restrict h2 fun b => decide (b ≠ a)
      have gk : ∀ b, b ≠ a → G.get? b = h2.get? b := fun b hb => g1' b (decide_eq_true hb)
      have ge : G.get? a = none := g2' a (by simp)
      have nha : ∀ {b : Addr} {o : Obj}, hp.get? b = some o → b ≠ a := fun {b o} z => Nat.ne_of_lt (Nat.lt_of_lt_of_le (Heap.lt_size z) hsz)
      have up : ∀ {b : Addr}, b ≠ a → H b = none → upd H a (exo a C none) b = none := fun {b} hb n => by
        rw [upd_ne hb]
        exact n
      have U : Un (frs X.stack) [] H (del H2 a) hp G := {
        keep := fun b o z n hf hx => (gk b (nha z)).trans (un2.keep b o (kk b o z) (up (nha z) n) hf hx)
        slot := fun b o z n hf hx => by
          rw [gk b (nha z)]
          exact un2.slot b o (kk b o z) (up (nha z) n) hf hx
        free := fun b o z n hx => by
          rw [del_ne (nha z)]
          exact un2.free b o (kk b o z) (up (nha z) n) hx
        there := fun b o z hx => by
          rw [gk b (nha z)]
          exact un2.there b o (kk b o z) hx
        tups := fun b xs z => by
          rw [del_ne (ne_of_none z hn)]
          exact un2.tups b xs (by rw [upd_ne (ne_of_none z hn)]; exact z)
        frzs := fun b o v z => by
          rw [del_ne (ne_of_none z hn)]
          exact un2.frzs b o v (by rw [upd_ne (ne_of_none z hn)]; exact z)
        tbls := fun b ps z => by
          rw [del_ne (ne_of_none z hn)]
          exact un2.tbls b ps (by rw [upd_ne (ne_of_none z hn)]; exact z) }
      have hok3 : HOk X.prog X.w (del H2 a) G := fun b o z => by
        have hba : b ≠ a := fun e => by
          rw [e, del_same] at z
          cases z
        rw [del_ne hba] at z
        have noa : ∀ {c : Addr}, H2 c = some (.own b) → c ≠ a := fun {c} hc => at_ne ea hc exo_own
        refine (hok2 b o z).stay (fun c v hc y => ?_) (fun c hc => by rw [del_ne (noa hc)]; exact hc) (fun c xs hc => by rw [del_ne (at_ne ea hc exo_tup)]; exact hc)
        have hca : c ≠ a := hc.elim (fun e => e ▸ hba) noa
        exact (gk c hca).trans y
      have J : Inv X pins σ (del H2 a) ⟨G, g2, d2, t2, os'⟩ := I.call' (ch := []) os2 U hok3 bare2 (fun b z => absurd z (by simp))
      refine ⟨a, _, _, ⟨G, g2, d2, t2, os'⟩, _, .ref C, none, rfl, J, fun b o z => ?_, ge, hoe, ⟨rfl, rfl⟩, rfl, rfl, del_same, rfl, bare2, raises_own T.exC T.tyC, q2⟩
      by_cases hba : b = a
      · rw [hba] at z
        have z' : G.get? a = some o := z
        rw [ge] at z'
        cases z'
      · exact (gk b hba).symm.trans z
end TX
namespace TX
open PySem PySem.Spec PyProof.Rows L2
def top (i : Nat) : Stmt := PySem.Challenge.pw_textorlist_k18_equal_shapes.main.body.getD i (.Pass ⟨0, 0, 0, 0⟩)
abbrev s__wall : Stmt := top 0
abbrev sParts : Stmt := top 2
abbrev sCopy : Stmt := top 3
abbrev s_is_text : Stmt := top 6
abbrev s_place_of_last : Stmt := top 7
abbrev s_first_fault : Stmt := top 8
abbrev s_is_value : Stmt := top 9
abbrev s_row_of_texts : Stmt := top 20
abbrev s_row_of_step : Stmt := top 21
abbrev s_step_asked : Stmt := top 22
abbrev s_has_row : Stmt := top 23
abbrev s_told_by : Stmt := top 24
abbrev s_longer_plan : Stmt := top 25
abbrev s_leaf_number : Stmt := top 26
abbrev s_list_look : Stmt := top 27
abbrev s_is_member : Stmt := top 28
abbrev s_first_step : Stmt := top 30
abbrev s_step_above : Stmt := top 31
abbrev s_step_over_both : Stmt := top 32
abbrev s_combined : Stmt := top 33
abbrev s_is_in_step : Stmt := top 34
abbrev s_answers_to : Stmt := top 35
abbrev s_asked_steps : Stmt := top 36
abbrev s_letters_told_apart : Stmt := top 37
abbrev s_look_of_text : Stmt := top 38
abbrev s_answers_for : Stmt := top 39
abbrev s_least_leaves : Stmt := top 40
abbrev s_list_rows : Stmt := top 41
abbrev s_least_rows : Stmt := top 42
abbrev s_least_value : Stmt := top 43
abbrev cShape : Stmt := top 45
abbrev mShape_init : Stmt := inClass (top 45) 1
abbrev mShape_every : Stmt := inClass (top 45) 2
abbrev mShape_never : Stmt := inClass (top 45) 3
abbrev mShape_nothing : Stmt := inClass (top 45) 4
abbrev mShape_texts : Stmt := inClass (top 45) 5
abbrev mShape_lists : Stmt := inClass (top 45) 6
abbrev mShape_nested : Stmt := inClass (top 45) 7
abbrev mShape_or : Stmt := inClass (top 45) 8
abbrev mShape_and : Stmt := inClass (top 45) 9
abbrev mShape_sub : Stmt := inClass (top 45) 10
abbrev mShape_invert : Stmt := inClass (top 45) 11
abbrev mShape_ior : Stmt := inClass (top 45) 12
abbrev mShape_iand : Stmt := inClass (top 45) 13
abbrev mShape_contains : Stmt := inClass (top 45) 14
abbrev mShape_eq : Stmt := inClass (top 45) 15
abbrev mShape_bool : Stmt := inClass (top 45) 16
abbrev mShape_least : Stmt := inClass (top 45) 17
abbrev mShape_least_beyond : Stmt := inClass (top 45) 18
abbrev mShape_within : Stmt := inClass (top 45) 19
abbrev sBag : Stmt := top 47
abbrev sTake : Stmt := top 48
abbrev s__law_leaf : Stmt := top 49
abbrev s__law_shape : Stmt := top 50
abbrev s__law_has : Stmt := top 51
abbrev s__law_plain : Stmt := top 52
abbrev s__law_nested : Stmt := top 53
abbrev s__law_is_same : Stmt := top 54
abbrev s__law_differ : Stmt := top 55
abbrev sLaw : Stmt := top 56
end TX
namespace TX
open PySem PySem.Spec PyProof.Rows L2
/-! ### the walk over data: a step takes the first of the parts that wait -/
inductive Stp (K : PySem.W.Frag) (H : Hp) : List V × List PyData → V → List V × List PyData → Prop
  | leaf {v : V} {d : PyData} {r : List V} {rd : List PyData} : Dp K H v d → (tyD d == "list" || tyD d == "tuple") = false → Stp K H (v :: r, d :: rd) v (r, rd)
  | lst {a : Addr} {xs r : List V} {es rd : List PyData} : SqL K H a xs → DpAll K H xs es → Stp K H (.ref a :: r, .list es :: rd) (.ref a) (xs ++ r, es ++ rd)
  | tup {a : Addr} {xs r : List V} {es rd : List PyData} : SqT K H a xs → DpAll K H xs es → Stp K H (.ref a :: r, .tuple es :: rd) (.ref a) (xs ++ r, es ++ rd)
/-- the parts so far, the last one first -/
inductive Path (K : PySem.W.Frag) (H : Hp) (S0 : List V × List PyData) : List V → List V × List PyData → Prop
  | nil : Path K H S0 [] S0
  | cons {rs : List V} {S S' : List V × List PyData} {p : V} : Path K H S0 rs S → Stp K H S p S' → Path K H S0 (p :: rs) S'
theorem isLT (d : PyData) (K : PySem.W.Frag) : PySem.W.kitAny K (.type (tyD d)) [.type "list", .type "tuple"] = some (tyD d == "list" || tyD d == "tuple") := by
  cases d with
  | none => exact kitAny_cons (b := false) (kit_ty (a := "NoneType") (b := "list") (by decide +kernel)) (fun _ => kitAny_cons (b := false) (kit_ty (a := "NoneType") (b := "tuple") (by decide +kernel)) (fun _ => kitAny_nil) (fun z => nomatch z)) (fun z => nomatch z)
  | bool _ => exact kitAny_cons (b := false) (kit_ty (a := "bool") (b := "list") (by decide +kernel)) (fun _ => kitAny_cons (b := false) (kit_ty (a := "bool") (b := "tuple") (by decide +kernel)) (fun _ => kitAny_nil) (fun z => nomatch z)) (fun z => nomatch z)
  | int _ => exact kitAny_cons (b := false) (kit_ty (a := "int") (b := "list") (by decide +kernel)) (fun _ => kitAny_cons (b := false) (kit_ty (a := "int") (b := "tuple") (by decide +kernel)) (fun _ => kitAny_nil) (fun z => nomatch z)) (fun z => nomatch z)
  | str _ => exact kitAny_cons (b := false) (kit_ty (a := "str") (b := "list") (by decide +kernel)) (fun _ => kitAny_cons (b := false) (kit_ty (a := "str") (b := "tuple") (by decide +kernel)) (fun _ => kitAny_nil) (fun z => nomatch z)) (fun z => nomatch z)
  | dict _ => exact kitAny_cons (b := false) (kit_ty (a := "dict") (b := "list") (by decide +kernel)) (fun _ => kitAny_cons (b := false) (kit_ty (a := "dict") (b := "tuple") (by decide +kernel)) (fun _ => kitAny_nil) (fun z => nomatch z)) (fun z => nomatch z)
  | list _ => exact kitAny_cons (b := true) (kit_ty (a := "list") (b := "list") (by decide +kernel)) (fun z => nomatch z) (fun _ => rfl)
  | tuple _ => exact kitAny_cons (b := false) (kit_ty (a := "tuple") (b := "list") (by decide +kernel)) (fun _ => kitAny_cons (b := true) (kit_ty (a := "tuple") (b := "tuple") (by decide +kernel)) (fun z => nomatch z) (fun _ => rfl)) (fun z => nomatch z)
/-- what the walk asks of the names of the top -/
structure Nm (mg : Str → Option Value) : Prop where
  isi : mg "isinstance" = none
  lst : mg "list" = none
  tpl : mg "tuple" = none
def spParts (K : PySem.W.Frag) : Sp := fun vs H Q _ => ∃ (v : V) (d : PyData) (Hv : Hp), vs = [v] ∧ Same Hv H ∧ Dp K Hv v d ∧ nd d ≤ 1000000 ∧
  ∀ (H' : Hp) (p : Addr) (rs : List V), Same H H' → H p = none → H' p = some (.lst rs.reverse) → Path K Hv ([v], [d]) rs ([], []) → rs.length = nd d → Q (.ref p) H'
section
variable {P : Program} {w : World} {K : PySem.W.Frag} {mg : Str → Option Value} {base : Heap}
theorem scParts : FnScope ["thing", "waiting", "parts", "part"] ["thing"] (defScope sParts) := ⟨rfl, rfl, rfl, by decide +kernel, rfl, by decide +kernel, by decide +kernel⟩
theorem ok_parts {f : Addr} {fd : FuncData} {k : Nat} (F : Fun K "all_parts" "all_parts" sParts f fd) (T : Nm mg) : FnOk P w K mg base CX0 (k + 1) f fd ["thing"] (spParts K) := by
  refine F.ok scParts (fun vs H Q E h => ?_) (fun cdv A outer s H vs Q E hr h => ?_)
  · obtain ⟨v, d, Hv, rfl, _⟩ := h
    rfl
  · obtain ⟨v, d, Hv, rfl, sv, hd, hn, q⟩ := h
    refine ⟨_, pss_cons (ps_set (i := 1) scParts.nd rfl (.inl rfl) (pe_lst (pa_cons (pv 0) pa_nil)))
      (pss_cons (ps_set (i := 2) scParts.nd rfl (.inl rfl) (pe_lst pa_nil))
      (pss_cons (ps_while PassesOwn.never (pt_truth (pv 1) (by intro _; rfl))
        (pss_cons (ps_set (i := 3) scParts.nd rfl (.inl rfl) (pe_bm0 PySem.F.plainAttrs_list PySem.F.slot_list_pop PySem.F.type_list_pop mt_pop (pv 1)))
        (pss_cons (ps_expr (pe_bm PySem.F.plainAttrs_list PySem.F.slot_list_append PySem.F.type_list_append mt_append (pv 2) (pa_cons (pv 3) pa_nil)))
        (pss_one (ps_if (pt_val (pe_callB call_isiT (by rfl) T.isi (by decide +kernel) (pa_cons (pv 3) (pa_cons (pe_tup (pa_cons (pe_bltn (v := .ty "list") (by rfl) T.lst (by decide +kernel) rfl) (pa_cons (pe_bltn (v := .ty "tuple") (by rfl) T.tpl (by decide +kernel) rfl) pa_nil))) pa_nil))))
          (pss_one (ps_alt (ps_expr (pe_bm PySem.F.plainAttrs_list PySem.F.slot_list_extend PySem.F.type_list_extend mt_extend (pv 1) (pa_cons (pe_revL (pv 3)) pa_nil)))
            (ps_expr (pe_bm PySem.F.plainAttrs_list PySem.F.slot_list_extend PySem.F.type_list_extend mt_extT (pv 1) (pa_cons (pe_revT (pv 3)) pa_nil)))))
          pss_nil)))))
      (pss_one (ps_ret (pv 2))))), ?_⟩
    refine ⟨_, rfl, (by show 1 ≤ sizeLine; decide), fun wa nwa => ⟨by decide, fun pa npa => ?_⟩⟩
    have nwa' : pa ≠ wa := fun e => by
      rw [e, upd_same] at npa
      cases npa
    have npa0 : H pa = none := by
      rw [upd_ne nwa'] at npa
      exact npa
    -- the invariant
    refine ⟨fun m σ H1 => ∃ (rs : List V) (S : List V × List PyData) (y : Option V), σ = [some v, some (.ref wa), some (.ref pa), y] ∧ Same H H1 ∧ H1 wa = some (.lst S.1.reverse) ∧ H1 pa = some (.lst rs.reverse) ∧
      DpAll K Hv S.1 S.2 ∧ Path K Hv ([v], [d]) rs S ∧ rs.length + ndAll S.2 = nd d ∧ m = ndAll S.2, ⟨_, [], ([v], [d]), none, rfl, (same_upd nwa).trans (same_upd npa), ?_, upd_same, .cons hd .nil, .nil, ?_, rfl⟩, ?_⟩
    · rw [upd_ne nwa'.symm, upd_same]
      rfl
    · simp [ndAll]
    rintro m σ H1 ⟨rs, ⟨vs, ds⟩, y, rfl, sm, hw, hp, hS, hP, hc, rfl⟩
    refine ⟨_, rfl, _, .inl ⟨_, SqL.of hw, rfl⟩, ?_⟩
    cases hS with
    | nil =>
      -- nothing waits any more
      refine iteF ?_
      refine ⟨_, rfl, q H1 pa rs sm npa0 hp hP ?_⟩
      simpa [ndAll] using hc
    | @cons v1 r1 d1 rd1 h1 h2 =>
      have hne : (!((v1 :: r1, d1 :: rd1) : List V × List PyData).1.reverse.isEmpty) = true := by simp
      rw [hne]
      refine iteT ?_
      have hlen : rs.length + (nd d1 + ndAll rd1) = nd d := by simpa [ndAll] using hc
      have hrl : rs.length ≤ 1000000 := by omega
      have hvl : r1.length ≤ ndAll rd1 := by
        have e := DpAll.length h2
        have e2 := ndAll_len rd1
        omega
      refine ⟨fun σ' H2 => ∃ (S' : List V × List PyData), σ' = [some v, some (.ref wa), some (.ref pa), some v1] ∧ Same H H2 ∧ H2 wa = some (.lst S'.1.reverse) ∧ H2 pa = some (.lst (v1 :: rs).reverse) ∧ DpAll K Hv S'.1 S'.2 ∧ Stp K Hv (v1 :: r1, d1 :: rd1) v1 S' ∧ ndAll S'.2 + 1 = nd d1 + ndAll rd1, ?_, ?_⟩
      · rintro σ' H2 ⟨S', rfl, g1, g2, g3, g4, g5, g6⟩
        exact ⟨_, by simp only [ndAll]; omega, v1 :: rs, S', _, rfl, g1, g2, g3, g4, .cons hP g5, by rw [List.length_cons]; omega, rfl⟩
      -- part = waiting.pop()
      have ep : ((v1 :: r1, d1 :: rd1) : List V × List PyData).1.reverse = r1.reverse ++ [v1] := by simp
      rw [ep] at hw
      refine ⟨_, rfl, .inl ⟨rfl, _, SqL.of hw⟩, wa, _, v1, rfl, rfl, hw, by simp, ?_⟩
      rw [List.dropLast_concat]
      have sm1 : Same H (upd H1 wa (.lst r1.reverse)) := same_fresh nwa sm
      have hp1 : (upd H1 wa (.lst r1.reverse)) pa = some (.lst rs.reverse) := by
        rw [upd_ne nwa']
        exact hp
      -- parts.append(part)
      refine ⟨_, rfl, .inl ⟨rfl, _, SqL.of hp1⟩, _, rfl, pa, _, _, rfl, rfl, hp1, Nat.lt_of_le_of_lt (by simpa using hrl) (by decide), ?_⟩
      have sm2 := same_fresh (o := .lst (rs.reverse ++ [v1])) npa0 sm1
      have hw2 : (upd (upd H1 wa (.lst r1.reverse)) pa (.lst (rs.reverse ++ [v1]))) wa = some (.lst r1.reverse) := by
        rw [upd_ne nwa'.symm, upd_same]
      have hp2 : (upd (upd H1 wa (.lst r1.reverse)) pa (.lst (rs.reverse ++ [v1]))) pa = some (.lst (rs.reverse ++ [v1])) := upd_same
      -- if isinstance(part, (list, tuple))
      refine ⟨_, rfl, by decide, fun tp ntp => ?_⟩
      have t1 : wa ≠ tp := ne_of_none hw2 ntp
      have t2 : pa ≠ tp := ne_of_none hp2 ntp
      have sm3 : Same H (upd (upd (upd H1 wa (.lst r1.reverse)) pa (.lst (rs.reverse ++ [v1]))) tp (.tup [.ty "list", .ty "tuple"])) := sm2.trans (same_upd ntp)
      have hw3 : (upd (upd (upd H1 wa (.lst r1.reverse)) pa (.lst (rs.reverse ++ [v1]))) tp (.tup [.ty "list", .ty "tuple"])) wa = some (.lst r1.reverse) := by
        rw [upd_ne t1]
        exact hw2
      have hp3 : (upd (upd (upd H1 wa (.lst r1.reverse)) pa (.lst (rs.reverse ++ [v1]))) tp (.tup [.ty "list", .ty "tuple"])) pa = some (.lst (rs.reverse ++ [v1])) := by
        rw [upd_ne t2]
        exact hp2
      refine ⟨v1, tp, _, .type (tyD d1), [.type "list", .type "tuple"], _, rfl, upd_same, .cons (.ty _) (.cons (.ty _) .nil), dp_ty (dp_same (sv.trans sm3) _ _ h1), isLT d1 K, _, rfl, ?_⟩
      have er : (v1 :: rs).reverse = rs.reverse ++ [v1] := by simp
      generalize hG : upd (upd (upd H1 wa (.lst r1.reverse)) pa (.lst (rs.reverse ++ [v1]))) tp (.tup [.ty "list", .ty "tuple"]) = G at sm3 hw3 hp3
      -- what the reversed part puts behind
      have go : ∀ (rp : Addr) (o : HO) (xs : List V) (es : List PyData), G rp = none → DpAll K Hv xs es → nd d1 = ndAll es + 1 → Stp K Hv (v1 :: r1, d1 :: rd1) v1 (xs ++ r1, es ++ rd1) →
          ∃ S' : List V × List PyData, Same H (upd (upd G rp o) wa (.lst (r1.reverse ++ xs.reverse))) ∧ (upd (upd G rp o) wa (.lst (r1.reverse ++ xs.reverse))) wa = some (.lst S'.1.reverse) ∧
            (upd (upd G rp o) wa (.lst (r1.reverse ++ xs.reverse))) pa = some (.lst (v1 :: rs).reverse) ∧ DpAll K Hv S'.1 S'.2 ∧ Stp K Hv (v1 :: r1, d1 :: rd1) v1 S' ∧ ndAll S'.2 + 1 = nd d1 + ndAll rd1 := by
        intro rp o xs es nrp hxs hnd hst
        refine ⟨(xs ++ r1, es ++ rd1), same_fresh nwa (sm3.trans (same_upd nrp)), ?_, ?_, DpAll.append hxs h2, hst, ?_⟩
        · rw [upd_same]
          simp
        · rw [upd_ne nwa', upd_ne (ne_of_none hp3 nrp), er]
          exact hp3
        · show ndAll (es ++ rd1) + 1 = _
          rw [ndAll_append]
          omega
      have fit : ∀ (xs : List V) (es : List PyData), DpAll K Hv xs es → nd d1 = ndAll es + 1 → r1.reverse.length + xs.reverse.length ≤ sizeLine := by
        intro xs es hxs hnd
        have e1 := DpAll.length hxs
        have e2 := ndAll_len es
        rw [List.length_reverse, List.length_reverse]
        exact Nat.le_trans (show r1.length + xs.length ≤ 1000000 by omega) (by decide)
      have wne : ∀ {rp : Addr}, G rp = none → wa ≠ rp := fun h => ne_of_none hw3 h
      have leafy : (tyD d1 == "list" || tyD d1 == "tuple") = false → nd d1 = 1 → if (tyD d1 == "list" || tyD d1 == "tuple") = true then False else ∃ S' : List V × List PyData, Same H G ∧ G wa = some (.lst S'.1.reverse) ∧ G pa = some (.lst (v1 :: rs).reverse) ∧ DpAll K Hv S'.1 S'.2 ∧ Stp K Hv (v1 :: r1, d1 :: rd1) v1 S' ∧ ndAll S'.2 + 1 = nd d1 + ndAll rd1 := by
        intro e1 e2
        rw [e1]
        refine iteF ⟨(r1, rd1), sm3, hw3, by rw [er]; exact hp3, h2, .leaf h1 e1, ?_⟩
        show ndAll rd1 + 1 = _
        omega
      cases h1 with
      | non => exact let ⟨S', g⟩ := leafy rfl rfl; ⟨S', rfl, g⟩
      | bl b => exact let ⟨S', g⟩ := leafy rfl rfl; ⟨S', rfl, g⟩
      | int i => exact let ⟨S', g⟩ := leafy rfl rfl; ⟨S', rfl, g⟩
      | str x => exact let ⟨S', g⟩ := leafy rfl rfl; ⟨S', rfl, g⟩
      | @lst a xs es g1 g2 =>
        refine iteT (.inl ?_)
        refine ⟨_, rfl, .inl ⟨rfl, _, SqL.of hw3⟩, _, rfl, a, xs, rfl, (sv.trans sm3).seq g1, fun rp nrp => ?_⟩
        obtain ⟨S', g⟩ := go rp (.lst xs.reverse) xs es nrp g2 rfl (.lst g1 g2)
        exact ⟨wa, rp, _, _, rfl, rfl, by rw [upd_ne (wne nrp)]; exact hw3, upd_same, fit xs es g2 rfl, S', rfl, g⟩
      | @tup a xs es g1 g2 =>
        refine iteT (.inr ?_)
        refine ⟨_, rfl, .inl ⟨rfl, _, SqL.of hw3⟩, _, rfl, a, xs, rfl, same_sqt (sv.trans sm3) g1, fun rp nrp => ?_⟩
        obtain ⟨S', g⟩ := go rp (.tup xs.reverse) xs es nrp g2 rfl (.tup g1 g2)
        exact ⟨wa, rp, _, _, rfl, rfl, by rw [upd_ne (wne nrp)]; exact hw3, .inl (.inl upd_same), fit xs es g2 rfl, S', rfl, g⟩
end
end TX
namespace TX
open PySem PySem.Spec PyProof.Rows L2
/-- what is new behind H, but the place x -/
def newB (H : Hp) (x : Addr) (H' : Hp) : Hp := fun b => if b = x then none else match H b with
  | none => H' b
  | some _ => none
def newp (H H' : Hp) : Hp := fun b => match H b with
  | none => H' b
  | some _ => none
theorem newp_at {H H' : Hp} {b : Addr} (h : H b = none) : newp H H' b = H' b := by
  unfold newp
  rw [h]
theorem newp_old {H H' : Hp} {b : Addr} {o : HO} (h : H b = some o) : newp H H' b = none := by
  unfold newp
  rw [h]
theorem newp_less {H H1 H2 : Hp} (h : Same H H1) : Same (newp H1 H2) (newp H H2) := fun b o e => by
  cases h1 : H1 b with
  | some u =>
    rw [newp_old h1] at e
    cases e
  | none =>
    rw [newp_at h1] at e
    rw [newp_at (h.free h1)]
    exact e
theorem newB_newp {H H' : Hp} {x : Addr} : Same (newB H x H') (newp H H') := fun b o e => by
  unfold newB at e
  by_cases hb : b = x
  · rw [if_pos hb] at e
    cases e
  · rw [if_neg hb] at e
    exact e
theorem newp_same {H H' : Hp} : Same (newp H H') H' := fun b o e => by
  cases h : H b with
  | none =>
    rw [newp_at h] at e
    exact e
  | some u =>
    rw [newp_old h] at e
    cases e
theorem newB_at {H H' : Hp} {x b : Addr} (h : H b = none) (hx : b ≠ x) : newB H x H' b = H' b := by
  unfold newB
  rw [if_neg hx, h]
theorem newB_mono {H H1 H2 : Hp} {x : Addr} (h : ∀ b o, b ≠ x → H1 b = some o → H2 b = some o) : Same (newB H x H1) (newB H x H2) := fun b o e => by
  by_cases hb : b = x
  · unfold newB at e
    rw [if_pos hb] at e
    cases e
  · cases hh : H b with
    | none =>
      rw [newB_at hh hb] at e ⊢
      exact h b o hb e
    | some u =>
      unfold newB at e
      rw [if_neg hb, hh] at e
      cases e
/-- a leaf is data in any heap -/
theorem dp_leaf {K : PySem.W.Frag} {H H' : Hp} {v : V} {d : PyData} (h : Dp K H v d) (e : (tyD d == "list" || tyD d == "tuple") = false) : Dp K H' v d := by
  cases h with
  | non => exact .non
  | bl b => exact .bl b
  | int i => exact .int i
  | str x => exact .str x
  | lst _ _ => simp [tyD] at e
  | tup _ _ => simp [tyD] at e
def spCopy (K : PySem.W.Frag) : Sp := fun vs H Q _ => ∃ (v : V) (d : PyData) (Hv : Hp), vs = [v] ∧ Same Hv H ∧ Dp K Hv v d ∧ nd d ≤ 1000000 ∧
  ∀ (H' : Hp) (v' : V), Same H H' → Dp K (newp H H') v' d → Q v' H'
theorem kit1 (d : PyData) (K : PySem.W.Frag) : PySem.W.kitOne K (.type (tyD d)) (.type "tuple") = some (tyD d == "tuple") := by
  cases d with
  | none => exact (kit_ty (a := "NoneType") (b := "tuple") (r := false) (by decide +kernel)).trans (by simp [tyD])
  | bool _ => exact (kit_ty (a := "bool") (b := "tuple") (r := false) (by decide +kernel)).trans (by simp [tyD])
  | int _ => exact (kit_ty (a := "int") (b := "tuple") (r := false) (by decide +kernel)).trans (by simp [tyD])
  | str _ => exact (kit_ty (a := "str") (b := "tuple") (r := false) (by decide +kernel)).trans (by simp [tyD])
  | list _ => exact (kit_ty (a := "list") (b := "tuple") (r := false) (by decide +kernel)).trans (by simp [tyD])
  | tuple _ => exact (kit_ty (a := "tuple") (b := "tuple") (r := true) (by decide +kernel)).trans (by simp [tyD])
  | dict _ => exact (kit_ty (a := "dict") (b := "tuple") (r := false) (by decide +kernel)).trans (by simp [tyD])
theorem rev_drop {c : List V} {j : Nat} {y : V} (h : c[j]? = some y) : (c.drop j).reverse = (c.drop (j + 1)).reverse ++ [y] := by
  obtain ⟨hj, e⟩ := List.getElem?_eq_some_iff.mp h
  rw [List.drop_eq_getElem_cons hj, e]
  simp
theorem path_count {K : PySem.W.Frag} {Hv : Hp} {S0 : List V × List PyData} : ∀ {rs : List V} {S : List V × List PyData}, Path K Hv S0 rs S → rs.length + ndAll S.2 = ndAll S0.2
  | _, _, .nil => by simp
  | _, _, .cons hP hs => by
    have ih := path_count hP
    cases hs with
    | @leaf v0 d0 r0 rd0 h e =>
      have one : nd d0 = 1 := by
        cases h with
        | non => rfl
        | bl b => rfl
        | int i => rfl
        | str x => rfl
        | lst _ _ => simp [tyD] at e
        | tup _ _ => simp [tyD] at e
      simp only [ndAll, one] at ih
      rw [List.length_cons]
      dsimp only
      omega
    | lst h g =>
      simp only [ndAll, nd] at ih
      rw [List.length_cons, ndAll_append]
      omega
    | tup h g =>
      simp only [ndAll, nd] at ih
      rw [List.length_cons, ndAll_append]
      omega
section
variable {P : Program} {w : World} {K : PySem.W.Frag} {mg : Str → Option Value} {base : Heap}
theorem scCopy : FnScope ["thing", "done", "part", "made", "_"] ["thing"] (defScope sCopy) := ⟨rfl, rfl, rfl, by decide +kernel, rfl, by decide +kernel, by decide +kernel⟩
theorem ok_copy {f fP : Addr} {fd fdP : FuncData} {k : Nat} (F : Fun K "copy_of" "copy_of" sCopy f fd) (T : Nm mg) (FP : Fun K "all_parts" "all_parts" sParts fP fdP) (bP : Binds K fdP ["thing"] []) (gP : mg "all_parts" = some (.ref fP)) :
    FnOk P w K mg base CX0 (k + 2) f fd ["thing"] (spCopy K) := by
  have GP : FnOk P w K mg base CX0 (k + 1) fP fdP ["thing"] (spParts K) := ok_parts FP T
  refine F.ok scCopy (fun vs H Q E h => ?_) (fun cdv A outer s H vs Q E hr h => ?_)
  · obtain ⟨v, d, Hv, rfl, _⟩ := h
    rfl
  · obtain ⟨v, d, Hv, rfl, sv, hd, hn, q⟩ := h
    refine ⟨_, pss_cons (ps_if (pt_not (pt_val (pe_callB call_isiT (by rfl) T.isi (by decide +kernel) (pa_cons (pv 0) (pa_cons (pe_tup (pa_cons (pe_bltn (v := .ty "list") (by rfl) T.lst (by decide +kernel) rfl) (pa_cons (pe_bltn (v := .ty "tuple") (by rfl) T.tpl (by decide +kernel) rfl) pa_nil))) pa_nil))))) (pss_one (ps_ret (pv 0))) pss_nil) <| pss_cons (ps_set (i := 1) scCopy.nd rfl (.inr rfl) (pe_lst pa_nil))
      (pss_cons (ps_for PassesOwn.never rfl (pi_list (pe_revL (pe_call GP hr (by rfl) gP FP.kp bP .nil pass0 (pa_cons (pv 0) pa_nil)))) (pg_name (i := 2) scCopy.nd rfl (.inl rfl))
        (pss_cons (ps_set (i := 3) scCopy.nd rfl (.inl rfl) (pv 2))
        (pss_cons (ps_if (pt_val (pe_callB call_isiT (by rfl) T.isi (by decide +kernel) (pa_cons (pv 2) (pa_cons (pe_tup (pa_cons (pe_bltn (v := .ty "list") (by rfl) T.lst (by decide +kernel) rfl) (pa_cons (pe_bltn (v := .ty "tuple") (by rfl) T.tpl (by decide +kernel) rfl) pa_nil))) pa_nil))))
          (pss_one (ps_alt
            (ps_setLc (i := 3) (own := [("_", 4)]) (g := gName 4) (tt := tYes) (te := tBM0 K "list" rPop (tVar 1)) rfl scCopy.nd rfl rfl (sw_true rfl rfl rfl (by decide +kernel)) (pi_list (pv 2)) (blkOk_by (N := ["thing", "done", "part", "made", "_"]) (sc := defScope sCopy) (by decide +kernel))
              (fun _ _ _ _ _ => pg_name (i := 4) scCopy.nd rfl (Or.inl rfl)) (fun _ _ _ _ _ => pts_nil) (fun _ _ _ _ _ => pe_bm0 PySem.F.plainAttrs_list PySem.F.slot_list_pop PySem.F.type_list_pop mt_pop (pv 1)))
            (ps_setLc (i := 3) (own := [("_", 4)]) (g := gName 4) (tt := tYes) (te := tBM0 K "list" rPop (tVar 1)) rfl scCopy.nd rfl rfl (sw_true rfl rfl rfl (by decide +kernel)) (pi_tup (pv 2)) (blkOk_by (N := ["thing", "done", "part", "made", "_"]) (sc := defScope sCopy) (by decide +kernel))
              (fun _ _ _ _ _ => pg_name (i := 4) scCopy.nd rfl (Or.inl rfl)) (fun _ _ _ _ _ => pts_nil) (fun _ _ _ _ _ => pe_bm0 PySem.F.plainAttrs_list PySem.F.slot_list_pop PySem.F.type_list_pop mt_pop (pv 1)))))
          pss_nil)
        (pss_cons (ps_if (pt_val (pe_callB call_isi (by rfl) T.isi (by decide +kernel) (pa_cons (pv 2) (pa_cons (pe_bltn (v := .ty "tuple") (by rfl) T.tpl (by decide +kernel) rfl) pa_nil))))
          (pss_one (ps_set (i := 3) scCopy.nd rfl (.inl rfl) (pe_callTy call_tuple_of (by rfl) T.tpl (by decide +kernel) (pa_cons (pv 3) pa_nil))))
          pss_nil)
        (pss_one (ps_expr (pe_bm PySem.F.plainAttrs_list PySem.F.slot_list_append PySem.F.type_list_append mt_append (pv 1) (pa_cons (pv 3) pa_nil))))))))
      (pss_one (ps_ret (pe_ix ix_list (pv 1) pe_int (fun _ _ => rfl))))), ?_⟩
    refine ⟨_, rfl, by decide, fun tp0 ntp0 => ?_⟩
    refine ⟨v, tp0, _, .type (tyD d), [.type "list", .type "tuple"], _, rfl, upd_same, .cons (.ty _) (.cons (.ty _) .nil), dp_ty (dp_same (sv.trans (same_upd ntp0)) _ _ hd), isLT d K, _, rfl, ?_⟩
    have q2 : ∀ (H' : Hp) (v' : V), Same (upd H tp0 (.tup [.ty "list", .ty "tuple"])) H' → Dp K (newp (upd H tp0 (.tup [.ty "list", .ty "tuple"])) H') v' d → Q v' H' := fun H' v' e1 e2 => q H' v' ((same_upd ntp0).trans e1) (dp_same (newp_less (same_upd ntp0)) _ _ e2)
    have sv2 : Same Hv (upd H tp0 (.tup [.ty "list", .ty "tuple"])) := sv.trans (same_upd ntp0)
    cases hlt : (tyD d == "list" || tyD d == "tuple") with
    | false =>
      exact iteT ⟨_, rfl, q2 _ _ (fun _ _ e => e) (dp_leaf hd hlt)⟩
    | true =>
    refine iteF ?_
    generalize upd H tp0 (.tup [.ty "list", .ty "tuple"]) = H at sv2 q2
    clear q sv ntp0 tp0
    have sv := sv2
    have q := q2
    refine ⟨by decide, fun da nda => ?_⟩
    -- all_parts(thing)[::-1]
    refine ⟨_, rfl, v, d, Hv, rfl, sv.trans (same_upd nda), hd, hn, fun H1 p rs sm1 np hp hP hlen => ?_⟩
    have hda1 : H1 da = some (.lst []) := sm1 _ _ upd_same
    refine ⟨p, _, rfl, SqL.of hp, fun r nr => ?_⟩
    rw [List.reverse_reverse]
    have rda : da ≠ r := ne_of_none hda1 nr
    have s0 : Same H (upd H1 r (.lst rs)) := ((same_upd nda).trans sm1).trans (same_upd nr)
    have hr0 : H r = none := ((same_upd nda).trans sm1).free nr
    have nda0 : H da = none := nda
    refine ⟨r, rfl, ⟨_, SqL.of upd_same⟩, for_list (K := K) (a := r) (xs := rs) (fun i σ H2 => ∃ (S : List V × List PyData) (cs : List V) (y2 y3 : Option V), σ = [some v, some (.ref da), y2, y3, none] ∧ Same H H2 ∧ H2 r = some (.lst rs) ∧
      Path K Hv ([v], [d]) (rs.drop i) S ∧ H2 da = some (.lst cs.reverse) ∧ DpAll K (newB H da H2) cs S.2) ?_ ?_ ?_ ?_⟩
    · exact ⟨([], []), [], none, none, rfl, s0, upd_same, hP, by rw [upd_ne rda]; exact hda1, .nil⟩
    · rintro i σ H2 hi ⟨S, cs, y2, y3, rfl, _, g, _⟩
      exact SqL.of g
    · rintro i x σ H2 hx ⟨S, cs, y2, y3, rfl, sm, hrs, hPi, hda, hcs⟩
      have edrop : rs.drop i = x :: rs.drop (i + 1) := by
        obtain ⟨hj, e⟩ := List.getElem?_eq_some_iff.mp hx
        rw [List.drop_eq_getElem_cons hj, e]
      rw [edrop] at hPi
      cases hPi with
      | @cons _ S1 _ _ hP1 hst =>
      have cnt := path_count (.cons hP1 hst)
      have cnt0 : ndAll ([d] : List PyData) = nd d := by simp [ndAll]
      have lcs : cs.length ≤ 1000000 := by
        have e1 := DpAll.length hcs
        have e2 := ndAll_len S.2
        have e3 : ndAll (([v], [d]) : List V × List PyData).2 = nd d := cnt0
        omega
      -- the part's data
      obtain ⟨dx, hdx⟩ : ∃ dx, Dp K Hv x dx ∧ ((∃ r1 rd1, S1 = (x :: r1, dx :: rd1) ∧ S = (r1, rd1) ∧ (tyD dx == "list" || tyD dx == "tuple") = false) ∨
          (∃ a xs es r1 rd1, x = .ref a ∧ dx = .list es ∧ SqL K Hv a xs ∧ DpAll K Hv xs es ∧ S1 = (x :: r1, .list es :: rd1) ∧ S = (xs ++ r1, es ++ rd1)) ∨
          (∃ a xs es r1 rd1, x = .ref a ∧ dx = .tuple es ∧ SqT K Hv a xs ∧ DpAll K Hv xs es ∧ S1 = (x :: r1, .tuple es :: rd1) ∧ S = (xs ++ r1, es ++ rd1))) := by
        cases hst with
        | leaf h e => exact ⟨_, h, .inl ⟨_, _, rfl, rfl, e⟩⟩
        | lst h g => exact ⟨_, .lst h g, .inr (.inl ⟨_, _, _, _, _, rfl, rfl, h, g, rfl, rfl⟩)⟩
        | tup h g => exact ⟨_, .tup h g, .inr (.inr ⟨_, _, _, _, _, rfl, rfl, h, g, rfl, rfl⟩)⟩
      obtain ⟨hx1, hcase⟩ := hdx
      -- made = part; isinstance(part, (list, tuple))
      refine ⟨_, rfl, _, rfl, by decide, fun tp ntp => ?_⟩
      have sm3 : Same H (upd H2 tp (.tup [.ty "list", .ty "tuple"])) := sm.trans (same_upd ntp)
      have hda3 : (upd H2 tp (.tup [.ty "list", .ty "tuple"])) da = some (.lst cs.reverse) := same_upd ntp _ _ hda
      have hrs3 : (upd H2 tp (.tup [.ty "list", .ty "tuple"])) r = some (.lst rs) := same_upd ntp _ _ hrs
      have hcs3 : DpAll K (newB H da (upd H2 tp (.tup [.ty "list", .ty "tuple"]))) cs S.2 := dpAll_same (newB_mono fun b o _ e => same_upd ntp b o e) _ _ hcs
      refine ⟨x, tp, _, .type (tyD dx), [.type "list", .type "tuple"], _, rfl, upd_same, .cons (.ty _) (.cons (.ty _) .nil), dp_ty (dp_same (sv.trans sm3) _ _ hx1), isLT dx K, _, rfl, ?_⟩
      generalize upd H2 tp (.tup [.ty "list", .ty "tuple"]) = G at sm3 hda3 hrs3 hcs3
      rcases hcase with ⟨r1, rd1, rfl, rfl, e⟩ | ⟨a, xs, es, r1, rd1, rfl, rfl, g1, g2, rfl, rfl⟩ | ⟨a, xs, es, r1, rd1, rfl, rfl, g1, g2, rfl, rfl⟩
      · rw [e]
        refine iteF ?_
        have e2 : (tyD dx == "tuple") = false := (Bool.or_eq_false_iff.mp e).2
        refine ⟨_, rfl, x, .ty "tuple", .type (tyD dx), .type "tuple", _, rfl, .ty _, dp_ty (dp_leaf hx1 e), kit1 dx K, _, rfl, ?_⟩
        rw [e2]
        refine iteF ?_
        refine ⟨_, rfl, .inl ⟨rfl, _, SqL.of hda3⟩, _, rfl, da, _, _, rfl, rfl, hda3, Nat.lt_of_le_of_lt (by simpa using lcs) (by decide), ?_⟩
        refine ⟨_, x :: cs, _, _, rfl, same_fresh nda0 sm3, by rw [upd_ne rda.symm]; exact hrs3, hP1, ?_, ?_⟩
        · rw [upd_same]
          simp
        · exact .cons (dp_leaf hx1 e) (dpAll_same (newB_mono fun b o hb e => by rw [upd_ne hb]; exact e) _ _ hcs3)
      · obtain ⟨c1, c2, rfl, hc1, hc2⟩ := DpAll.split hcs3
        have hxl : xs.length = c1.length := (DpAll.length g2).trans (DpAll.length hc1).symm
        refine iteT (.inl ?_)
        refine ⟨_, rfl, a, rfl, ⟨_, (sv.trans sm3).seq g1⟩, fun D nD => lc_list (K := K) (a := a) (xs := xs) (fun j H4 => H4 da = some (.lst (c2.reverse ++ (c1.drop j).reverse)) ∧ H4 D = some (.lst (c1.take j)) ∧ ∀ b o, b ≠ da → b ≠ D → G b = some o → H4 b = some o) ?_ ?_ ?_ ?_⟩
        · have ne : da ≠ D := ne_of_none hda3 nD
          refine ⟨?_, upd_same, fun b o _ hb e => by rw [upd_ne hb]; exact e⟩
          rw [upd_ne ne, hda3]
          simp
        · rintro j H4 hj ⟨_, _, kp⟩
          have nDH : H D = none := sm3.free nD
          exact Same.seq (fun b o e => kp b o (ne_of_none e nda0) (ne_of_none e nDH) (sm3 b o e)) (sv.seq g1)
        · rintro j y H4 hy ⟨k1, k2, kp⟩
          have ne : da ≠ D := ne_of_none hda3 nD
          have hjl : j < c1.length := by
            have := (List.getElem?_eq_some_iff.mp hy).1
            omega
          have hcj : c1[j]? = some c1[j] := List.getElem?_eq_getElem hjl
          rw [rev_drop hcj, ← List.append_assoc] at k1
          refine ⟨rfl, .ref da, rfl, .inl ⟨rfl, _, SqL.of k1⟩, da, _, c1[j], rfl, rfl, k1, by simp, ?_⟩
          rw [List.dropLast_concat]
          refine ⟨c1.take j, by rw [upd_ne ne.symm]; exact k2, ?_, ?_, ?_, fun b o h1 h2 e => ?_⟩
          · refine Nat.lt_of_le_of_lt (show (c1.take j).length ≤ 1000000 from ?_) (by decide)
            rw [List.length_append] at lcs
            have := List.length_take_le j c1
            omega
          · rw [upd_ne ne, upd_same]
          · rw [upd_same, List.take_add_one, hcj]
            rfl
          · rw [upd_ne h2, upd_ne h1]
            exact kp b o h1 h2 e
        · rintro H4 ⟨k1, k2, kp⟩
          have ne : da ≠ D := ne_of_none hda3 nD
          have nDH : H D = none := sm3.free nD
          have sm4 : Same H H4 := fun b o e => kp b o (ne_of_none e nda0) (ne_of_none e nDH) (sm3 b o e)
          have rD : r ≠ D := ne_of_none hrs3 nD
          have hr4 : H4 r = some (.lst rs) := kp r _ rda.symm rD hrs3
          rw [hxl] at k1 k2
          rw [List.drop_length, List.reverse_nil, List.append_nil] at k1
          rw [List.take_length] at k2
          have mono4 : Same (newB H da G) (newB H da H4) := fun b o e => by
            by_cases hb : b = da
            · unfold newB at e
              rw [if_pos hb] at e
              cases e
            · cases hh : H b with
              | some u =>
                unfold newB at e
                rw [if_neg hb, hh] at e
                cases e
              | none =>
                rw [newB_at hh hb] at e ⊢
                exact kp b o hb (ne_of_none e nD) e
          have hd4 : DpAll K (newB H da H4) c1 es := dpAll_same mono4 _ _ hc1
          have hd5 : DpAll K (newB H da H4) c2 rd1 := dpAll_same mono4 _ _ hc2
          have hD4 : (newB H da H4) D = some (.lst c1) := by
            rw [newB_at nDH ne.symm]
            exact k2
          have hc1l : c1.length ≤ 1000000 ∧ c2.length ≤ 1000000 := by
            rw [List.length_append] at lcs
            omega
          refine ⟨_, rfl, .ref a, .ty "tuple", .type "list", .type "tuple", _, rfl, .ty _, dp_ty (d := .list es) (.lst (Same.seq sm4 (sv.seq g1)) (dpAll_same (sv.trans sm4) _ _ g2)), kit1 (.list es) K, _, rfl, ?_⟩
          refine iteF ?_
          refine ⟨_, rfl, .inl ⟨rfl, _, SqL.of k1⟩, _, rfl, da, _, _, rfl, rfl, k1, Nat.lt_of_le_of_lt (by simpa using hc1l.2) (by decide), ?_⟩
          refine ⟨_, .ref D :: c2, _, _, rfl, same_fresh nda0 sm4, by rw [upd_ne rda.symm]; exact hr4, hP1, ?_, ?_⟩
          · rw [upd_same]
            simp
          · have up : Same (newB H da H4) (newB H da (upd H4 da (.lst (c2.reverse ++ [.ref D])))) := newB_mono fun b o hb e => by
              rw [upd_ne hb]
              exact e
            exact .cons (.lst (SqL.of (up _ _ hD4)) (dpAll_same up _ _ hd4)) (dpAll_same up _ _ hd5)
      · obtain ⟨c1, c2, rfl, hc1, hc2⟩ := DpAll.split hcs3
        have hxl : xs.length = c1.length := (DpAll.length g2).trans (DpAll.length hc1).symm
        refine iteT (.inr ?_)
        refine ⟨_, rfl, a, rfl, ⟨_, same_sqt (sv.trans sm3) g1⟩, fun D nD => lc_tup (K := K) (a := a) (xs := xs) (fun j H4 => H4 da = some (.lst (c2.reverse ++ (c1.drop j).reverse)) ∧ H4 D = some (.lst (c1.take j)) ∧ ∀ b o, b ≠ da → b ≠ D → G b = some o → H4 b = some o) ?_ ?_ ?_ ?_⟩
        · have ne : da ≠ D := ne_of_none hda3 nD
          refine ⟨?_, upd_same, fun b o _ hb e => by rw [upd_ne hb]; exact e⟩
          rw [upd_ne ne, hda3]
          simp
        · rintro j H4 hj ⟨_, _, kp⟩
          have nDH : H D = none := sm3.free nD
          exact same_sqt (fun b o e => kp b o (ne_of_none e nda0) (ne_of_none e nDH) (sm3 b o e)) (same_sqt sv g1)
        · rintro j y H4 hy ⟨k1, k2, kp⟩
          have ne : da ≠ D := ne_of_none hda3 nD
          have hjl : j < c1.length := by
            have := (List.getElem?_eq_some_iff.mp hy).1
            omega
          have hcj : c1[j]? = some c1[j] := List.getElem?_eq_getElem hjl
          rw [rev_drop hcj, ← List.append_assoc] at k1
          refine ⟨rfl, .ref da, rfl, .inl ⟨rfl, _, SqL.of k1⟩, da, _, c1[j], rfl, rfl, k1, by simp, ?_⟩
          rw [List.dropLast_concat]
          refine ⟨c1.take j, by rw [upd_ne ne.symm]; exact k2, ?_, ?_, ?_, fun b o h1 h2 e => ?_⟩
          · refine Nat.lt_of_le_of_lt (show (c1.take j).length ≤ 1000000 from ?_) (by decide)
            rw [List.length_append] at lcs
            have := List.length_take_le j c1
            omega
          · rw [upd_ne ne, upd_same]
          · rw [upd_same, List.take_add_one, hcj]
            rfl
          · rw [upd_ne h2, upd_ne h1]
            exact kp b o h1 h2 e
        · rintro H4 ⟨k1, k2, kp⟩
          have ne : da ≠ D := ne_of_none hda3 nD
          have nDH : H D = none := sm3.free nD
          have sm4 : Same H H4 := fun b o e => kp b o (ne_of_none e nda0) (ne_of_none e nDH) (sm3 b o e)
          have rD : r ≠ D := ne_of_none hrs3 nD
          have hr4 : H4 r = some (.lst rs) := kp r _ rda.symm rD hrs3
          rw [hxl] at k1 k2
          rw [List.drop_length, List.reverse_nil, List.append_nil] at k1
          rw [List.take_length] at k2
          have mono4 : Same (newB H da G) (newB H da H4) := fun b o e => by
            by_cases hb : b = da
            · unfold newB at e
              rw [if_pos hb] at e
              cases e
            · cases hh : H b with
              | some u =>
                unfold newB at e
                rw [if_neg hb, hh] at e
                cases e
              | none =>
                rw [newB_at hh hb] at e ⊢
                exact kp b o hb (ne_of_none e nD) e
          have hd4 : DpAll K (newB H da H4) c1 es := dpAll_same mono4 _ _ hc1
          have hd5 : DpAll K (newB H da H4) c2 rd1 := dpAll_same mono4 _ _ hc2
          have hD4 : (newB H da H4) D = some (.lst c1) := by
            rw [newB_at nDH ne.symm]
            exact k2
          have hc1l : c1.length ≤ 1000000 ∧ c2.length ≤ 1000000 := by
            rw [List.length_append] at lcs
            omega
          refine ⟨_, rfl, .ref a, .ty "tuple", .type "tuple", .type "tuple", _, rfl, .ty _, dp_ty (d := .tuple es) (.tup (same_sqt sm4 (same_sqt sv g1)) (dpAll_same (sv.trans sm4) _ _ g2)), kit1 (.tuple es) K, _, rfl, ?_⟩
          refine iteT ?_
          -- made = tuple(made)
          refine ⟨_, rfl, D, c1, rfl, .inl ⟨SqL.of k2, fun tq ntq => ?_⟩⟩
          have nq : H tq = none := sm4.free ntq
          have dq : da ≠ tq := ne_of_none k1 ntq
          have rq : r ≠ tq := ne_of_none hr4 ntq
          have k5 : (upd H4 tq (.tup c1)) da = some (.lst c2.reverse) := by
            rw [upd_ne dq]
            exact k1
          refine ⟨_, rfl, .inl ⟨rfl, _, SqL.of k5⟩, _, rfl, da, _, _, rfl, rfl, k5, Nat.lt_of_le_of_lt (by simpa using hc1l.2) (by decide), ?_⟩
          refine ⟨_, .ref tq :: c2, _, _, rfl, same_fresh nda0 (sm4.trans (same_upd ntq)), by rw [upd_ne rda.symm, upd_ne rq]; exact hr4, hP1, ?_, ?_⟩
          · rw [upd_same]
            simp
          · have up : Same (newB H da H4) (newB H da (upd (upd H4 tq (.tup c1)) da (.lst (c2.reverse ++ [.ref tq])))) := newB_mono fun b o hb e => by
              rw [upd_ne hb, upd_ne (ne_of_none e ntq)]
              exact e
            have at_ : (newB H da (upd (upd H4 tq (.tup c1)) da (.lst (c2.reverse ++ [.ref tq])))) tq = some (.tup c1) := by
              rw [newB_at nq dq.symm, upd_ne dq.symm, upd_same]
            exact .cons (.tup (SqT.of at_) (dpAll_same up _ _ hd4)) (dpAll_same up _ _ hd5)
    · rintro σ H2 ⟨S, cs, y2, y3, rfl, sm, hrs, hPi, hda, hcs⟩
      rw [List.drop_length] at hPi
      cases hPi
      cases hcs with
      | @cons c1 _ _ _ h1 h2 =>
        cases h2
        refine ⟨_, rfl, da, [c1], 0, c1, rfl, rfl, SqL.of hda, atI_nat (j := 0) rfl, ?_⟩
        exact q H2 c1 sm (dp_same newB_newp _ _ h1)
end
end TX
namespace TX
open PySem PySem.Spec PyProof.Rows L2
structure Nb (mg : Str → Option Value) : Prop where
  len : mg "len" = none
  abs : mg "abs" = none
  enum : mg "enumerate" = none
  int : mg "int" = none
/-- a bag of draws: two ints -/
def BagAt (H : Hp) (p : Addr) : Prop := ∃ x y : Int, H p = some (.lst [.int x, .int y])
def spBag (K : PySem.W.Frag) : Sp := fun vs H Q _ => ∃ (a : Addr) (ns : List Int) (at_ : Nat), vs = [.ref a, .int at_] ∧ SqL K H a (ns.map V.int) ∧ ns.length ≤ 63 ∧
  ∀ (H' : Hp) (p : Addr), Same H H' → H p = none → BagAt H' p → Q (.ref p) H'
def spTake : Sp := fun vs H Q _ => ∃ (p : Addr) (m : Int), vs = [.ref p, .int m] ∧ BagAt H p ∧ 0 < m ∧ m ≤ 1000000 ∧
  ∀ (x y d : Int), 0 ≤ d → d < m → Q (.int d) (upd H p (.lst [.int x, .int y]))
section
variable {P : Program} {w : World} {K : PySem.W.Frag} {mg : Str → Option Value} {base : Heap}
theorem scBag : FnScope ["_law_script", "_law_at", "_law_cell", "_law_mixed", "_law_place", "_law_each"] ["_law_script", "_law_at"] (defScope sBag) := ⟨rfl, rfl, rfl, by decide +kernel, rfl, by decide +kernel, by decide +kernel⟩
theorem ok_bag {f : Addr} {fd : FuncData} {k : Nat} (F : Fun K "_law_bag" "_law_bag" sBag f fd) (T : Nb mg) : FnOk P w K mg base CX0 (k + 1) f fd ["_law_script", "_law_at"] (spBag K) := by
  refine F.ok scBag (fun vs H Q E h => ?_) (fun cdv A outer s H vs Q E hr h => ?_)
  · obtain ⟨a, ns, i, rfl, _⟩ := h
    rfl
  · obtain ⟨a, ns, i, rfl, hS, hn, q⟩ := h
    refine ⟨_, pss_cons (ps_par (i := 2) (j := 3) rfl scBag.nd rfl rfl (by decide) rfl rfl
        (pa_cons (pe_ifExp (pt_cmpR op_lt (pv 1) (pe_callB call_len_seq (by rfl) T.len PySem.boot_len (pa_cons (pv 0) pa_nil)) (nomark _)) (pe_callB call_abs (by rfl) T.abs (by decide +kernel) (pa_cons (pe_ix ix_list (pv 0) (pv 1) (fun _ _ => rfl)) pa_nil)) pe_int)
          (pa_cons (pe_op op_add (pe_op op_mul pe_int (pv 1)) pe_int) pa_nil)) (by rfl))
      (pss_cons (ps_for PassesOwn.never rfl (pi_enum (by rfl) T.enum (pa_cons (pe_slice sl_list (pv 0) po_none (po_some pe_int)) pa_nil))
          (pg_tup rfl (pgs_cons (pg_name (i := 4) scBag.nd rfl (.inl rfl)) (pgs_cons (pg_name (i := 5) scBag.nd rfl (.inl rfl)) pgs_nil)))
        (pss_one (ps_set (i := 3) scBag.nd rfl (.inl rfl) (pe_op op_mod (pe_callTy call_int1 (by rfl) T.int (by decide +kernel)
          (pa_cons (pe_op op_add (pe_op op_add (pe_op op_mul (pv 3) pe_int) (pe_op op_mod (pe_callTy call_int1 (by rfl) T.int (by decide +kernel) (pa_cons (pv 5) pa_nil)) pe_int)) (pe_op op_mul pe_int (pv 4))) pa_nil)) pe_int))))
      (pss_one (ps_ret (pe_lst (pa_cons (pe_ifExp (pt_cmpR op_ge (pv 2) (pe_op op_pow pe_int pe_int) (nomark _)) (pv 2) pe_int) (pa_cons (pv 3) pa_nil)))))), ?_⟩
    refine ⟨_, rfl, _, rfl, a, _, rfl, .inl hS, _, _, rfl, rfl, _, rfl, ?_⟩
    have cut63 : ∀ x ∈ cutV (ns.map V.int) none (some 63), ∃ z, x = V.int z := by
      intro x hx
      unfold cutV at hx
      obtain ⟨z, _, e⟩ := List.mem_map.mp (List.mem_of_mem_drop (List.mem_of_mem_take hx))
      exact ⟨z, e.symm⟩
    generalize hC : cutV (ns.map V.int) none (some 63) = C at *
    refine ite2 (fun hlt => ?_) (fun hge => ?_)
    · have hlt' : i < ns.length := by
        have e := of_decide_eq_true hlt
        rw [List.length_map] at e
        omega
      refine ⟨_, rfl, _, rfl, a, _, _, .int ns[i], rfl, rfl, hS, atI_nat (by rw [List.getElem?_map, List.getElem?_eq_getElem hlt']; rfl), _, rfl, ?_⟩
      refine ⟨_, rfl, _, _, rfl, rfl, .inl ⟨by decide, by decide⟩, _, _, rfl, rfl, _, _, rfl, ?_⟩
      refine ⟨_, rfl, 63, rfl, a, _, rfl, hS, fun c nc => ?_⟩
      have nc0 : H c = none := nc
      refine ⟨c, C, rfl, SqL.of (by rw [upd_same, hC]), fun j m σ H3 => ∃ (y3 : Int) (y4 y5 : Option V), σ = [some (.ref a), some (.int i), some (.int (if ns[i] < 0 then -ns[i] else ns[i])), some (.int y3), y4, y5] ∧ j + m = C.length ∧ Same H H3 ∧ H3 c = some (.lst C),
        ⟨C.length, _, none, none, rfl, by omega, same_upd nc, by rw [upd_same, hC]⟩, fun j m σ H3 hW => ?_⟩
      obtain ⟨y3, y4, y5, rfl, ejm, sm, hc⟩ := hW
      by_cases hj : j < C.length
      · refine .inr ⟨⟨_, _, SqL.of hc, List.getElem?_eq_getElem hj⟩, fun σ' H' => ∃ (y3 : Int) (y4 y5 : Option V), σ' = [some (.ref a), some (.int i), some (.int (if ns[i] < 0 then -ns[i] else ns[i])), some (.int y3), y4, y5] ∧ Same H H' ∧ H' c = some (.lst C), fun σ' H' hN => ?_, fun x H' hy => ?_⟩
        · obtain ⟨z3, z4, z5, e, sm', hc'⟩ := hN
          exact ⟨m - 1, by omega, z3, z4, z5, e, by omega, sm', hc'⟩
        · obtain ⟨tp, x1, rfl, nT, rfl, f1⟩ := hy
          have g1 := f1 _ (SqL.of hc)
          obtain ⟨z, rfl⟩ := cut63 x1 (List.mem_of_getElem? g1)
          have hcT : (upd H3 tp (.tup [.int (j : Nat), .int z])) c = some (.lst C) := same_upd nT _ _ hc
          refine ⟨tp, _, rfl, SqT.of upd_same, rfl, _, _, rfl, _, _, rfl, rfl, ?_⟩
          refine ⟨_, rfl, _, _, rfl, rfl, .inr ⟨by decide, by decide⟩, _, rfl, .inl ⟨_, rfl, _, _, rfl, rfl, (by show (0 : Int) < 2147483629; decide), _, _, rfl, rfl, _, rfl, _, _, rfl, rfl, .inl ⟨by decide, by decide⟩, _, _, rfl, rfl, ?_⟩⟩
          refine .inl ⟨_, rfl, _, _, rfl, rfl, (by show (0 : Int) < 2147483647; decide), ?_⟩
          exact ⟨_, _, _, rfl, sm.trans (same_upd nT), hcT⟩
      · refine .inl ⟨⟨_, SqL.of hc, by omega⟩, ?_⟩
        refine ⟨_, rfl, _, _, rfl, rfl, ⟨by decide, by decide, by decide⟩, _, _, rfl, rfl, _, rfl, ?_⟩
        refine ite2 (fun _ => ?_) (fun _ => ?_)
        all_goals
          first
            | refine ⟨_, rfl, _, rfl, (by show 2 ≤ sizeLine; decide), fun p np => ?_⟩
            | refine ⟨_, rfl, (by show 2 ≤ sizeLine; decide), fun p np => ?_⟩
          exact q _ p (sm.trans (same_upd np)) (sm.free np) ⟨_, _, upd_same⟩
    · refine ⟨_, rfl, _, _, rfl, rfl, .inl ⟨by decide, by decide⟩, _, _, rfl, rfl, _, _, rfl, ?_⟩
      refine ⟨_, rfl, 63, rfl, a, _, rfl, hS, fun c nc => ?_⟩
      have nc0 : H c = none := nc
      refine ⟨c, C, rfl, SqL.of (by rw [upd_same, hC]), fun j m σ H3 => ∃ (y3 : Int) (y4 y5 : Option V), σ = [some (.ref a), some (.int i), some (.int 0), some (.int y3), y4, y5] ∧ j + m = C.length ∧ Same H H3 ∧ H3 c = some (.lst C),
        ⟨C.length, _, none, none, rfl, by omega, same_upd nc, by rw [upd_same, hC]⟩, fun j m σ H3 hW => ?_⟩
      obtain ⟨y3, y4, y5, rfl, ejm, sm, hc⟩ := hW
      by_cases hj : j < C.length
      · refine .inr ⟨⟨_, _, SqL.of hc, List.getElem?_eq_getElem hj⟩, fun σ' H' => ∃ (y3 : Int) (y4 y5 : Option V), σ' = [some (.ref a), some (.int i), some (.int 0), some (.int y3), y4, y5] ∧ Same H H' ∧ H' c = some (.lst C), fun σ' H' hN => ?_, fun x H' hy => ?_⟩
        · obtain ⟨z3, z4, z5, e, sm', hc'⟩ := hN
          exact ⟨m - 1, by omega, z3, z4, z5, e, by omega, sm', hc'⟩
        · obtain ⟨tp, x1, rfl, nT, rfl, f1⟩ := hy
          have g1 := f1 _ (SqL.of hc)
          obtain ⟨z, rfl⟩ := cut63 x1 (List.mem_of_getElem? g1)
          have hcT : (upd H3 tp (.tup [.int (j : Nat), .int z])) c = some (.lst C) := same_upd nT _ _ hc
          refine ⟨tp, _, rfl, SqT.of upd_same, rfl, _, _, rfl, _, _, rfl, rfl, ?_⟩
          refine ⟨_, rfl, _, _, rfl, rfl, .inr ⟨by decide, by decide⟩, _, rfl, .inl ⟨_, rfl, _, _, rfl, rfl, (by show (0 : Int) < 2147483629; decide), _, _, rfl, rfl, _, rfl, _, _, rfl, rfl, .inl ⟨by decide, by decide⟩, _, _, rfl, rfl, ?_⟩⟩
          refine .inl ⟨_, rfl, _, _, rfl, rfl, (by show (0 : Int) < 2147483647; decide), ?_⟩
          exact ⟨_, _, _, rfl, sm.trans (same_upd nT), hcT⟩
      · refine .inl ⟨⟨_, SqL.of hc, by omega⟩, ?_⟩
        refine ⟨_, rfl, _, _, rfl, rfl, ⟨by decide, by decide, by decide⟩, _, _, rfl, rfl, _, rfl, ?_⟩
        refine ite2 (fun _ => ?_) (fun _ => ?_)
        all_goals
          first
            | refine ⟨_, rfl, _, rfl, (by show 2 ≤ sizeLine; decide), fun p np => ?_⟩
            | refine ⟨_, rfl, (by show 2 ≤ sizeLine; decide), fun p np => ?_⟩
          exact q _ p (sm.trans (same_upd np)) (sm.free np) ⟨_, _, upd_same⟩
theorem scTake : FnScope ["_law_bag_here", "_law_many", "_law_digit"] ["_law_bag_here", "_law_many"] (defScope sTake) := ⟨rfl, rfl, rfl, by decide +kernel, rfl, by decide +kernel, by decide +kernel⟩
theorem ok_take {f : Addr} {fd : FuncData} {k : Nat} (F : Fun K "_law_take" "_law_take" sTake f fd) (T : Nb mg) : FnOk P w K mg base CX0 (k + 1) f fd ["_law_bag_here", "_law_many"] spTake := by
  refine F.ok scTake (fun vs H Q E h => ?_) (fun cdv A outer s H vs Q E hr h => ?_)
  · obtain ⟨p, m, rfl, _⟩ := h
    rfl
  · obtain ⟨p, m, rfl, ⟨x, y, hp⟩, hm, hm2, q⟩ := h
    refine ⟨_, pss_cons (ps_if (pt_cmpR op_gt (pe_ix ix_list (pv 0) pe_int (fun _ _ => rfl)) pe_int (nomark _))
        (pss_cons (ps_set (i := 2) scTake.nd rfl (.inl rfl) (pe_op op_mod (pe_callTy call_int1 (by rfl) T.int (by decide +kernel) (pa_cons (pe_ix ix_list (pv 0) pe_int (fun _ _ => rfl)) pa_nil)) (pv 1)))
        (pss_cons (ps_asg (pe_op op_fdiv (pe_ix ix_list (pv 0) pe_int (fun _ _ => rfl)) (pv 1)) (pg_sub (pv 0) pe_int set_list))
        (pss_one (ps_ret (pv 2))))) pss_nil)
      (pss_cons (ps_asg (pe_op op_mod (pe_callTy call_int1 (by rfl) T.int (by decide +kernel) (pa_cons (pe_op op_add (pe_op op_mul (pe_ix ix_list (pv 0) pe_int (fun _ _ => rfl)) pe_int) pe_int) pa_nil)) pe_int) (pg_sub (pv 0) pe_int set_list))
      (pss_one (ps_ret (pe_op op_mod (pe_op op_fdiv (pe_op op_mod (pe_callTy call_int1 (by rfl) T.int (by decide +kernel) (pa_cons (pe_op op_mul (pe_op op_fdiv (pe_ix ix_list (pv 0) pe_int (fun _ _ => rfl)) pe_int) pe_int) pa_nil)) pe_int) pe_int) (pv 1))))), ?_⟩
    have i0 : atI [V.int x, V.int y] 0 = some (.int x) := atI_nat (j := 0) rfl
    have i1 : atI [V.int x, V.int y] 1 = some (.int y) := atI_nat (j := 1) rfl
    refine ⟨_, rfl, p, _, 0, _, rfl, rfl, SqL.of hp, i0, _, _, rfl, rfl, _, rfl, ?_⟩
    refine ite2 (fun hx => ?_) (fun hx => ?_)
    · refine ⟨_, rfl, p, _, 0, _, rfl, rfl, SqL.of hp, i0, .inl ⟨_, rfl, _, rfl, _, _, rfl, rfl, hm, ?_⟩⟩
      refine ⟨_, rfl, p, _, 0, _, rfl, rfl, SqL.of hp, i0, _, rfl, _, _, rfl, rfl, ⟨hm, by omega⟩, ?_⟩
      refine ⟨_, rfl, p, _, 0, 0, rfl, rfl, hp, rfl, ?_⟩
      refine ⟨_, rfl, ?_⟩
      exact q _ _ _ (Int.emod_nonneg _ (by omega)) (Int.emod_lt_of_pos _ hm)
    · refine ⟨_, rfl, p, _, 1, _, rfl, rfl, SqL.of hp, i1, _, _, rfl, rfl, .inr ⟨by decide, by decide⟩, _, _, rfl, rfl, .inl ⟨_, rfl, _, _, rfl, rfl, (by show (0 : Int) < 2147483629; decide), ?_⟩⟩
      refine ⟨_, rfl, p, _, 1, 1, rfl, rfl, hp, rfl, ?_⟩
      refine ⟨_, rfl, p, _, 1, _, rfl, rfl, SqL.of upd_same, atI_nat (j := 1) rfl, _, _, rfl, rfl, ⟨by decide, by decide⟩, _, _, rfl, rfl, .inr ⟨by decide, by decide⟩, .inl ⟨_, rfl, _, _, rfl, rfl, (by show (0 : Int) < 2147483587; decide), ?_⟩⟩
      refine ⟨_, _, rfl, rfl, ⟨by decide, by decide⟩, _, rfl, _, _, rfl, rfl, hm, ?_⟩
      exact q _ _ _ (Int.emod_nonneg _ (by omega)) (Int.emod_lt_of_pos _ hm)
end
end TX
namespace TX
open PySem PySem.Spec PyProof.Rows L2
/-! ### values as data -/
def Lt (z : Str) : Prop := ∀ c ∈ z.cps.toList, 97 ≤ c ∧ c ≤ 122
mutual
def valD : PyData → Prop
  | .none => True
  | .str x => Lt x
  | .list xs => valAll xs
  | _ => False
def valAll : List PyData → Prop
  | [] => True
  | d :: ds => valD d ∧ valAll ds
end
mutual
def sz : PyData → Nat
  | .str x => x.length + 1
  | .list xs => szAll xs + 1
  | _ => 1
def szAll : List PyData → Nat
  | [] => 0
  | d :: ds => sz d + szAll ds
end
theorem szAll_append : ∀ (a b : List PyData), szAll (a ++ b) = szAll a + szAll b
  | [], b => by simp [szAll]
  | d :: a, b => by
    rw [List.cons_append, szAll, szAll, szAll_append a b]
    omega
theorem valAll_append : ∀ (a b : List PyData), valAll (a ++ b) ↔ valAll a ∧ valAll b
  | [], b => by simp [valAll]
  | d :: a, b => by
    rw [List.cons_append, valAll, valAll, valAll_append a b]
    exact ⟨fun ⟨x, y, z⟩ => ⟨⟨x, y⟩, z⟩, fun ⟨⟨x, y⟩, z⟩ => ⟨x, y, z⟩⟩
theorem depthAll_append : ∀ (a b : List PyData), PyData.depthAll (a ++ b) = max (PyData.depthAll a) (PyData.depthAll b)
  | [], b => by simp [PyData.depthAll]
  | d :: a, b => by
    rw [List.cons_append, PyData.depthAll, PyData.depthAll, depthAll_append a b]
    omega
theorem DpAll.get {K : PySem.W.Frag} {H : Hp} : ∀ {ds : List PyData} {vs : List V} {i : Nat} {v : V}, DpAll K H vs ds → vs[i]? = some v → ∃ d, ds[i]? = some d ∧ Dp K H v d
  | [], _, i, v, h, e => by
    cases h
    simp at e
  | d :: ds, _, 0, v, h, e => by
    cases h with
    | cons h1 h2 =>
      simp at e
      subst e
      exact ⟨d, rfl, h1⟩
  | d :: ds, _, i + 1, v, h, e => by
    cases h with
    | cons h1 h2 =>
      obtain ⟨d', e1, e2⟩ := DpAll.get (ds := ds) (i := i) h2 (by simpa using e)
      exact ⟨d', by simpa using e1, e2⟩
theorem val_get : ∀ {ds : List PyData} {i : Nat} {d : PyData}, valAll ds → ds[i]? = some d → valD d
  | [], i, d, h, e => by simp at e
  | x :: ds, 0, d, h, e => by
    simp at e
    subst e
    exact h.1
  | x :: ds, i + 1, d, h, e => val_get h.2 (by simpa using e)
theorem depth_get : ∀ {ds : List PyData} {i : Nat} {d : PyData}, ds[i]? = some d → d.depth ≤ PyData.depthAll ds
  | [], i, d, e => by simp at e
  | x :: ds, 0, d, e => by
    simp at e
    subst e
    simp only [PyData.depthAll]
    omega
  | x :: ds, i + 1, d, e => by
    have := depth_get (ds := ds) (i := i) (d := d) (by simpa using e)
    simp only [PyData.depthAll]
    omega
theorem sz_get : ∀ {ds : List PyData} {i : Nat} {d : PyData}, ds[i]? = some d → sz d ≤ szAll ds
  | [], i, d, e => by simp at e
  | x :: ds, 0, d, e => by
    simp at e
    subst e
    simp only [szAll]
    omega
  | x :: ds, i + 1, d, e => by
    have := sz_get (ds := ds) (i := i) (d := d) (by simpa using e)
    simp only [szAll]
    omega
theorem szAll_sum : ∀ ds : List PyData, ((ds.map fun d => ((sz d : Nat) : Int)).sum : Int) = ((szAll ds : Nat) : Int)
  | [] => rfl
  | d :: ds => by
    rw [List.map_cons, List.sum_cons, szAll_sum ds, szAll]
    omega
theorem szAll_len : ∀ ds : List PyData, ds.length ≤ szAll ds
  | [] => by simp
  | d :: ds => by
    have := szAll_len ds
    have h1 : 1 ≤ sz d := by cases d <;> simp [sz]
    rw [szAll, List.length_cons]
    omega
/-! ### isinstance against one built-in type -/
theorem kitL (d : PyData) (K : PySem.W.Frag) : PySem.W.kitOne K (.type (tyD d)) (.type "list") = some (tyD d == "list") := by
  cases d with
  | none => exact (kit_ty (a := "NoneType") (b := "list") (r := false) (by decide +kernel)).trans (by simp [tyD])
  | bool _ => exact (kit_ty (a := "bool") (b := "list") (r := false) (by decide +kernel)).trans (by simp [tyD])
  | int _ => exact (kit_ty (a := "int") (b := "list") (r := false) (by decide +kernel)).trans (by simp [tyD])
  | str _ => exact (kit_ty (a := "str") (b := "list") (r := false) (by decide +kernel)).trans (by simp [tyD])
  | list _ => exact (kit_ty (a := "list") (b := "list") (r := true) (by decide +kernel)).trans (by simp [tyD])
  | tuple _ => exact (kit_ty (a := "tuple") (b := "list") (r := false) (by decide +kernel)).trans (by simp [tyD])
  | dict _ => exact (kit_ty (a := "dict") (b := "list") (r := false) (by decide +kernel)).trans (by simp [tyD])
theorem kitS (d : PyData) (K : PySem.W.Frag) : PySem.W.kitOne K (.type (tyD d)) (.type "str") = some (tyD d == "str") := by
  cases d with
  | none => exact (kit_ty (a := "NoneType") (b := "str") (r := false) (by decide +kernel)).trans (by simp [tyD])
  | bool _ => exact (kit_ty (a := "bool") (b := "str") (r := false) (by decide +kernel)).trans (by simp [tyD])
  | int _ => exact (kit_ty (a := "int") (b := "str") (r := false) (by decide +kernel)).trans (by simp [tyD])
  | str _ => exact (kit_ty (a := "str") (b := "str") (r := true) (by decide +kernel)).trans (by simp [tyD])
  | list _ => exact (kit_ty (a := "list") (b := "str") (r := false) (by decide +kernel)).trans (by simp [tyD])
  | tuple _ => exact (kit_ty (a := "tuple") (b := "str") (r := false) (by decide +kernel)).trans (by simp [tyD])
  | dict _ => exact (kit_ty (a := "dict") (b := "str") (r := false) (by decide +kernel)).trans (by simp [tyD])
structure Nv (mg : Str → Option Value) : Prop where
  range : mg "range" = none
  sum : mg "sum" = none
  min : mg "min" = none
/-! ### _law_text -/
def spText : Sp := fun vs H Q _ => ∃ (p : Addr) (m : Int), vs = [.ref p, .int m] ∧ BagAt H p ∧ 0 ≤ m ∧ m ≤ 1000 ∧
  ∀ (H' : Hp) (z : Str), (∀ b o, b ≠ p → H b = some o → H' b = some o) → BagAt H' p → Lt z → (z.length : Int) ≤ m → Q (.str z) H'
theorem lt_append {a b : Str} (h : Lt a) (g : Lt b) : Lt (a ++ b) := by
  intro c hc
  have e : (a ++ b).cps.toList = a.cps.toList ++ b.cps.toList := by
    show (a.cps ++ b.cps).toList = _
    simp
  rw [e] at hc
  rcases List.mem_append.mp hc with x | x
  · exact h c x
  · exact g c x
section
variable {P : Program} {w : World} {K : PySem.W.Frag} {mg : Str → Option Value} {base : Heap}
/-! ### _law_size: one level more for each depth -/
def spSize (K : PySem.W.Frag) (N : Nat) : Sp := fun vs H Q _ => ∃ (v : V) (d : PyData) (Hv : Hp), vs = [v] ∧ Same Hv H ∧ Dp K Hv v d ∧ valD d ∧ d.depth ≤ N ∧ sz d ≤ 1000000 ∧ ∀ H', Same H H' → Q (.int (sz d : Nat)) H'
/-- what is no list: one, or one more than the letters -/
theorem val_leaf {K : PySem.W.Frag} {H : Hp} {v : V} {d : PyData} (h : Dp K H v d) (hv : valD d) (e : (tyD d == "list") = false) : (v = .non ∧ d = .none) ∨ ∃ x, v = .str x ∧ d = .str x := by
  cases h with
  | non => exact .inl ⟨rfl, rfl⟩
  | str x => exact .inr ⟨x, rfl, rfl⟩
  | bl _ => exact hv.elim
  | int _ => exact hv.elim
  | lst _ _ => simp [tyD] at e
  | tup _ _ => exact hv.elim
end
end TX
namespace TX
open PySem PySem.Spec PyProof.Rows L2
theorem eqT {n m : Int} {A B : Prop} (h : n = m) (a : A) : if decide (V.int n = V.int m) = true then A else B := by
  rw [h, decide_eq_true rfl]
  exact iteT a
theorem eqF {n m : Int} {A B : Prop} (h : n ≠ m) (b : B) : if decide (V.int n = V.int m) = true then A else B := by
  rw [decide_eq_false fun e => h (V.int.inj e)]
  exact iteF b
theorem ltT {n m : Int} {A B : Prop} (h : n < m) (a : A) : if decide (n < m) = true then A else B := by
  rw [decide_eq_true h]
  exact iteT a
theorem ltF {n m : Int} {A B : Prop} (h : ¬ n < m) (b : B) : if decide (n < m) = true then A else B := by
  rw [decide_eq_false h]
  exact iteF b
/-! ### _law_value -/
def spValue (K : PySem.W.Frag) (N : Nat) : Sp := fun vs H Q _ => ∃ (p : Addr) (deep room : Nat), vs = [.ref p, .int deep, .int room] ∧ BagAt H p ∧ deep ≤ N ∧ 1 ≤ room ∧ room ≤ 1000 ∧
  ∀ (H' : Hp) (v : V) (d : PyData), (∀ b o, b ≠ p → H b = some o → H' b = some o) → BagAt H' p → Dp K (newp H H') v d → valD d → d.depth ≤ deep → sz d ≤ room → Q v H'
theorem szAll_snoc (ds : List PyData) (d : PyData) : szAll (ds ++ [d]) = szAll ds + sz d := by
  rw [szAll_append]
  simp [szAll]
section
variable {P : Program} {w : World} {K : PySem.W.Frag} {mg : Str → Option Value} {base : Heap}
/-- what value calls -/
structure Vc (P : Program) (w : World) (K : PySem.W.Frag) (mg : Str → Option Value) (base : Heap) (fT fX fS : Addr) (dT dX dS : FuncData) : Prop where
  GT : FnOk P w K mg base CX0 1 fT dT ["_law_bag_here", "_law_many"] spTake
  bT : Binds K dT ["_law_bag_here", "_law_many"] []
  gT : mg "_law_take" = some (.ref fT)
  kT : PySem.W.keepIn K (.ref fT) = true
  GX : FnOk P w K mg base CX0 2 fX dX ["_law_bag_here", "_law_most"] spText
  bX : Binds K dX ["_law_bag_here", "_law_most"] []
  gX : mg "_law_text" = some (.ref fX)
  kX : PySem.W.keepIn K (.ref fX) = true
  GS : ∀ N : Nat, FnOk P w K mg base CX0 (N + 1) fS dS ["_law_value"] (spSize K N)
  bS : Binds K dS ["_law_value"] []
  gS : mg "_law_size" = some (.ref fS)
  kS : PySem.W.keepIn K (.ref fS) = true
theorem pe_ex {X : Cx} {i : Type} {e : Expr} {t : i → TE} (h : ∀ j, PE X e (t j)) : PE X e (fun σ H Q => ∃ j, t j σ H Q) := ⟨fun pins s σ H Q I ⟨j, q⟩ => (h j).run pins s σ H Q I q⟩
end
end TX
namespace TX
open PySem PySem.Spec PyProof.Rows L2
/-! ### a text, repeated -/
theorem mem_reps {P : Nat → Prop} {x : Array Nat} (hx : ∀ c ∈ x.toList, P c) : ∀ (k : Nat) (acc : Array Nat), (∀ c ∈ acc.toList, P c) → ∀ c ∈ ((List.replicate k x).foldl (· ++ ·) acc).toList, P c
  | 0, acc, h => by simpa using h
  | k + 1, acc, h => by
    rw [List.replicate_succ, List.foldl_cons]
    refine mem_reps hx k _ fun c hc => ?_
    rw [Array.toList_append] at hc
    exact (List.mem_append.mp hc).elim (h c) (hx c)
theorem size_rep : ∀ (x : Array Nat) (k : Nat) (acc : Array Nat), ((List.replicate k x).foldl (· ++ ·) acc).size = acc.size + k * x.size
  | x, 0, acc => by simp
  | x, k + 1, acc => by
    rw [List.replicate_succ, List.foldl_cons, size_rep x k, Array.size_append, Nat.succ_mul]
    omega
theorem mul_lt {x : Str} {n : Nat} (h : Lt x) : Lt (Txt.mul x (n : Int)) ∧ (Txt.mul x (n : Int)).length ≤ n * x.length + x.length := by
  unfold Txt.mul
  split
  · refine ⟨by unfold Lt; decide +kernel, ?_⟩
    have e : Str.empty.length = 0 := rfl
    omega
  · split
    · exact ⟨h, by omega⟩
    · refine ⟨mem_reps (P := fun c => 97 ≤ c ∧ c ≤ 122) h _ _ (by simp), ?_⟩
      have e := size_rep x.cps (n : Int).toNat #[]
      have e2 : (n : Int).toNat = n := by omega
      rw [e2] at e
      show ((List.replicate (n : Int).toNat x.cps).foldl (· ++ ·) #[]).size ≤ _
      rw [e2, e]
      have e3 : x.length = x.cps.size := rfl
      rw [e3]
      simp
section
variable {X : Cx}
def rMulS : R2 := fun x y H Q => ∃ (a : Str) (n : Nat), x = .str a ∧ y = .int n ∧ n ≤ 1000 ∧ a.length ≤ 1000 ∧ Q (.str (Txt.mul a (n : Int))) H
theorem op_mulS : OpR X (binaryOp .Mult) rMulS := by
  intro pins s σ H x y v u Q I rx ry h
  obtain ⟨a, n, rfl, rfl, hn, ha, q⟩ := h
  obtain ⟨t, rfl⟩ := rx
  obtain ⟨t', rfl⟩ := ry
  refine SB.mul ⟨?_, fun h1 _ => ?_, fun h1 _ => ?_⟩ fun t' k => ⟨.str _, H, I.tok k, ⟨t', rfl⟩, q⟩
  · rw [decide_eq_false (show ¬ ((n : Int) < -(2 ^ 63 : Int)) by omega), decide_eq_false (show ¬ ((n : Int) ≥ 2 ^ 63) by omega)]
    rfl
  · have h2 : (2 ^ 63 - 1 : Int) / 1000 ≤ (2 ^ 63 - 1) / (n : Int) := by
      refine Int.le_ediv_of_mul_le (by omega) ?_
      have e : (2 ^ 63 - 1 : Int) / 1000 = 9223372036854775 := by decide
      rw [e]
      have e2 : (9223372036854775 : Int) * (n : Int) ≤ 9223372036854775 * 1000 := Int.mul_le_mul_of_nonneg_left (by omega) (by omega)
      omega
    have e : (2 ^ 63 - 1 : Int) / 1000 = 9223372036854775 := by decide
    omega
  · have e : a.length * (n : Int).toNat ≤ 1000 * 1000 := Nat.mul_le_mul ha (by omega)
    show decide (a.length * (n : Int).toNat > sizeLine) = false
    exact decide_eq_false (by have : (1000 * 1000 : Nat) ≤ sizeLine := by decide
                              omega)
end
theorem lt_cut {z : Str} {lo hi : Option Int} (h : Lt z) : Lt (cutS z lo hi) := fun c hc => h c (List.mem_of_mem_drop (List.mem_of_mem_take (by simpa [cutS] using hc)))
theorem len_cut {z : Str} {t : Nat} : (cutS z none (some (t : Int))).length ≤ t := by
  unfold cutS
  show (List.toArray _).size ≤ t
  rw [List.size_toArray, List.length_take, HT.sIx_nat, HT.sIx_none]
  omega
theorem qfit {z : Str} (h : (z.length : Int) ≤ 5) : (("q" : Str)).length + z.length ≤ sizeLine := by
  have e : (("q" : Str)).length = 1 := by decide +kernel
  exact Nat.le_trans (show (("q" : Str)).length + z.length ≤ 6 by omega) (by decide)
/-! ### lists of data, cut and repeated -/
theorem DpAll.take {K : PySem.W.Frag} {H : Hp} : ∀ {ds : List PyData} {vs : List V} (n : Nat), DpAll K H vs ds → DpAll K H (vs.take n) (ds.take n)
  | [], _, n, h => by
    cases h
    simp
    exact .nil
  | d :: ds, _, 0, h => by
    simp
    exact .nil
  | d :: ds, _, n + 1, h => by
    cases h with
    | cons h1 h2 => exact .cons h1 (DpAll.take (ds := ds) n h2)
theorem DpAll.rep {K : PySem.W.Frag} {H : Hp} {ds : List PyData} {vs : List V} (h : DpAll K H vs ds) : ∀ n : Nat, DpAll K H (List.replicate n vs).flatten (List.replicate n ds).flatten
  | 0 => .nil
  | n + 1 => by
    rw [List.replicate_succ, List.replicate_succ, List.flatten_cons, List.flatten_cons]
    exact DpAll.append h (DpAll.rep h n)
theorem val_take : ∀ {ds : List PyData} (n : Nat), valAll ds → valAll (ds.take n)
  | [], n, h => by simpa using h
  | d :: ds, 0, h => trivial
  | d :: ds, n + 1, h => ⟨h.1, val_take n h.2⟩
theorem depth_take : ∀ {ds : List PyData} (n : Nat), PyData.depthAll (ds.take n) ≤ PyData.depthAll ds
  | [], n => by simp
  | d :: ds, 0 => by simp [PyData.depthAll]
  | d :: ds, n + 1 => by
    have := depth_take (ds := ds) n
    simp only [List.take_succ_cons, PyData.depthAll]
    omega
theorem val_rep {ds : List PyData} (h : valAll ds) : ∀ n : Nat, valAll (List.replicate n ds).flatten
  | 0 => trivial
  | n + 1 => by
    rw [List.replicate_succ, List.flatten_cons]
    exact (valAll_append _ _).mpr ⟨h, val_rep h n⟩
theorem depth_rep {ds : List PyData} : ∀ n : Nat, PyData.depthAll (List.replicate n ds).flatten ≤ PyData.depthAll ds
  | 0 => by simp [PyData.depthAll]
  | n + 1 => by
    have := depth_rep (ds := ds) n
    rw [List.replicate_succ, List.flatten_cons, depthAll_append]
    omega
/-- each of the data is at most that great -/
def EachLe (c : Nat) (ds : List PyData) : Prop := ∀ d ∈ ds, sz d ≤ c
theorem each_nil {c : Nat} : EachLe c [] := fun d hd => nomatch hd
theorem each_sum {c : Nat} : ∀ {ds : List PyData}, EachLe c ds → szAll ds ≤ c * ds.length
  | [], _ => by simp [szAll]
  | d :: ds, h => by
    have h1 := h d List.mem_cons_self
    have h2 := each_sum (ds := ds) fun e he => h e (List.mem_cons_of_mem _ he)
    rw [szAll, List.length_cons, Nat.mul_succ]
    omega
/-! ### what is new stays new -/
theorem newp_mono {H H2 H3 : Hp} {p : Addr} (pH : H p ≠ none) (k : ∀ b o, b ≠ p → H2 b = some o → H3 b = some o) : Same (newp H H2) (newp H H3) := fun b o e => by
  cases h : H b with
  | some u =>
    rw [newp_old h] at e
    cases e
  | none =>
    rw [newp_at h] at e ⊢
    exact k b o (fun z => pH (z ▸ h)) e
theorem newp_sub {H H2 H3 : Hp} (k : ∀ b, H b ≠ none → H2 b ≠ none) : Same (newp H2 H3) (newp H H3) := fun b o e => by
  cases h2 : H2 b with
  | some u =>
    rw [newp_old h2] at e
    cases e
  | none =>
    rw [newp_at h2] at e
    have h : H b = none := Classical.byContradiction fun z => k b z h2
    rw [newp_at h]
    exact e
/-- the entries of H are still there -/
theorem there {H H2 : Hp} {p : Addr} (k : ∀ b o, b ≠ p → H b = some o → H2 b = some o) (b2 : BagAt H2 p) : ∀ b, H b ≠ none → H2 b ≠ none := fun b hb => by
  cases e : H b with
  | none => exact absurd e hb
  | some o =>
    by_cases eb : b = p
    · rw [eb]
      obtain ⟨x, y, e2⟩ := b2
      rw [e2]
      exact fun z => nomatch z
    · rw [k b o eb e]
      exact fun z => nomatch z
theorem bag_in {H : Hp} {p : Addr} (b : BagAt H p) : H p ≠ none := by
  obtain ⟨x, y, e⟩ := b
  rw [e]
  exact fun z => nomatch z
theorem bag_same {H H' : Hp} {p : Addr} (b : BagAt H p) (s : Same H H') : BagAt H' p := let ⟨x, y, e⟩ := b; ⟨x, y, s _ _ e⟩
/-- a list of data at m, the bag at p: one more made behind -/
theorem grow {K : PySem.W.Frag} {H H2 H3 : Hp} {p m : Addr} {ws : List V} {ds : List PyData} {v : V} {d : PyData} (pH : H p ≠ none) (nmH : H m = none) (k2 : ∀ b o, b ≠ p → H b = some o → H2 b = some o) (b2 : BagAt H2 p) (hm2 : H2 m = some (.lst ws))
    (hws : DpAll K (newB H m H2) ws ds) (k3 : ∀ b o, b ≠ p → H2 b = some o → H3 b = some o) (b3 : BagAt H3 p) (hv : Dp K (newp H2 H3) v d) :
    (∀ b o, b ≠ p → H b = some o → (upd H3 m (.lst (ws ++ [v]))) b = some o) ∧ BagAt (upd H3 m (.lst (ws ++ [v]))) p ∧ H3 m = some (.lst ws) ∧ DpAll K (newB H m (upd H3 m (.lst (ws ++ [v])))) (ws ++ [v]) (ds ++ [d]) := by
  have mp : m ≠ p := fun e => pH (e ▸ nmH)
  have all2 := there k2 b2
  have old : Same (newB H m H2) (newB H m (upd H3 m (.lst (ws ++ [v])))) := fun b o e => by
    by_cases bm : b = m
    · unfold newB at e
      rw [if_pos bm] at e
      cases e
    · cases hh : H b with
      | some u =>
        unfold newB at e
        rw [if_neg bm, hh] at e
        cases e
      | none =>
        have bp : b ≠ p := fun z => pH (z ▸ hh)
        rw [newB_at hh bm] at e ⊢
        rw [upd_ne bm]
        exact k3 b o bp e
  have new : Same (newp H2 H3) (newB H m (upd H3 m (.lst (ws ++ [v])))) := fun b o e => by
    cases h2 : H2 b with
    | some u =>
      rw [newp_old h2] at e
      cases e
    | none =>
      rw [newp_at h2] at e
      have hh : H b = none := Classical.byContradiction fun z => all2 b z h2
      have bm : b ≠ m := fun z => by
        rw [z, hm2] at h2
        cases h2
      rw [newB_at hh bm, upd_ne bm]
      exact e
  refine ⟨fun b o hb e => ?_, ?_, k3 m _ mp hm2, DpAll.append (dpAll_same old _ _ hws) (.cons (dp_same new _ _ hv) .nil)⟩
  · rw [upd_ne (ne_of_none e nmH)]
    exact k3 b o hb (k2 b o hb e)
  · obtain ⟨x, y, e⟩ := b3
    exact ⟨x, y, by rw [upd_ne mp.symm]; exact e⟩
section
variable {P : Program} {w : World} {K : PySem.W.Frag} {mg : Str → Option Value} {base : Heap}
/-! ### _law_great -/
end
end TX
namespace TX
open PySem PySem.Spec PyProof.Rows L2
/-! ### what can be shown -/
mutual
def okD : PyData → Prop
  | .int i => i.natAbs.log2 < 1920
  | .str x => ∀ c ∈ x.cps.toList, c < 16 ^ 8
  | .list es => okAll es
  | .tuple es => okAll es
  | .dict _ => False
  | _ => True
def okAll : List PyData → Prop
  | [] => True
  | d :: ds => okD d ∧ okAll ds
end
theorem okAll_append : ∀ (a b : List PyData), okAll (a ++ b) ↔ okAll a ∧ okAll b
  | [], b => by simp [okAll]
  | d :: a, b => by
    have := okAll_append a b
    simp only [List.cons_append, okAll, this, and_assoc]
mutual
theorem okD_shown : ∀ d : PyData, okD d → d.showable = true ∧ d.hasDict = false ∧ d.leavesShort 1921 = true
  | .none, _ => ⟨rfl, rfl, rfl⟩
  | .bool _, _ => ⟨rfl, rfl, rfl⟩
  | .int i, h => by
    have l1 : i.natAbs.log2 < 1920 := h
    refine ⟨by simp only [PyData.showable, decide_eq_true l1], rfl, ?_⟩
    simp only [PyData.leavesShort, decide_eq_true_eq]
    simp only [PyData.shown]
    exact int_text_len_1921 l1
  | .str x, h => by
    refine ⟨rfl, rfl, ?_⟩
    simp only [PyData.leavesShort, List.all_eq_true, decide_eq_true_eq]
    exact h
  | .list es, h => by
    obtain ⟨h1, h2, h3⟩ := okAll_shown es h
    exact ⟨by simpa [PyData.showable] using h1, by simpa [PyData.hasDict] using h2, by simpa [PyData.leavesShort] using h3⟩
  | .tuple es, h => by
    obtain ⟨h1, h2, h3⟩ := okAll_shown es h
    exact ⟨by simpa [PyData.showable] using h1, by simpa [PyData.hasDict] using h2, by simpa [PyData.leavesShort] using h3⟩
  | .dict _, h => h.elim
theorem okAll_shown : ∀ ds : List PyData, okAll ds → PyData.showableAll ds = true ∧ PyData.hasDictAll ds = false ∧ PyData.leavesShortAll 1921 ds = true
  | [], _ => ⟨rfl, rfl, rfl⟩
  | d :: ds, h => by
    obtain ⟨a1, a2, a3⟩ := okD_shown d h.1
    obtain ⟨b1, b2, b3⟩ := okAll_shown ds h.2
    exact ⟨by simp [PyData.showableAll, a1, b1], by simp [PyData.hasDictAll, a2, b2], by simp [PyData.leavesShortAll, a3, b3]⟩
end
mutual
theorem val_okD : ∀ d : PyData, valD d → okD d
  | .none, _ => trivial
  | .str x, h => fun c hc => Nat.lt_of_le_of_lt (h c hc).2 (by decide)
  | .list es, h => val_okAll es h
  | .bool _, h => h.elim
  | .int _, h => h.elim
  | .tuple _, h => h.elim
  | .dict _, h => h.elim
theorem val_okAll : ∀ ds : List PyData, valAll ds → okAll ds
  | [], _ => trivial
  | d :: ds, h => ⟨val_okD d h.1, val_okAll ds h.2⟩
end
mutual
theorem val_bulk : ∀ d : PyData, valD d → d.bulk + 1 ≤ sz d
  | .none, _ => by simp [PyData.bulk, sz]
  | .str x, h => by
    have e : x.length = x.cps.size := rfl
    simp only [PyData.bulk, sz]
    omega
  | .list es, h => by
    have := val_bulkAll es h
    simp only [PyData.bulk, sz]
    omega
  | .bool _, h => h.elim
  | .int _, h => h.elim
  | .tuple _, h => h.elim
  | .dict _, h => h.elim
theorem val_bulkAll : ∀ ds : List PyData, valAll ds → PyData.bulkAll ds ≤ szAll ds
  | [], _ => by simp [PyData.bulkAll]
  | d :: ds, h => by
    have a := val_bulk d h.1
    have b := val_bulkAll ds h.2
    simp only [PyData.bulkAll, szAll]
    omega
end
theorem ok_fit {d : PyData} (h : okD d) (hb : d.bulk ≤ 8000) : d.shown.length ≤ sizeLine := by
  obtain ⟨_, _, h3⟩ := okD_shown d h
  have e1 := PyData.shown_le_bulk 1921 (by decide) d h3
  have e2 : (1921 + 2) * d.bulk ≤ 1923 * 8000 := Nat.mul_le_mul_left _ hb
  exact Nat.le_trans e1 (Nat.le_trans (Nat.add_le_add_right e2 _) (by decide))
/-- what `repr` asks of data -/
structure Sh (d : PyData) : Prop where
  s : d.showable = true
  n : d.hasDict = false
  z : d.depth ≤ 60
  l : d.shown.length ≤ sizeLine
theorem sh_of {d : PyData} (h : okD d) (hb : d.bulk ≤ 8000) (hz : d.depth ≤ 60) : Sh d := ⟨(okD_shown d h).1, (okD_shown d h).2.1, hz, ok_fit h hb⟩
theorem log_small {i : Int} (h : i.natAbs ≤ 1000000) : i.natAbs.log2 < 1920 := by
  by_cases z : i.natAbs = 0
  · rw [z]
    decide
  · exact Nat.lt_trans ((Nat.log2_lt z).mpr (Nat.lt_of_le_of_lt h (by decide : 1000000 < 2 ^ 20))) (by decide)
theorem sh_val {d : PyData} (h : valD d) (hs : sz d ≤ 3000) (hd : d.depth ≤ 50) : Sh d := sh_of (val_okD d h) (by have := val_bulk d h; omega) (by omega)
theorem sh_bool (b : Bool) : Sh (.bool b) := sh_of trivial (by simp [PyData.bulk]) (by simp [PyData.depth])
mutual
theorem nd_sz : ∀ d : PyData, valD d → nd d ≤ sz d
  | .none, _ => by simp [nd, sz]
  | .str x, _ => by simp [nd, sz]
  | .list es, h => by
    have := ndAll_sz es h
    simp only [nd, sz]
    omega
  | .bool _, h => h.elim
  | .int _, h => h.elim
  | .tuple _, h => h.elim
  | .dict _, h => h.elim
theorem ndAll_sz : ∀ ds : List PyData, valAll ds → ndAll ds ≤ szAll ds
  | [], _ => by simp [ndAll]
  | d :: ds, h => by
    have a := nd_sz d h.1
    have b := ndAll_sz ds h.2
    simp only [ndAll, szAll]
    omega
end
end TX
namespace TX
open PySem PySem.Spec PyProof.Rows L2
/-! ### data whose lists stand each at a place of its own: S, all of them -/
mutual
inductive Tr (H : Hp) : V → PyData → List Addr → Prop
  | non : Tr H .non .none []
  | bl (b : Bool) : Tr H (.bl b) (.bool b) []
  | int (i : Int) : Tr H (.int i) (.int i) []
  | str (x : Str) : Tr H (.str x) (.str x) []
  | lst {a : Addr} {xs : List V} {es : List PyData} {S : List Addr} : H a = some (.lst xs) → TrAll H xs es S → a ∉ S → Tr H (.ref a) (.list es) (a :: S)
  | tup {a : Addr} {xs : List V} {es : List PyData} {S : List Addr} : H a = some (.tup xs) → TrAll H xs es S → a ∉ S → Tr H (.ref a) (.tuple es) (a :: S)
inductive TrAll (H : Hp) : List V → List PyData → List Addr → Prop
  | nil : TrAll H [] [] []
  | cons {v : V} {d : PyData} {S : List Addr} {vs : List V} {ds : List PyData} {T : List Addr} : Tr H v d S → TrAll H vs ds T → (∀ b ∈ S, b ∉ T) → TrAll H (v :: vs) (d :: ds) (S ++ T)
end
theorem TrAll.length {H : Hp} : ∀ {ds : List PyData} {vs : List V} {S : List Addr}, TrAll H vs ds S → vs.length = ds.length
  | [], _, _, h => by cases h; rfl
  | _ :: _, _, _, h => by
    cases h with
    | cons _ h2 _ => exact congrArg (· + 1) (TrAll.length h2)
mutual
theorem Tr.frame {H H' : Hp} : ∀ {d : PyData} {v : V} {S : List Addr}, Tr H v d S → (∀ b ∈ S, ∀ o, H b = some o → H' b = some o) → Tr H' v d S
  | .none, _, _, h, _ => by cases h; exact .non
  | .bool b, _, _, h, _ => by cases h; exact .bl b
  | .int i, _, _, h, _ => by cases h; exact .int i
  | .str x, _, _, h, _ => by cases h; exact .str x
  | .list es, _, _, h, k => by
    cases h with
    | lst h1 h2 h3 => exact .lst (k _ List.mem_cons_self _ h1) (TrAll.frame h2 fun b hb => k b (List.mem_cons_of_mem _ hb)) h3
  | .tuple es, _, _, h, k => by
    cases h with
    | tup h1 h2 h3 => exact .tup (k _ List.mem_cons_self _ h1) (TrAll.frame h2 fun b hb => k b (List.mem_cons_of_mem _ hb)) h3
  | .dict _, _, _, h, _ => nomatch h
theorem TrAll.frame {H H' : Hp} : ∀ {ds : List PyData} {vs : List V} {S : List Addr}, TrAll H vs ds S → (∀ b ∈ S, ∀ o, H b = some o → H' b = some o) → TrAll H' vs ds S
  | [], _, _, h, _ => by cases h; exact .nil
  | d :: ds, _, _, h, k => by
    cases h with
    | cons h1 h2 h3 => exact .cons (Tr.frame h1 fun b hb => k b (List.mem_append_left _ hb)) (TrAll.frame h2 fun b hb => k b (List.mem_append_right _ hb)) h3
end
mutual
theorem Tr.dp {K : PySem.W.Frag} {H : Hp} : ∀ {d : PyData} {v : V} {S : List Addr}, Tr H v d S → Dp K H v d
  | .none, _, _, h => by cases h; exact .non
  | .bool b, _, _, h => by cases h; exact .bl b
  | .int i, _, _, h => by cases h; exact .int i
  | .str x, _, _, h => by cases h; exact .str x
  | .list es, _, _, h => by
    cases h with
    | lst h1 h2 h3 => exact .lst (SqL.of h1) (TrAll.dp h2)
  | .tuple es, _, _, h => by
    cases h with
    | tup h1 h2 h3 => exact .tup (SqT.of h1) (TrAll.dp h2)
  | .dict _, _, _, h => nomatch h
theorem TrAll.dp {K : PySem.W.Frag} {H : Hp} : ∀ {ds : List PyData} {vs : List V} {S : List Addr}, TrAll H vs ds S → DpAll K H vs ds
  | [], _, _, h => by cases h; exact .nil
  | d :: ds, _, _, h => by
    cases h with
    | cons h1 h2 h3 => exact .cons (Tr.dp h1) (TrAll.dp h2)
end
mutual
theorem Tr.there {H : Hp} : ∀ {d : PyData} {v : V} {S : List Addr}, Tr H v d S → ∀ b ∈ S, H b ≠ none
  | .none, _, _, h => by cases h; exact fun b hb => nomatch hb
  | .bool b, _, _, h => by cases h; exact fun b hb => nomatch hb
  | .int i, _, _, h => by cases h; exact fun b hb => nomatch hb
  | .str x, _, _, h => by cases h; exact fun b hb => nomatch hb
  | .list es, _, _, h => by
    cases h with
    | lst h1 h2 h3 =>
      intro b hb
      rcases List.mem_cons.mp hb with e | e
      · rw [e, h1]
        exact fun z => nomatch z
      · exact TrAll.there h2 b e
  | .tuple es, _, _, h => by
    cases h with
    | tup h1 h2 h3 =>
      intro b hb
      rcases List.mem_cons.mp hb with e | e
      · rw [e, h1]
        exact fun z => nomatch z
      · exact TrAll.there h2 b e
  | .dict _, _, _, h => nomatch h
theorem TrAll.there {H : Hp} : ∀ {ds : List PyData} {vs : List V} {S : List Addr}, TrAll H vs ds S → ∀ b ∈ S, H b ≠ none
  | [], _, _, h => by cases h; exact fun b hb => nomatch hb
  | d :: ds, _, _, h => by
    cases h with
    | cons h1 h2 h3 =>
      intro b hb
      rcases List.mem_append.mp hb with e | e
      · exact Tr.there h1 b e
      · exact TrAll.there h2 b e
end
theorem TrAll.split {H : Hp} : ∀ {ds es : List PyData} {vs : List V} {S : List Addr}, TrAll H vs (ds ++ es) S → ∃ a b A B, vs = a ++ b ∧ S = A ++ B ∧ TrAll H a ds A ∧ TrAll H b es B ∧ ∀ x ∈ A, x ∉ B
  | [], _, vs, S, h => ⟨[], vs, [], S, rfl, rfl, .nil, h, fun _ z => nomatch z⟩
  | d :: ds, es, _, _, h => by
    cases h with
    | @cons v _ S1 _ _ T h1 h2 h3 =>
      obtain ⟨a, b, A, B, rfl, rfl, ha, hb, hd⟩ := TrAll.split (ds := ds) (es := es) h2
      refine ⟨v :: a, b, S1 ++ A, B, rfl, (List.append_assoc ..).symm, .cons h1 ha (fun x hx hA => h3 x hx (List.mem_append_left _ hA)), hb, fun x hx hB => ?_⟩
      rcases List.mem_append.mp hx with e | e
      · exact h3 x e (List.mem_append_right _ hB)
      · exact hd x e hB
theorem tr_leaf {K : PySem.W.Frag} {H H' : Hp} {v : V} {d : PyData} (h : Dp K H v d) (e : (tyD d == "list" || tyD d == "tuple") = false) : Tr H' v d [] := by
  cases h with
  | non => exact .non
  | bl b => exact .bl b
  | int i => exact .int i
  | str x => exact .str x
  | lst _ _ => simp [tyD] at e
  | tup _ _ => simp [tyD] at e
def spCopyT (K : PySem.W.Frag) : Sp := fun vs H Q _ => ∃ (v : V) (d : PyData) (Hv : Hp), vs = [v] ∧ Same Hv H ∧ Dp K Hv v d ∧ nd d ≤ 1000000 ∧
  ∀ (H' : Hp) (v' : V) (S : List Addr), Same H H' → Tr H' v' d S → (∀ b ∈ S, H b = none) → Q v' H'
section
variable {P : Program} {w : World} {K : PySem.W.Frag} {mg : Str → Option Value} {base : Heap}
theorem ok_copyT {f fP : Addr} {fd fdP : FuncData} {k : Nat} (F : Fun K "copy_of" "copy_of" sCopy f fd) (T : Nm mg) (FP : Fun K "all_parts" "all_parts" sParts fP fdP) (bP : Binds K fdP ["thing"] []) (gP : mg "all_parts" = some (.ref fP)) :
    FnOk P w K mg base CX0 (k + 2) f fd ["thing"] (spCopyT K) := by
  have GP : FnOk P w K mg base CX0 (k + 1) fP fdP ["thing"] (spParts K) := ok_parts FP T
  refine F.ok scCopy (fun vs H Q E h => ?_) (fun cdv A outer s H vs Q E hr h => ?_)
  · obtain ⟨v, d, Hv, rfl, _⟩ := h
    rfl
  · obtain ⟨v, d, Hv, rfl, sv, hd, hn, q⟩ := h
    refine ⟨_, pss_cons (ps_if (pt_not (pt_val (pe_callB call_isiT (by rfl) T.isi (by decide +kernel) (pa_cons (pv 0) (pa_cons (pe_tup (pa_cons (pe_bltn (v := .ty "list") (by rfl) T.lst (by decide +kernel) rfl) (pa_cons (pe_bltn (v := .ty "tuple") (by rfl) T.tpl (by decide +kernel) rfl) pa_nil))) pa_nil))))) (pss_one (ps_ret (pv 0))) pss_nil) <| pss_cons (ps_set (i := 1) scCopy.nd rfl (.inr rfl) (pe_lst pa_nil))
      (pss_cons (ps_for PassesOwn.never rfl (pi_list (pe_revL (pe_call GP hr (by rfl) gP FP.kp bP .nil pass0 (pa_cons (pv 0) pa_nil)))) (pg_name (i := 2) scCopy.nd rfl (.inl rfl))
        (pss_cons (ps_set (i := 3) scCopy.nd rfl (.inl rfl) (pv 2))
        (pss_cons (ps_if (pt_val (pe_callB call_isiT (by rfl) T.isi (by decide +kernel) (pa_cons (pv 2) (pa_cons (pe_tup (pa_cons (pe_bltn (v := .ty "list") (by rfl) T.lst (by decide +kernel) rfl) (pa_cons (pe_bltn (v := .ty "tuple") (by rfl) T.tpl (by decide +kernel) rfl) pa_nil))) pa_nil))))
          (pss_one (ps_alt
            (ps_setLc (i := 3) (own := [("_", 4)]) (g := gName 4) (tt := tYes) (te := tBM0 K "list" rPop (tVar 1)) rfl scCopy.nd rfl rfl (sw_true rfl rfl rfl (by decide +kernel)) (pi_list (pv 2)) (blkOk_by (N := ["thing", "done", "part", "made", "_"]) (sc := defScope sCopy) (by decide +kernel))
              (fun _ _ _ _ _ => pg_name (i := 4) scCopy.nd rfl (Or.inl rfl)) (fun _ _ _ _ _ => pts_nil) (fun _ _ _ _ _ => pe_bm0 PySem.F.plainAttrs_list PySem.F.slot_list_pop PySem.F.type_list_pop mt_pop (pv 1)))
            (ps_setLc (i := 3) (own := [("_", 4)]) (g := gName 4) (tt := tYes) (te := tBM0 K "list" rPop (tVar 1)) rfl scCopy.nd rfl rfl (sw_true rfl rfl rfl (by decide +kernel)) (pi_tup (pv 2)) (blkOk_by (N := ["thing", "done", "part", "made", "_"]) (sc := defScope sCopy) (by decide +kernel))
              (fun _ _ _ _ _ => pg_name (i := 4) scCopy.nd rfl (Or.inl rfl)) (fun _ _ _ _ _ => pts_nil) (fun _ _ _ _ _ => pe_bm0 PySem.F.plainAttrs_list PySem.F.slot_list_pop PySem.F.type_list_pop mt_pop (pv 1)))))
          pss_nil)
        (pss_cons (ps_if (pt_val (pe_callB call_isi (by rfl) T.isi (by decide +kernel) (pa_cons (pv 2) (pa_cons (pe_bltn (v := .ty "tuple") (by rfl) T.tpl (by decide +kernel) rfl) pa_nil))))
          (pss_one (ps_set (i := 3) scCopy.nd rfl (.inl rfl) (pe_callTy call_tuple_of (by rfl) T.tpl (by decide +kernel) (pa_cons (pv 3) pa_nil))))
          pss_nil)
        (pss_one (ps_expr (pe_bm PySem.F.plainAttrs_list PySem.F.slot_list_append PySem.F.type_list_append mt_append (pv 1) (pa_cons (pv 3) pa_nil))))))))
      (pss_one (ps_ret (pe_ix ix_list (pv 1) pe_int (fun _ _ => rfl))))), ?_⟩
    refine ⟨_, rfl, by decide, fun tp0 ntp0 => ?_⟩
    refine ⟨v, tp0, _, .type (tyD d), [.type "list", .type "tuple"], _, rfl, upd_same, .cons (.ty _) (.cons (.ty _) .nil), dp_ty (dp_same (sv.trans (same_upd ntp0)) _ _ hd), isLT d K, _, rfl, ?_⟩
    have q2 : ∀ (H' : Hp) (v' : V) (S : List Addr), Same (upd H tp0 (.tup [.ty "list", .ty "tuple"])) H' → Tr H' v' d S → (∀ b ∈ S, (upd H tp0 (.tup [.ty "list", .ty "tuple"])) b = none) → Q v' H' := fun H' v' S e1 e2 e3 => q H' v' S ((same_upd ntp0).trans e1) e2 (fun b hb => (same_upd ntp0).free (e3 b hb))
    have sv2 : Same Hv (upd H tp0 (.tup [.ty "list", .ty "tuple"])) := sv.trans (same_upd ntp0)
    cases hlt : (tyD d == "list" || tyD d == "tuple") with
    | false =>
      exact iteT ⟨_, rfl, q2 _ _ [] (fun _ _ e => e) (tr_leaf hd hlt) (fun _ z => nomatch z)⟩
    | true =>
    refine iteF ?_
    generalize upd H tp0 (.tup [.ty "list", .ty "tuple"]) = H at sv2 q2
    clear q sv ntp0 tp0
    have sv := sv2
    have q := q2
    refine ⟨by decide, fun da nda => ?_⟩
    -- all_parts(thing)[::-1]
    refine ⟨_, rfl, v, d, Hv, rfl, sv.trans (same_upd nda), hd, hn, fun H1 p rs sm1 np hp hP hlen => ?_⟩
    have hda1 : H1 da = some (.lst []) := sm1 _ _ upd_same
    refine ⟨p, _, rfl, SqL.of hp, fun r nr => ?_⟩
    rw [List.reverse_reverse]
    have rda : da ≠ r := ne_of_none hda1 nr
    have s0 : Same H (upd H1 r (.lst rs)) := ((same_upd nda).trans sm1).trans (same_upd nr)
    have hr0 : H r = none := ((same_upd nda).trans sm1).free nr
    have nda0 : H da = none := nda
    refine ⟨r, rfl, ⟨_, SqL.of upd_same⟩, for_list (K := K) (a := r) (xs := rs) (fun i σ H2 => ∃ (S : List V × List PyData) (cs : List V) (y2 y3 : Option V), σ = [some v, some (.ref da), y2, y3, none] ∧ Same H H2 ∧ H2 r = some (.lst rs) ∧
      Path K Hv ([v], [d]) (rs.drop i) S ∧ H2 da = some (.lst cs.reverse) ∧ ∃ A, TrAll H2 cs S.2 A ∧ ∀ b ∈ A, H b = none ∧ b ≠ da) ?_ ?_ ?_ ?_⟩
    · exact ⟨([], []), [], none, none, rfl, s0, upd_same, hP, by rw [upd_ne rda]; exact hda1, [], .nil, fun b hb => nomatch hb⟩
    · rintro i σ H2 hi ⟨S, cs, y2, y3, rfl, _, g, _⟩
      exact SqL.of g
    · rintro i x σ H2 hx ⟨S, cs, y2, y3, rfl, sm, hrs, hPi, hda, Ar, hcs, hAr⟩
      have edrop : rs.drop i = x :: rs.drop (i + 1) := by
        obtain ⟨hj, e⟩ := List.getElem?_eq_some_iff.mp hx
        rw [List.drop_eq_getElem_cons hj, e]
      rw [edrop] at hPi
      cases hPi with
      | @cons _ S1 _ _ hP1 hst =>
      have cnt := path_count (.cons hP1 hst)
      have cnt0 : ndAll ([d] : List PyData) = nd d := by simp [ndAll]
      have lcs : cs.length ≤ 1000000 := by
        have e1 := TrAll.length hcs
        have e2 := ndAll_len S.2
        have e3 : ndAll (([v], [d]) : List V × List PyData).2 = nd d := cnt0
        omega
      -- the part's data
      obtain ⟨dx, hdx⟩ : ∃ dx, Dp K Hv x dx ∧ ((∃ r1 rd1, S1 = (x :: r1, dx :: rd1) ∧ S = (r1, rd1) ∧ (tyD dx == "list" || tyD dx == "tuple") = false) ∨
          (∃ a xs es r1 rd1, x = .ref a ∧ dx = .list es ∧ SqL K Hv a xs ∧ DpAll K Hv xs es ∧ S1 = (x :: r1, .list es :: rd1) ∧ S = (xs ++ r1, es ++ rd1)) ∨
          (∃ a xs es r1 rd1, x = .ref a ∧ dx = .tuple es ∧ SqT K Hv a xs ∧ DpAll K Hv xs es ∧ S1 = (x :: r1, .tuple es :: rd1) ∧ S = (xs ++ r1, es ++ rd1))) := by
        cases hst with
        | leaf h e => exact ⟨_, h, .inl ⟨_, _, rfl, rfl, e⟩⟩
        | lst h g => exact ⟨_, .lst h g, .inr (.inl ⟨_, _, _, _, _, rfl, rfl, h, g, rfl, rfl⟩)⟩
        | tup h g => exact ⟨_, .tup h g, .inr (.inr ⟨_, _, _, _, _, rfl, rfl, h, g, rfl, rfl⟩)⟩
      obtain ⟨hx1, hcase⟩ := hdx
      -- made = part; isinstance(part, (list, tuple))
      refine ⟨_, rfl, _, rfl, by decide, fun tp ntp => ?_⟩
      have sm3 : Same H (upd H2 tp (.tup [.ty "list", .ty "tuple"])) := sm.trans (same_upd ntp)
      have hda3 : (upd H2 tp (.tup [.ty "list", .ty "tuple"])) da = some (.lst cs.reverse) := same_upd ntp _ _ hda
      have hrs3 : (upd H2 tp (.tup [.ty "list", .ty "tuple"])) r = some (.lst rs) := same_upd ntp _ _ hrs
      have hcs3 : TrAll (upd H2 tp (.tup [.ty "list", .ty "tuple"])) cs S.2 Ar := TrAll.frame hcs fun b _ o e => same_upd ntp b o e
      refine ⟨x, tp, _, .type (tyD dx), [.type "list", .type "tuple"], _, rfl, upd_same, .cons (.ty _) (.cons (.ty _) .nil), dp_ty (dp_same (sv.trans sm3) _ _ hx1), isLT dx K, _, rfl, ?_⟩
      generalize upd H2 tp (.tup [.ty "list", .ty "tuple"]) = G at sm3 hda3 hrs3 hcs3
      rcases hcase with ⟨r1, rd1, rfl, rfl, e⟩ | ⟨a, xs, es, r1, rd1, rfl, rfl, g1, g2, rfl, rfl⟩ | ⟨a, xs, es, r1, rd1, rfl, rfl, g1, g2, rfl, rfl⟩
      · rw [e]
        refine iteF ?_
        have e2 : (tyD dx == "tuple") = false := (Bool.or_eq_false_iff.mp e).2
        refine ⟨_, rfl, x, .ty "tuple", .type (tyD dx), .type "tuple", _, rfl, .ty _, dp_ty (dp_leaf hx1 e), kit1 dx K, _, rfl, ?_⟩
        rw [e2]
        refine iteF ?_
        refine ⟨_, rfl, .inl ⟨rfl, _, SqL.of hda3⟩, _, rfl, da, _, _, rfl, rfl, hda3, Nat.lt_of_le_of_lt (by simpa using lcs) (by decide), ?_⟩
        refine ⟨_, x :: cs, _, _, rfl, same_fresh nda0 sm3, by rw [upd_ne rda.symm]; exact hrs3, hP1, ?_, ?_⟩
        · rw [upd_same]
          simp
        · exact ⟨[] ++ Ar, .cons (tr_leaf hx1 e) (TrAll.frame hcs3 fun b hb o e => by rw [upd_ne (hAr b hb).2]; exact e) (fun b hb => nomatch hb), hAr⟩
      · obtain ⟨c1, c2, A1, A2, rfl, rfl, hc1, hc2, dis⟩ := TrAll.split hcs3
        have hxl : xs.length = c1.length := (DpAll.length g2).trans (TrAll.length hc1).symm
        refine iteT (.inl ?_)
        refine ⟨_, rfl, a, rfl, ⟨_, (sv.trans sm3).seq g1⟩, fun D nD => lc_list (K := K) (a := a) (xs := xs) (fun j H4 => H4 da = some (.lst (c2.reverse ++ (c1.drop j).reverse)) ∧ H4 D = some (.lst (c1.take j)) ∧ ∀ b o, b ≠ da → b ≠ D → G b = some o → H4 b = some o) ?_ ?_ ?_ ?_⟩
        · have ne : da ≠ D := ne_of_none hda3 nD
          refine ⟨?_, upd_same, fun b o _ hb e => by rw [upd_ne hb]; exact e⟩
          rw [upd_ne ne, hda3]
          simp
        · rintro j H4 hj ⟨_, _, kp⟩
          have nDH : H D = none := sm3.free nD
          exact Same.seq (fun b o e => kp b o (ne_of_none e nda0) (ne_of_none e nDH) (sm3 b o e)) (sv.seq g1)
        · rintro j y H4 hy ⟨k1, k2, kp⟩
          have ne : da ≠ D := ne_of_none hda3 nD
          have hjl : j < c1.length := by
            have := (List.getElem?_eq_some_iff.mp hy).1
            omega
          have hcj : c1[j]? = some c1[j] := List.getElem?_eq_getElem hjl
          rw [rev_drop hcj, ← List.append_assoc] at k1
          refine ⟨rfl, .ref da, rfl, .inl ⟨rfl, _, SqL.of k1⟩, da, _, c1[j], rfl, rfl, k1, by simp, ?_⟩
          rw [List.dropLast_concat]
          refine ⟨c1.take j, by rw [upd_ne ne.symm]; exact k2, ?_, ?_, ?_, fun b o h1 h2 e => ?_⟩
          · refine Nat.lt_of_le_of_lt (show (c1.take j).length ≤ 1000000 from ?_) (by decide)
            rw [List.length_append] at lcs
            have := List.length_take_le j c1
            omega
          · rw [upd_ne ne, upd_same]
          · rw [upd_same, List.take_add_one, hcj]
            rfl
          · rw [upd_ne h2, upd_ne h1]
            exact kp b o h1 h2 e
        · rintro H4 ⟨k1, k2, kp⟩
          have ne : da ≠ D := ne_of_none hda3 nD
          have nDH : H D = none := sm3.free nD
          have sm4 : Same H H4 := fun b o e => kp b o (ne_of_none e nda0) (ne_of_none e nDH) (sm3 b o e)
          have rD : r ≠ D := ne_of_none hrs3 nD
          have hr4 : H4 r = some (.lst rs) := kp r _ rda.symm rD hrs3
          rw [hxl] at k1 k2
          rw [List.drop_length, List.reverse_nil, List.append_nil] at k1
          rw [List.take_length] at k2
          have at4 : ∀ b ∈ A1 ++ A2, ∀ o, G b = some o → H4 b = some o := fun b hb o e => kp b o (hAr b hb).2 (ne_of_none e nD) e
          have hd4 : TrAll H4 c1 es A1 := TrAll.frame hc1 fun b hb o e => at4 b (List.mem_append_left _ hb) o e
          have hd5 : TrAll H4 c2 rd1 A2 := TrAll.frame hc2 fun b hb o e => at4 b (List.mem_append_right _ hb) o e
          have nD1 : D ∉ A1 := fun hb => TrAll.there hc1 D hb nD
          have nD2 : D ∉ A2 := fun hb => TrAll.there hc2 D hb nD
          have hc1l : c1.length ≤ 1000000 ∧ c2.length ≤ 1000000 := by
            rw [List.length_append] at lcs
            omega
          refine ⟨_, rfl, .ref a, .ty "tuple", .type "list", .type "tuple", _, rfl, .ty _, dp_ty (d := .list es) (.lst (Same.seq sm4 (sv.seq g1)) (dpAll_same (sv.trans sm4) _ _ g2)), kit1 (.list es) K, _, rfl, ?_⟩
          refine iteF ?_
          refine ⟨_, rfl, .inl ⟨rfl, _, SqL.of k1⟩, _, rfl, da, _, _, rfl, rfl, k1, Nat.lt_of_le_of_lt (by simpa using hc1l.2) (by decide), ?_⟩
          refine ⟨_, .ref D :: c2, _, _, rfl, same_fresh nda0 sm4, by rw [upd_ne rda.symm]; exact hr4, hP1, ?_, ?_⟩
          · rw [upd_same]
            simp
          · refine ⟨(D :: A1) ++ A2, .cons (.lst (by rw [upd_ne ne.symm]; exact k2) (TrAll.frame hd4 fun b hb o e => by rw [upd_ne (hAr b (List.mem_append_left _ hb)).2]; exact e) nD1) (TrAll.frame hd5 fun b hb o e => by rw [upd_ne (hAr b (List.mem_append_right _ hb)).2]; exact e) fun b hb h2 => ?_, fun b hb => ?_⟩
            · rcases List.mem_cons.mp hb with z | z
              · exact nD2 (z ▸ h2)
              · exact dis b z h2
            · rcases List.mem_append.mp hb with z | z
              · rcases List.mem_cons.mp z with y | y
                · exact y ▸ ⟨nDH, ne.symm⟩
                · exact hAr b (List.mem_append_left _ y)
              · exact hAr b (List.mem_append_right _ z)
      · obtain ⟨c1, c2, A1, A2, rfl, rfl, hc1, hc2, dis⟩ := TrAll.split hcs3
        have hxl : xs.length = c1.length := (DpAll.length g2).trans (TrAll.length hc1).symm
        refine iteT (.inr ?_)
        refine ⟨_, rfl, a, rfl, ⟨_, same_sqt (sv.trans sm3) g1⟩, fun D nD => lc_tup (K := K) (a := a) (xs := xs) (fun j H4 => H4 da = some (.lst (c2.reverse ++ (c1.drop j).reverse)) ∧ H4 D = some (.lst (c1.take j)) ∧ ∀ b o, b ≠ da → b ≠ D → G b = some o → H4 b = some o) ?_ ?_ ?_ ?_⟩
        · have ne : da ≠ D := ne_of_none hda3 nD
          refine ⟨?_, upd_same, fun b o _ hb e => by rw [upd_ne hb]; exact e⟩
          rw [upd_ne ne, hda3]
          simp
        · rintro j H4 hj ⟨_, _, kp⟩
          have nDH : H D = none := sm3.free nD
          exact same_sqt (fun b o e => kp b o (ne_of_none e nda0) (ne_of_none e nDH) (sm3 b o e)) (same_sqt sv g1)
        · rintro j y H4 hy ⟨k1, k2, kp⟩
          have ne : da ≠ D := ne_of_none hda3 nD
          have hjl : j < c1.length := by
            have := (List.getElem?_eq_some_iff.mp hy).1
            omega
          have hcj : c1[j]? = some c1[j] := List.getElem?_eq_getElem hjl
          rw [rev_drop hcj, ← List.append_assoc] at k1
          refine ⟨rfl, .ref da, rfl, .inl ⟨rfl, _, SqL.of k1⟩, da, _, c1[j], rfl, rfl, k1, by simp, ?_⟩
          rw [List.dropLast_concat]
          refine ⟨c1.take j, by rw [upd_ne ne.symm]; exact k2, ?_, ?_, ?_, fun b o h1 h2 e => ?_⟩
          · refine Nat.lt_of_le_of_lt (show (c1.take j).length ≤ 1000000 from ?_) (by decide)
            rw [List.length_append] at lcs
            have := List.length_take_le j c1
            omega
          · rw [upd_ne ne, upd_same]
          · rw [upd_same, List.take_add_one, hcj]
            rfl
          · rw [upd_ne h2, upd_ne h1]
            exact kp b o h1 h2 e
        · rintro H4 ⟨k1, k2, kp⟩
          have ne : da ≠ D := ne_of_none hda3 nD
          have nDH : H D = none := sm3.free nD
          have sm4 : Same H H4 := fun b o e => kp b o (ne_of_none e nda0) (ne_of_none e nDH) (sm3 b o e)
          have rD : r ≠ D := ne_of_none hrs3 nD
          have hr4 : H4 r = some (.lst rs) := kp r _ rda.symm rD hrs3
          rw [hxl] at k1 k2
          rw [List.drop_length, List.reverse_nil, List.append_nil] at k1
          rw [List.take_length] at k2
          have at4 : ∀ b ∈ A1 ++ A2, ∀ o, G b = some o → H4 b = some o := fun b hb o e => kp b o (hAr b hb).2 (ne_of_none e nD) e
          have hd4 : TrAll H4 c1 es A1 := TrAll.frame hc1 fun b hb o e => at4 b (List.mem_append_left _ hb) o e
          have hd5 : TrAll H4 c2 rd1 A2 := TrAll.frame hc2 fun b hb o e => at4 b (List.mem_append_right _ hb) o e
          have nD1 : D ∉ A1 := fun hb => TrAll.there hc1 D hb nD
          have nD2 : D ∉ A2 := fun hb => TrAll.there hc2 D hb nD
          have hc1l : c1.length ≤ 1000000 ∧ c2.length ≤ 1000000 := by
            rw [List.length_append] at lcs
            omega
          refine ⟨_, rfl, .ref a, .ty "tuple", .type "tuple", .type "tuple", _, rfl, .ty _, dp_ty (d := .tuple es) (.tup (same_sqt sm4 (same_sqt sv g1)) (dpAll_same (sv.trans sm4) _ _ g2)), kit1 (.tuple es) K, _, rfl, ?_⟩
          refine iteT ?_
          -- made = tuple(made)
          refine ⟨_, rfl, D, c1, rfl, .inl ⟨SqL.of k2, fun tq ntq => ?_⟩⟩
          have nq : H tq = none := sm4.free ntq
          have dq : da ≠ tq := ne_of_none k1 ntq
          have rq : r ≠ tq := ne_of_none hr4 ntq
          have k5 : (upd H4 tq (.tup c1)) da = some (.lst c2.reverse) := by
            rw [upd_ne dq]
            exact k1
          refine ⟨_, rfl, .inl ⟨rfl, _, SqL.of k5⟩, _, rfl, da, _, _, rfl, rfl, k5, Nat.lt_of_le_of_lt (by simpa using hc1l.2) (by decide), ?_⟩
          refine ⟨_, .ref tq :: c2, _, _, rfl, same_fresh nda0 (sm4.trans (same_upd ntq)), by rw [upd_ne rda.symm, upd_ne rq]; exact hr4, hP1, ?_, ?_⟩
          · rw [upd_same]
            simp
          · have nq1 : tq ∉ A1 := fun hb => TrAll.there hd4 tq hb ntq
            have nq2 : tq ∉ A2 := fun hb => TrAll.there hd5 tq hb ntq
            have up : ∀ b ∈ A1 ++ A2, ∀ o, H4 b = some o → (upd (upd H4 tq (.tup c1)) da (.lst (c2.reverse ++ [.ref tq]))) b = some o := fun b hb o e => by
              rw [upd_ne (hAr b hb).2, upd_ne (ne_of_none e ntq)]
              exact e
            refine ⟨(tq :: A1) ++ A2, .cons (.tup (by rw [upd_ne dq.symm, upd_same]) (TrAll.frame hd4 fun b hb o e => up b (List.mem_append_left _ hb) o e) nq1) (TrAll.frame hd5 fun b hb o e => up b (List.mem_append_right _ hb) o e) fun b hb h2 => ?_, fun b hb => ?_⟩
            · rcases List.mem_cons.mp hb with z | z
              · exact nq2 (z ▸ h2)
              · exact dis b z h2
            · rcases List.mem_append.mp hb with z | z
              · rcases List.mem_cons.mp z with y | y
                · exact y ▸ ⟨nq, dq.symm⟩
                · exact hAr b (List.mem_append_left _ y)
              · exact hAr b (List.mem_append_right _ z)
    · rintro σ H2 ⟨S, cs, y2, y3, rfl, sm, hrs, hPi, hda, Ar, hcs, hAr⟩
      rw [List.drop_length] at hPi
      cases hPi
      cases hcs with
      | @cons c1 d1 A0 vs0 ds0 T0 h1 h2 hdis =>
        cases h2
        refine ⟨_, rfl, da, [c1], 0, c1, rfl, rfl, SqL.of hda, atI_nat (j := 0) rfl, ?_⟩
        exact q H2 c1 A0 sm h1 fun b hb => (hAr b (List.mem_append_left _ hb)).1
end
end TX
namespace TX
open PySem PySem.Spec PyProof.Rows L2
structure Nk (mg : Str → Option Value) : Prop where
  str : mg "str" = none
/-! ### texts -/
def alphaS : Str := "abcdefghijklmnopqrstuvwxyz"
def ltC (c : Nat) : Bool := decide (97 ≤ c ∧ c ≤ 122)
def ltB (x : Str) : Bool := x.cps.toList.all ltC
def isT : PyData → Bool
  | .str x => ltB x
  | _ => false
theorem alpha_has (c : Nat) : alphaS.cps.contains c = ltC c := by
  have e : alphaS.cps.toList = (List.range 26).map (· + 97) := by decide +kernel
  have e2 : alphaS.cps.contains c = alphaS.cps.toList.contains c := by simp
  rw [e2, e]
  unfold ltC
  by_cases h : 97 ≤ c ∧ c ≤ 122
  · rw [decide_eq_true h, List.contains_iff_mem, List.mem_map]
    exact ⟨c - 97, List.mem_range.mpr (by omega), by omega⟩
  · rw [decide_eq_false h]
    refine Bool.eq_false_iff.mpr fun z => h ?_
    obtain ⟨y, hy, rfl⟩ := List.mem_map.mp (List.contains_iff_mem.mp z)
    have := List.mem_range.mp hy
    omega
theorem tw_all {p : Nat → Bool} : ∀ l : List Nat, l.all p = true → l.takeWhile p = l
  | [], _ => rfl
  | c :: r, h => by
    rw [List.all_cons, Bool.and_eq_true] at h
    rw [List.takeWhile_cons, if_pos h.1, tw_all r h.2]
theorem tw_lt {p : Nat → Bool} : ∀ l : List Nat, l.all p = false → (l.takeWhile p).length < l.length ∧ (l.drop (l.takeWhile p).length).all p = false
  | [], h => by simp at h
  | c :: r, h => by
    by_cases hc : p c = true
    · have hr : r.all p = false := by simpa [hc] using h
      obtain ⟨h1, h2⟩ := tw_lt r hr
      rw [List.takeWhile_cons, if_pos hc]
      exact ⟨by simpa using h1, by simpa using h2⟩
    · rw [List.takeWhile_cons, if_neg hc]
      exact ⟨by simp, h⟩
theorem strip_len (x : Str) : ((Txt.stripChars x alphaS).length == 0) = ltB x := by
  have fn : alphaS.cps.contains = ltC := funext alpha_has
  unfold Txt.stripChars Txt.stripBy
  rw [fn]
  have xl : x.length = x.cps.toList.length := by simp [Str.length]
  by_cases h : ltB x = true
  · rw [h]
    have h1 : x.cps.toList.takeWhile ltC = x.cps.toList := tw_all _ h
    have lo : stripLo ltC true x = x.length := by
      unfold stripLo
      rw [if_pos rfl, h1, xl]
    have hi : stripHi ltC true x x.length = x.length := by
      unfold stripHi
      rw [if_pos rfl, xl, List.drop_length]
      simp
    by_cases h0 : stripSame ltC true true x = true
    · rw [if_pos h0]
      unfold stripSame at h0
      rw [lo] at h0
      rw [Bool.and_eq_true] at h0
      exact h0.1
    · rw [if_neg h0]
      unfold stripped
      rw [lo, hi, size_strSub _ _ _ (Nat.le_refl _)]
      simp
  · have h' : ltB x = false := by simpa using h
    rw [h']
    obtain ⟨l1, l2⟩ := tw_lt x.cps.toList h'
    have lo : stripLo ltC true x < x.length := by
      unfold stripLo
      rw [if_pos rfl, xl]
      exact l1
    have el : stripLo ltC true x = (x.cps.toList.takeWhile ltC).length := by
      unfold stripLo
      rw [if_pos rfl]
    have hi : stripLo ltC true x < stripHi ltC true x (stripLo ltC true x) ∧ stripHi ltC true x (stripLo ltC true x) ≤ x.length := by
      unfold stripHi
      rw [if_pos rfl]
      have r1 : (x.cps.toList.drop (stripLo ltC true x)).reverse.all ltC = false := by
        rw [List.all_reverse, el]
        exact l2
      have r2 := (tw_lt _ r1).1
      rw [List.length_reverse, List.length_drop, ← xl] at r2
      omega
    by_cases h0 : stripSame ltC true true x = true
    · rw [if_pos h0]
      refine beq_eq_false_iff_ne.mpr ?_
      omega
    · rw [if_neg h0]
      unfold stripped
      rw [size_strSub _ _ _ hi.2]
      refine beq_eq_false_iff_ne.mpr ?_
      omega
theorem fits_any (x : Str) : (Txt.stripChars x alphaS).length ≤ x.length := by
  unfold Txt.stripChars Txt.stripBy
  by_cases h : stripSame alphaS.cps.contains true true x = true
  · rw [if_pos h]
    exact Nat.le_refl _
  · rw [if_neg h]
    exact le_strSub _ _ _
def spIsText (K : PySem.W.Frag) : Sp := fun vs H Q _ => ∃ (v : V) (d : PyData) (Hv : Hp), vs = [v] ∧ Same Hv H ∧ Dp K Hv v d ∧ sz d ≤ 100000 ∧ Q (.bl (isT d)) H
section
variable {P : Program} {w : World} {K : PySem.W.Frag} {mg : Str → Option Value} {base : Heap}
theorem scIsText : FnScope ["thing"] ["thing"] (defScope s_is_text) := ⟨rfl, rfl, rfl, by decide +kernel, rfl, by decide +kernel, by decide +kernel⟩
theorem ok_isText {f : Addr} {fd : FuncData} {tA : Tok} (F : Fun K "is_text" "is_text" s_is_text f fd) (T : Nm mg) (k : Nk mg) (gA : mg "ALPHABET" = some (.str alphaS tA)) : FnOk P w K mg base CX0 1 f fd ["thing"] (spIsText K) := by
  refine F.ok scIsText (fun vs H Q E h => ?_) (fun cdv A outer s H vs Q E hr h => ?_)
  · obtain ⟨v, d, Hv, rfl, _⟩ := h
    rfl
  · obtain ⟨v, d, Hv, rfl, sv, hd, hz, q⟩ := h
    refine ⟨_, pss_one (ps_ret (pe_and (pe_callB call_isi (by rfl) T.isi (by decide +kernel) (pa_cons (pv 0) (pa_cons (pe_bltn (v := .ty "str") (by rfl) k.str (by decide +kernel) rfl) pa_nil)))
      (pe_one (pe_notT (pe_bm PySem.F.plainAttrs_str PySem.F.slot_str_strip PySem.F.type_str_strip mt_stripChars (pv 0) (pa_cons (pe_glob (v := .str alphaS) (by rfl) gA ⟨_, rfl⟩) pa_nil)))))), ?_⟩
    have ty := dp_ty (dp_same sv _ _ hd)
    have is : ∀ b, (tyD d == "str") = b → PySem.W.kitOne K (.type (tyD d)) (.type "str") = some b := fun b e => e ▸ kitS d K
    refine ⟨_, rfl, v, .ty "str", _, .type "str", (tyD d == "str"), rfl, .ty _, ty, is _ rfl, _, rfl, ?_⟩
    have no : (tyD d == "str") = false → isT d = false := by
      intro e
      cases d with
      | str x => simp [tyD] at e
      | _ => rfl
    by_cases e : (tyD d == "str") = true
    · rw [e]
      refine iteT ?_
      cases hd with
      | str x =>
        have hx : x.length ≤ 100000 := by
          simp only [sz] at hz
          omega
        have hs := strip_len x
        refine ⟨_, rfl, rfl, x, alphaS, rfl, rfl, Nat.le_trans hx (by decide), ltB x |>.not, ⟨?_, ?_⟩, ?_⟩
        · exact Nat.le_trans (fits_any x) (Nat.le_trans hx (by decide))
        · rw [← hs]
          cases e2 : (Txt.stripChars x alphaS).length == 0 with
          | true =>
            have := eq_of_beq e2
            rw [this]
            rfl
          | false =>
            have h0 := beq_eq_false_iff_ne.mp e2
            exact (bne_iff_ne.mpr (by omega)).symm
        · show Q (.bl (!(!ltB x))) H
          rw [Bool.not_not]
          exact q
      | _ => simp [tyD] at e
    · have e' : (tyD d == "str") = false := by simpa using e
      rw [e']
      rw [no e'] at q
      exact iteF q
end
end TX
namespace TX
open PySem PySem.Spec PyProof.Rows L2
/-! ### the bits of an int of any sign -/
def ibit (x : Int) (k : Nat) : Bool := decide (x / 2 ^ k % 2 = 1)
theorem ibit_nat (n k : Nat) : ibit (n : Int) k = n.testBit k := by
  unfold ibit
  rw [Nat.testBit_eq_decide_div_mod_eq]
  have e : ((n : Int) / 2 ^ k % 2) = ((n / 2 ^ k % 2 : Nat) : Int) := by
    push_cast
    rfl
  rw [e]
  congr 1
  apply propext
  omega
theorem ibit_not (x : Int) (k : Nat) : ibit (-x - 1) k = !ibit x k := by
  have hp : (0 : Int) < 2 ^ k := Int.pow_pos (by decide)
  have e : (-x - 1) / 2 ^ k = -(x / 2 ^ k) - 1 := by
    have h1 := Int.mul_ediv_add_emod x (2 ^ k)
    have h2 := Int.emod_nonneg x (Int.ne_of_gt hp)
    have h3 := Int.emod_lt_of_pos x hp
    generalize x / 2 ^ k = q at *
    generalize x % 2 ^ k = r at *
    generalize (2 : Int) ^ k = p at *
    have e2 : -x - 1 = p * (-q - 1) + (p - 1 - r) := by
      rw [← h1, Int.mul_sub, Int.mul_neg]
      omega
    rw [e2, Int.add_comm, Int.add_mul_ediv_left _ _ (Int.ne_of_gt hp), Int.ediv_eq_zero_of_lt (by omega) (by omega)]
    omega
  unfold ibit
  rw [e]
  by_cases h : x / 2 ^ k % 2 = 1
  · rw [decide_eq_true h, decide_eq_false (by omega)]
    rfl
  · rw [decide_eq_false h, decide_eq_true (by omega)]
    rfl
theorem bitNot_is (x : Int) : Builtin.bitNot x = -x - 1 := by
  unfold Builtin.bitNot
  omega
theorem ibit_bnot (x : Int) (k : Nat) : ibit (Builtin.bitNot x) k = !ibit x k := by
  rw [bitNot_is, ibit_not]
theorem nat_less : ∀ (k a b : Nat), (a - (a &&& b)).testBit k = (a.testBit k && !b.testBit k)
  | 0, a, b => by
    have e : (a &&& b) % 2 = (a % 2) * (b % 2) := by
      have h := Nat.testBit_and a b 0
      simp only [Nat.testBit_zero] at h
      have h1 := Nat.mod_two_eq_zero_or_one a
      have h2 := Nat.mod_two_eq_zero_or_one b
      have h3 := Nat.mod_two_eq_zero_or_one (a &&& b)
      rcases h1 with h1 | h1 <;> rcases h2 with h2 | h2 <;> rcases h3 with h3 | h3 <;> simp [h1, h2, h3] at h ⊢
    have le : a &&& b ≤ a := Nat.and_le_left
    simp only [Nat.testBit_zero]
    have h1 := Nat.mod_two_eq_zero_or_one a
    have h2 := Nat.mod_two_eq_zero_or_one b
    rcases h1 with h1 | h1 <;> rcases h2 with h2 | h2 <;> rw [h1, h2] at e <;> simp only [h1, h2] <;> simp <;> omega
  | k + 1, a, b => by
    have le : a &&& b ≤ a := Nat.and_le_left
    have e2 : (a &&& b) / 2 = (a / 2) &&& (b / 2) := by
      apply Nat.eq_of_testBit_eq
      intro i
      rw [Nat.testBit_div_two, Nat.testBit_and, Nat.testBit_and, Nat.testBit_div_two, Nat.testBit_div_two]
    have e : (a &&& b) % 2 ≤ a % 2 := by
      have h := Nat.testBit_and a b 0
      simp only [Nat.testBit_zero] at h
      have h1 := Nat.mod_two_eq_zero_or_one a
      have h3 := Nat.mod_two_eq_zero_or_one (a &&& b)
      rcases h1 with h1 | h1 <;> rcases h3 with h3 | h3 <;> simp [h1, h3] at h ⊢
    have e3 : (a - (a &&& b)) / 2 = a / 2 - (a &&& b) / 2 := by omega
    rw [Nat.testBit_succ, e3, e2, nat_less k (a / 2) (b / 2), ← Nat.testBit_succ, ← Nat.testBit_succ]
theorem ibit_pos {x : Int} (h : 0 ≤ x) (k : Nat) : ibit x k = x.toNat.testBit k := by
  obtain ⟨n, rfl⟩ := Int.eq_ofNat_of_zero_le h
  exact ibit_nat n k
theorem ibit_neg {x : Int} (h : ¬ 0 ≤ x) (k : Nat) : ibit x k = !(Builtin.bitNot x).toNat.testBit k := by
  have e : 0 ≤ Builtin.bitNot x := by
    rw [bitNot_is]
    omega
  rw [← ibit_pos e, ibit_bnot, Bool.not_not]
theorem ibit_and (x y : Int) (k : Nat) : ibit (Builtin.bitAnd x y) k = (ibit x k && ibit y k) := by
  unfold Builtin.bitAnd
  by_cases hx : 0 ≤ x <;> by_cases hy : 0 ≤ y
  · rw [decide_eq_true hx, decide_eq_true hy]
    show ibit ((x.toNat &&& y.toNat : Nat) : Int) k = _
    rw [ibit_nat, Nat.testBit_and, ibit_pos hx, ibit_pos hy]
  · rw [decide_eq_true hx, decide_eq_false hy]
    show ibit (x - ((x.toNat &&& (Builtin.bitNot y).toNat : Nat) : Int)) k = _
    have le : x.toNat &&& (Builtin.bitNot y).toNat ≤ x.toNat := Nat.and_le_left
    have e : x - ((x.toNat &&& (Builtin.bitNot y).toNat : Nat) : Int) = ((x.toNat - (x.toNat &&& (Builtin.bitNot y).toNat) : Nat) : Int) := by omega
    rw [e, ibit_nat, nat_less, ibit_pos hx, ibit_neg hy]
  · rw [decide_eq_false hx, decide_eq_true hy]
    show ibit (y - ((y.toNat &&& (Builtin.bitNot x).toNat : Nat) : Int)) k = _
    have le : y.toNat &&& (Builtin.bitNot x).toNat ≤ y.toNat := Nat.and_le_left
    have e : y - ((y.toNat &&& (Builtin.bitNot x).toNat : Nat) : Int) = ((y.toNat - (y.toNat &&& (Builtin.bitNot x).toNat) : Nat) : Int) := by omega
    rw [e, ibit_nat, nat_less, ibit_pos hy, ibit_neg hx, Bool.and_comm]
  · rw [decide_eq_false hx, decide_eq_false hy]
    show ibit (Builtin.bitNot (((Builtin.bitNot x).toNat ||| (Builtin.bitNot y).toNat : Nat) : Int)) k = _
    rw [ibit_bnot, ibit_nat, Nat.testBit_or, ibit_neg hx, ibit_neg hy, Bool.not_or]
theorem ibit_or (x y : Int) (k : Nat) : ibit (Builtin.bitOr x y) k = (ibit x k || ibit y k) := by
  unfold Builtin.bitOr
  rw [ibit_bnot, ibit_and, ibit_bnot, ibit_bnot]
  cases ibit x k <;> cases ibit y k <;> rfl
theorem or_nat (a b : Nat) : Builtin.bitOr (a : Int) (b : Int) = ((a ||| b : Nat) : Int) := by
  have e1 : ¬ (0 : Int) ≤ Builtin.bitNot (a : Int) := by
    rw [bitNot_is]
    omega
  have e2 : ¬ (0 : Int) ≤ Builtin.bitNot (b : Int) := by
    rw [bitNot_is]
    omega
  unfold Builtin.bitOr Builtin.bitAnd
  rw [decide_eq_false e1, decide_eq_false e2]
  show Builtin.bitNot (Builtin.bitNot (((Builtin.bitNot (Builtin.bitNot (a : Int))).toNat ||| (Builtin.bitNot (Builtin.bitNot (b : Int))).toNat : Nat) : Int)) = _
  simp only [bitNot_is]
  have f1 : (-(-(a : Int) - 1) - 1).toNat = a := by omega
  have f2 : (-(-(b : Int) - 1) - 1).toNat = b := by omega
  rw [f1, f2]
  omega
theorem and_nat (a b : Nat) : Builtin.bitAnd (a : Int) (b : Int) = ((a &&& b : Nat) : Int) := by
  unfold Builtin.bitAnd
  rw [decide_eq_true (Int.natCast_nonneg a), decide_eq_true (Int.natCast_nonneg b)]
  rfl
theorem ibit_xor (a b : Nat) (k : Nat) : ibit (Builtin.bitXor (a : Int) (b : Int)) k = (ibit (a : Int) k ^^ ibit (b : Int) k) := by
  unfold Builtin.bitXor
  rw [or_nat, and_nat]
  have ec : (a ||| b) &&& (a &&& b) = a &&& b := by
    apply Nat.eq_of_testBit_eq
    intro i
    simp only [Nat.testBit_and, Nat.testBit_or]
    cases a.testBit i <;> cases b.testBit i <;> rfl
  have h := nat_less k (a ||| b) (a &&& b)
  rw [ec] at h
  have le : a &&& b ≤ a ||| b := by
    rw [← ec]
    exact Nat.and_le_left
  have e : ((a ||| b : Nat) : Int) - ((a &&& b : Nat) : Int) = ((a ||| b) - (a &&& b) : Nat) := by omega
  rw [e, ibit_nat, ibit_nat, ibit_nat, h, Nat.testBit_and, Nat.testBit_or]
  cases a.testBit k <;> cases b.testBit k <;> rfl
theorem ibit_shl (m k : Nat) : ibit ((1 : Int) * 2 ^ m) k = decide (m = k) := by
  have e : ((1 : Int) * 2 ^ m) = ((2 ^ m : Nat) : Int) := by
    rw [Int.one_mul]
    push_cast
    rfl
  rw [e, ibit_nat, Nat.testBit_two_pow]
/-- (x >> k) & 1 -/
theorem bit_of (x : Int) (k : Nat) : Builtin.bitAnd (x / 2 ^ k) 1 = if ibit x k then 1 else 0 := by
  rw [bitAnd_m1]
  unfold ibit
  by_cases h : x / 2 ^ k % 2 = 1
  · rw [decide_eq_true h, h]
    rfl
  · rw [decide_eq_false h]
    show _ = (0 : Int)
    omega
end TX
namespace TX
open PySem PySem.Spec PyProof.Rows L2
/-! ### looks: which values a row has -/
def listsP (p : PyData → Bool) : PyData → Bool
  | .list es => es.all p
  | _ => false
mutual
def nestP (p : PyData → Bool) : PyData → Bool
  | .list es => p (.list es) || nestAll p es
  | .none => p .none
  | .str z => p (.str z)
  | .bool b => p (.bool b)
  | .int i => p (.int i)
  | .tuple xs => p (.tuple xs)
  | .dict xs => p (.dict xs)
def nestAll (p : PyData → Bool) : List PyData → Bool
  | [] => true
  | d :: ds => nestP p d && nestAll p ds
end
theorem nestAll_all (p : PyData → Bool) : ∀ ds : List PyData, nestAll p ds = ds.all (nestP p)
  | [] => rfl
  | d :: ds => by
    simp only [nestAll, List.all_cons, nestAll_all p ds]
/-- v is the look of d, where items are asked for by these -/
def LookOf (ps : List (PyData → Bool)) : PyData → Nat → Prop
  | .none, v => v = 256
  | .str z, v => v = 257 + min z.length 4
  | .list es, v => v < 256 ∧ ∀ (k : Nat) (p : PyData → Bool), ps[k]? = some p → v.testBit k = es.all p
  | _, _ => False
theorem LookOf.less {ps qs : List (PyData → Bool)} {d : PyData} {v : Nat} (h : LookOf (ps ++ qs) d v) : LookOf ps d v := by
  cases d with
  | list es =>
    refine ⟨h.1, fun k p e => h.2 k p ?_⟩
    rw [List.getElem?_append_left (List.getElem?_eq_some_iff.mp e).1]
    exact e
  | _ => exact h
/-- a row has the bit of a value's look exactly if the value is in the step -/
def RowOk (ps : List (PyData → Bool)) (row : Int) (p : PyData → Bool) : Prop := 0 ≤ row ∧ row < 2 ^ 262 ∧ ∀ d v, LookOf ps d v → ibit row v = p d
theorem RowOk.more {ps qs : List (PyData → Bool)} {row : Int} {p : PyData → Bool} (h : RowOk ps row p) : RowOk (ps ++ qs) row p := ⟨h.1, h.2.1, fun d v l => h.2.2 d v l.less⟩
def allIn : List Nat := [0xaaaaaaaaaaaaaaaaaaaaaaaaaaaaaaaaaaaaaaaaaaaaaaaaaaaaaaaaaaaaaaaa, 0xcccccccccccccccccccccccccccccccccccccccccccccccccccccccccccccccc, 0xf0f0f0f0f0f0f0f0f0f0f0f0f0f0f0f0f0f0f0f0f0f0f0f0f0f0f0f0f0f0f0f0, 0xff00ff00ff00ff00ff00ff00ff00ff00ff00ff00ff00ff00ff00ff00ff00ff00,
  0xffff0000ffff0000ffff0000ffff0000ffff0000ffff0000ffff0000ffff0000, 0xffffffff00000000ffffffff00000000ffffffff00000000ffffffff00000000, 0xffffffffffffffff0000000000000000ffffffffffffffff0000000000000000, 0xffffffffffffffffffffffffffffffff00000000000000000000000000000000]
theorem allIn_bits : ∀ k, k < 8 → ∀ v, v < 256 → (allIn.getD k 0).testBit v = v.testBit k := by
  have h : ((List.range 8).all fun k => (List.range 256).all fun v => (allIn.getD k 0).testBit v == v.testBit k) = true := by decide +kernel
  intro k hk v hv
  have h1 := List.all_eq_true.mp h k (List.mem_range.mpr hk)
  have h2 := List.all_eq_true.mp h1 v (List.mem_range.mpr hv)
  simpa using h2
theorem allIn_small : ∀ k, allIn.getD k 0 < 2 ^ 256 := by
  have h : ((List.range 8).all fun k => decide (allIn.getD k 0 < 2 ^ 256)) = true := by decide +kernel
  intro k
  by_cases hk : k < 8
  · simpa using List.all_eq_true.mp h k (List.mem_range.mpr hk)
  · have e : allIn.getD k 0 = 0 := by
      rw [List.getD_eq_getElem?_getD, List.getElem?_eq_none (show allIn.length ≤ k by show 8 ≤ k; omega)]
      rfl
    rw [e]
    decide
theorem high_bit {n k v : Nat} (h : n < 2 ^ k) (hv : k ≤ v) : n.testBit v = false := Nat.testBit_lt_two_pow (Nat.lt_of_lt_of_le h (Nat.pow_le_pow_right (by decide) hv))
/-- lists whose items are in the step that stands at k among those asked for -/
theorem rowOk_lists {ps : List (PyData → Bool)} {k : Nat} {p : PyData → Bool} (hk : ps[k]? = some p) (h8 : k < 8) : RowOk ps ((allIn.getD k 0 : Nat) : Int) (listsP p) := by
  have hs := allIn_small k
  refine ⟨Int.natCast_nonneg _, ?_, fun d v l => ?_⟩
  · have : allIn.getD k 0 < 2 ^ 262 := Nat.lt_of_lt_of_le hs (Nat.pow_le_pow_right (by decide) (by decide))
    exact_mod_cast this
  · rw [ibit_nat]
    cases d with
    | list es =>
      rw [allIn_bits k h8 v l.1]
      exact l.2 k p hk
    | none =>
      have e : v = 256 := l
      rw [high_bit hs (by omega)]
      rfl
    | str z =>
      have e : v = 257 + min z.length 4 := l
      rw [high_bit hs (by omega)]
      rfl
    | _ => exact l.elim
/-- nested: the values of a step, and lists of such values at any depth -/
theorem rowOk_nested {ps : List (PyData → Bool)} {k a : Nat} {p : PyData → Bool} (hr : RowOk ps (a : Int) p) (hk : ps[k]? = some (nestP p)) (h8 : k < 8) : RowOk ps (Builtin.bitOr (a : Int) ((allIn.getD k 0 : Nat) : Int)) (nestP p) := by
  obtain ⟨h0, h1, h2⟩ := hr
  have hl := rowOk_lists hk h8
  rw [or_nat]
  refine ⟨Int.natCast_nonneg _, ?_, fun d v l => ?_⟩
  · have b1 : a < 2 ^ 262 := by exact_mod_cast h1
    have b2 : allIn.getD k 0 < 2 ^ 262 := by exact_mod_cast hl.2.1
    exact_mod_cast Nat.or_lt_two_pow b1 b2
  · rw [ibit_nat, Nat.testBit_or, ← ibit_nat, ← ibit_nat, h2 d v l, hl.2.2 d v l]
    cases d with
    | list es => simp only [nestP, listsP, nestAll_all]
    | none => simp [nestP, listsP]
    | str z => simp [nestP, listsP]
    | _ => exact l.elim
theorem look_lt {ps : List (PyData → Bool)} {d : PyData} {v : Nat} (l : LookOf ps d v) : v < 262 := by
  cases d with
  | list es =>
    have := l.1
    omega
  | none =>
    have e : v = 256 := l
    omega
  | str z =>
    have e : v = 257 + min z.length 4 := l
    omega
  | _ => exact l.elim
theorem rowOk_every {ps : List (PyData → Bool)} : RowOk ps ((2 ^ 262 - 1 : Nat) : Int) (fun _ => true) := by
  refine ⟨Int.natCast_nonneg _, by decide +kernel, fun d v l => ?_⟩
  rw [ibit_nat, Nat.testBit_two_pow_sub_one]
  exact decide_eq_true (look_lt l)
theorem rowOk_never {ps : List (PyData → Bool)} : RowOk ps 0 (fun _ => false) := by
  refine ⟨Int.le_refl _, by decide, fun d v l => ?_⟩
  have e := ibit_nat 0 v
  rw [Nat.zero_testBit] at e
  exact e
def noneP : PyData → Bool
  | .none => true
  | _ => false
theorem rowOk_nothing {ps : List (PyData → Bool)} : RowOk ps (1 * 2 ^ 256) noneP := by
  refine ⟨by decide, by decide, fun d v l => ?_⟩
  rw [ibit_shl]
  cases d with
  | list es =>
    have := l.1
    exact decide_eq_false (by omega)
  | none =>
    have e : v = 256 := l
    exact decide_eq_true e.symm
  | str z =>
    have e : v = 257 + min z.length 4 := l
    exact decide_eq_false (by omega)
  | _ => exact l.elim
def textP (lo : Nat) (hi : Option Nat) : PyData → Bool
  | .str z => decide (lo ≤ z.length) && (match hi with | none => true | some h => decide (z.length ≤ h))
  | _ => false
/-- the row under way: the numbers from lo to below m -/
def TextRow (lo m : Nat) (a : Nat) : Prop := a < 2 ^ 262 ∧ ∀ v, a.testBit v = decide (257 + lo ≤ v ∧ v < 257 + m)
theorem textRow_start {lo : Nat} : TextRow lo lo 0 := by
  refine ⟨by decide, fun v => ?_⟩
  rw [Nat.zero_testBit, decide_eq_false (by omega)]
theorem textRow_step {lo m a : Nat} (h : TextRow lo m a) (hl : lo ≤ m) (hm : m ≤ 4) : TextRow lo (m + 1) (a ||| 2 ^ (257 + m)) := by
  refine ⟨Nat.or_lt_two_pow h.1 (Nat.pow_lt_pow_right (by decide) (by omega)), fun v => ?_⟩
  rw [Nat.testBit_or, h.2 v, Nat.testBit_two_pow]
  by_cases e : 257 + m = v
  · rw [decide_eq_true e, decide_eq_true (show 257 + lo ≤ v ∧ v < 257 + (m + 1) by omega), Bool.or_true]
  · rw [decide_eq_false e, Bool.or_false]
    by_cases e2 : 257 + lo ≤ v ∧ v < 257 + m
    · rw [decide_eq_true e2, decide_eq_true (by omega)]
    · rw [decide_eq_false e2, decide_eq_false (by omega)]
theorem rowOk_texts {ps : List (PyData → Bool)} {lo a : Nat} {hi : Option Nat} (hl : lo ≤ 3) (hh : ∀ h, hi = some h → h ≤ 3) (r : TextRow lo (match hi with | none => 5 | some h => max lo (h + 1)) a) : RowOk ps (a : Int) (textP lo hi) := by
  refine ⟨Int.natCast_nonneg _, by exact_mod_cast r.1, fun d v l => ?_⟩
  rw [ibit_nat, r.2 v]
  cases d with
  | list es =>
    have := l.1
    exact decide_eq_false (by omega)
  | none =>
    have e : v = 256 := l
    exact decide_eq_false (by omega)
  | str z =>
    have e : v = 257 + min z.length 4 := l
    subst e
    cases hi with
    | none =>
      simp only [textP, Bool.and_true]
      congr 1
      apply propext
      omega
    | some h =>
      have := hh h rfl
      simp only [textP]
      rw [← Bool.decide_and]
      congr 1
      apply propext
      omega
  | _ => exact l.elim
theorem rowOk_or {ps : List (PyData → Bool)} {a b : Nat} {p q : PyData → Bool} (h : RowOk ps (a : Int) p) (g : RowOk ps (b : Int) q) : RowOk ps (Builtin.bitOr (a : Int) (b : Int)) fun d => p d || q d := by
  rw [or_nat]
  have b1 : a < 2 ^ 262 := by exact_mod_cast h.2.1
  have b2 : b < 2 ^ 262 := by exact_mod_cast g.2.1
  refine ⟨Int.natCast_nonneg _, by exact_mod_cast Nat.or_lt_two_pow b1 b2, fun d v l => ?_⟩
  rw [ibit_nat, Nat.testBit_or, ← ibit_nat, ← ibit_nat, h.2.2 d v l, g.2.2 d v l]
theorem rowOk_and {ps : List (PyData → Bool)} {a b : Nat} {p q : PyData → Bool} (h : RowOk ps (a : Int) p) (g : RowOk ps (b : Int) q) : RowOk ps (Builtin.bitAnd (a : Int) (b : Int)) fun d => p d && q d := by
  rw [and_nat]
  have b1 : a < 2 ^ 262 := by exact_mod_cast h.2.1
  refine ⟨Int.natCast_nonneg _, by exact_mod_cast Nat.lt_of_le_of_lt Nat.and_le_left b1, fun d v l => ?_⟩
  rw [ibit_nat, Nat.testBit_and, ← ibit_nat, ← ibit_nat, h.2.2 d v l, g.2.2 d v l]
theorem rowOk_minus {ps : List (PyData → Bool)} {a b : Nat} {p q : PyData → Bool} (h : RowOk ps (a : Int) p) (g : RowOk ps (b : Int) q) : RowOk ps (Builtin.bitAnd (a : Int) (Builtin.bitNot (b : Int))) fun d => p d && !q d := by
  have b1 : a < 2 ^ 262 := by exact_mod_cast h.2.1
  have e : Builtin.bitAnd (a : Int) (Builtin.bitNot (b : Int)) = ((a - (a &&& b) : Nat) : Int) := by
    have e1 : ¬ (0 : Int) ≤ Builtin.bitNot (b : Int) := by
      rw [bitNot_is]
      omega
    unfold Builtin.bitAnd
    rw [decide_eq_true (Int.natCast_nonneg a), decide_eq_false e1]
    show (a : Int) - (((a : Int).toNat &&& (Builtin.bitNot (Builtin.bitNot (b : Int))).toNat : Nat) : Int) = _
    have f : (Builtin.bitNot (Builtin.bitNot (b : Int))).toNat = b := by
      rw [bitNot_is, bitNot_is]
      omega
    rw [f, Int.toNat_natCast]
    have le : a &&& b ≤ a := Nat.and_le_left
    omega
  refine ⟨by rw [e]; exact Int.natCast_nonneg _, ?_, fun d v l => ?_⟩
  · rw [e]
    exact_mod_cast Nat.lt_of_le_of_lt (Nat.sub_le _ _) b1
  · rw [ibit_and, ibit_bnot, h.2.2 d v l, g.2.2 d v l]
theorem rowOk_outside {ps : List (PyData → Bool)} {a : Nat} {p : PyData → Bool} (h : RowOk ps (a : Int) p) : RowOk ps (Builtin.bitXor ((2 ^ 262 - 1 : Nat) : Int) (a : Int)) fun d => !p d := by
  have b1 : a < 2 ^ 262 := by exact_mod_cast h.2.1
  have e : Builtin.bitXor ((2 ^ 262 - 1 : Nat) : Int) (a : Int) = (((2 ^ 262 - 1) ||| a) - ((2 ^ 262 - 1) &&& a) : Nat) := by
    unfold Builtin.bitXor
    rw [or_nat, and_nat]
    have le : (2 ^ 262 - 1) &&& a ≤ (2 ^ 262 - 1) ||| a := Nat.le_trans Nat.and_le_left Nat.left_le_or
    omega
  refine ⟨by rw [e]; exact Int.natCast_nonneg _, ?_, fun d v l => ?_⟩
  · rw [e]
    have : ((2 ^ 262 - 1) ||| a) < 2 ^ 262 := Nat.or_lt_two_pow (by decide) b1
    exact_mod_cast Nat.lt_of_le_of_lt (Nat.sub_le _ _) this
  · have t := (rowOk_every (ps := ps)).2.2 d v l
    rw [ibit_xor, t, h.2.2 d v l, Bool.true_xor]
end TX
namespace TX
open PySem PySem.Spec PyProof.Rows L2
/-- the constants of members -/
structure Cm (mg : Str → Option Value) : Prop where
  texts : ∃ t, mg "TEXTS" = some (.int 257 t)
  long : ∃ t, mg "LONG" = some (.int 4 t)
def hiV : Option Nat → V
  | .none => .non
  | .some h => .int (h : Nat)
def hiN (lo : Nat) : Option Nat → Nat
  | .none => 5
  | .some h => max lo (h + 1)
def spRowT (K : PySem.W.Frag) : Sp := fun vs H Q _ => ∃ (a : Addr) (lo : Nat) (hi : Option Nat), vs = [.ref a] ∧ SqT K H a [.int (lo : Nat), hiV hi] ∧ lo ≤ 3 ∧ (∀ h, hi = some h → h ≤ 3) ∧ ∀ r : Nat, TextRow lo (hiN lo hi) r → Q (.int (r : Nat)) H
section
variable {P : Program} {w : World} {K : PySem.W.Frag} {mg : Str → Option Value} {base : Heap}
theorem scRowT : FnScope ["numbers", "least", "most", "row", "many"] ["numbers"] (defScope s_row_of_texts) := ⟨rfl, rfl, rfl, by decide +kernel, rfl, by decide +kernel, by decide +kernel⟩
theorem ok_rowT {f : Addr} {fd : FuncData} {t1 t2 : Tok} (F : Fun K "row_of_texts" "row_of_texts" s_row_of_texts f fd) (Y : Nv mg) (gT : mg "TEXTS" = some (.int 257 t1)) (gL : mg "LONG" = some (.int 4 t2)) : FnOk P w K mg base CX0 1 f fd ["numbers"] (spRowT K) := by
  refine F.ok scRowT (fun vs H Q E h => ?_) (fun cdv A outer s H vs Q E hr h => ?_)
  · obtain ⟨a, lo, hi, rfl, _⟩ := h
    rfl
  · obtain ⟨a, lo, hi, rfl, ha, hlo, hhi, q⟩ := h
    refine ⟨_, pss_cons (ps_asg (pv 0) (pg_tup rfl (pgs_cons (pg_name (i := 1) scRowT.nd rfl (.inl rfl)) (pgs_cons (pg_name (i := 2) scRowT.nd rfl (.inl rfl)) pgs_nil)))) <|
      pss_cons (ps_set (i := 3) scRowT.nd rfl (.inl rfl) pe_int) <|
      pss_cons (ps_for PassesOwn.never rfl (pi_range2 (by rfl) Y.range (pa_cons (pv 1) (pa_cons (pe_ifExp (pt_cmp (pc_isN (pv 2))) (pe_op op_add (pe_glob (v := .int 4) (by rfl) gL ⟨_, rfl⟩) pe_int) (pe_op op_add (pv 2) pe_int)) pa_nil))) (pg_name (i := 4) scRowT.nd rfl (.inl rfl))
        (pss_one (ps_set (i := 3) scRowT.nd rfl (.inl rfl) (pe_op op_or (pv 3) (pe_op op_shl pe_int (pe_op op_add (pe_glob (v := .int 257) (by rfl) gT ⟨_, rfl⟩) (pv 4))))))) <|
      pss_one (ps_ret (pv 3)), ?_⟩
    refine ⟨_, rfl, a, _, rfl, ha, rfl, _, _, rfl, _, _, rfl, rfl, ?_⟩
    have main : ∀ (n : Nat) (hv : V), lo + n ≤ 5 → (∀ r : Nat, TextRow lo (lo + n) r → Q (.int (r : Nat)) H) → ∃ W : Nat → Nat → L2.St → Hp → Prop, (∃ m, W 0 m [some (.ref a), some (.int (lo : Nat)), some hv, some (.int 0), none] H) ∧ ∀ i m σ H', W i m σ H' →
        ((Itr (lo : Int) n).stop i H' ∧ tRet (tVar 3) { nx := fun _ H' => Q .non H', rt := Q } σ H') ∨ ((Itr (lo : Int) n).go i H' ∧ ∃ N : L2.St → Hp → Prop, (∀ σ' H2, N σ' H2 → ∃ m', m' < m ∧ W (i + 1) m' σ' H2) ∧ ∀ x H2, (Itr (lo : Int) n).yld i H' x H2 → gName 4 x σ H2 fun σ2 H3 =>
          tAsg (tOp (rI0 fun i j => .int (Builtin.bitOr i j)) (tVar 3) (tOp (rI CPow fun i j => .int (i * 2 ^ j.toNat)) (tC (.int 1)) (tOp (rI0 fun i j => .int (i + j)) (tC (.int 257)) (tVar 4)))) (gName 3) { nx := N, rt := Q, ct := N, bk := fun σ H' => tRet (tVar 3) { nx := fun _ H' => Q .non H', rt := Q } σ H' } σ2 H3) := by
      intro n hv hn hq
      refine for_range (lo := (lo : Int)) (n := n) (tb := tAsg (tOp (rI0 fun i j => .int (Builtin.bitOr i j)) (tVar 3) (tOp (rI CPow fun i j => .int (i * 2 ^ j.toNat)) (tC (.int 1)) (tOp (rI0 fun i j => .int (i + j)) (tC (.int 257)) (tVar 4)))) (gName 3)) (D := { nx := fun σ H' => tRet (tVar 3) { nx := fun _ H' => Q .non H', rt := Q } σ H', rt := Q }) (fun i σ H2 => ∃ (y4 : Option V) (r : Nat), σ = [some (.ref a), some (.int (lo : Nat)), some hv, some (.int (r : Nat)), y4] ∧ H2 = H ∧ TextRow lo (lo + i) r) ⟨_, 0, rfl, rfl, textRow_start⟩ ?_ ?_
      · rintro i σ H2 hi ⟨y4, r, rfl, rfl, hr⟩
        refine ⟨_, rfl, _, rfl, _, _, rfl, rfl, _, _, rfl, rfl, ⟨(by show (0 : Int) ≤ 257 + ((lo : Int) + (i : Int)); omega), (by show (257 : Int) + ((lo : Int) + (i : Int)) ≤ 1000000; omega), by decide⟩, _, _, rfl, rfl, ?_⟩
        have e1 : ((257 : Int) + ((lo : Int) + (i : Int))).toNat = 257 + (lo + i) := by omega
        have e2 : (1 : Int) * 2 ^ (257 + (lo + i)) = ((2 ^ (257 + (lo + i)) : Nat) : Int) := by
          rw [Int.one_mul]
          push_cast
          rfl
        refine ⟨some (.int ((lo : Int) + (i : Int))), r ||| 2 ^ (257 + (lo + i)), ?_, rfl, (show TextRow lo (lo + i + 1) _ from textRow_step hr (by omega) (by omega))⟩
        rw [e1, e2]
        show [some (V.ref a), some (V.int (lo : Nat)), some hv, some (V.int (Builtin.bitOr (r : Int) ((2 ^ (257 + (lo + i)) : Nat) : Int))), some (V.int ((lo : Int) + (i : Int)))] = _
        rw [or_nat]
      · rintro σ H2 ⟨y4, r, rfl, rfl, hr⟩
        exact ⟨_, rfl, hq r hr⟩
    cases hi with
    | none =>
      have e5 : ((4 : Int) + 1 - (lo : Int)).toNat = 5 - lo := by omega
      refine ⟨_, rfl, _, rfl, _, rfl, iteT ⟨_, _, rfl, rfl, (lo : Int), 4 + 1, rfl, ⟨by omega, by omega, by decide, by decide⟩, ?_⟩⟩
      rw [e5]
      exact main (5 - lo) .non (by omega) fun r hr => q r (by show TextRow lo 5 r; rw [show lo + (5 - lo) = 5 by omega] at hr; exact hr)
    | some h =>
      have h3 := hhi h rfl
      have e5 : ((h : Int) + 1 - (lo : Int)).toNat = (h + 1) - lo := by omega
      refine ⟨_, rfl, _, rfl, _, rfl, iteF ⟨_, rfl, _, _, rfl, rfl, (lo : Int), (h : Int) + 1, rfl, ⟨by omega, by omega, by omega, by omega⟩, ?_⟩⟩
      rw [e5]
      exact main (h + 1 - lo) (.int (h : Nat)) (by omega) fun r hr => q r (by show TextRow lo (max lo (h + 1)) r; rw [show lo + (h + 1 - lo) = max lo (h + 1) by omega] at hr; exact hr)
end
end TX
namespace TX
open PySem PySem.Spec PyProof.Rows L2
section
variable {prog : Program} {w : World} {A : Around} {E : Value → Shared → Prop} {s : Shared}
theorem applied_rev0 {sl : Addr} {vs : Value} {Q : Int × Int × Nat → Shared → Prop} (g : s.heap.IsSliceOf sl .none .none vs) (pc : IsPart vs (some (-1))) (q : Q (-1, -1, 0) s) : wpAny (model prog w) A (Builtin.Slice.sliceApplied (.ref sl) (pure 0)) Q E s := by
  obtain ⟨os, e, _, d⟩ := id g
  unfold Builtin.Slice.sliceApplied Builtin.Slice.sliceFields
  refine wpAny_bind (wpAny_bind (wpAny_field e d (x := .none) rfl (wpAny_bind (wpAny_field e d (x := .none) rfl (wpAny_bind (wpAny_field e d (x := vs) rfl (wpAny_pure ?_)))))))
  cases pc with
  | int i t =>
    refine wpAny_bind (slicePart_int (show wpAny _ _ (if ((-1 : Int) == 0) = true then _ else _) _ _ s from ?_))
    rw [if_neg (by decide)]
    exact wpAny_bind (slicePart_none (wpAny_bind (slicePart_none (wpAny_bind (wpAny_pure (wpAny_pure q))))))
theorem item_rev0 {t sl : Addr} {vs : Value} {Q : Value → Shared → Prop} (ht : IsTup s.heap t #[]) (g : s.heap.IsSliceOf sl .none .none vs) (pc : IsPart vs (some (-1)))
    (q : Q (.ref s.heap.objs.size) { s with heap := s.heap.push { cls := .type "tuple", data := .seq #[] } }) : wpAny (model prog w) A (getItem (.ref t) (.ref sl)) Q E s := by
  obtain ⟨os, e, c, _⟩ := id g
  have ts : s.TypeIs (.ref sl) "slice" := ⟨os, e, c⟩
  unfold getItem
  try with_reducible refine wpAny_holding ?_
  first | refine wpAny_bind (wpAny_pure ?_) | skip
  refine wpAny_bind (wpAny_sequenceKey ht.typeIs (by decide) (wpAny_bind (wpAny_callSpecial?_slot (name := Str.ofString "__getitem__") ht.typeIs PyProof.Rows.slot_tuple_getitem (wpAny_call_entry PyProof.Rows.slot_tuple_getitem ht.typeIs entry_tuple_getitem ?_ (args_tuple_getitem _ _)))))
  refine wpAny_bind (m := Builtin.Tuple.tupleItemsOf (.ref t)) (tupleItemsOf_ ht (wpAny_bind (wpAny_typeOf ts ?_)))
  rw [if_pos (by decide)]
  refine wpAny_bind (applied_rev0 g pc ?_)
  show wpAny _ _ (if ((-1 : Int) == 0 && (-1 : Int) == 1 && (0 : Nat) == 0) = true then _ else _) _ _ s
  rw [if_neg (by decide)]
  have zs : sizeOk (.seq (#[] : Array Value)) := Nat.zero_le _
  first
    | exact wpAny_bind (m := Builtin.Tuple.tupleExact #[]) (wpAny_newObj_type (wpAny_pure ⟨_, rfl, wpAny_pure q⟩) zs)
    | exact wpAny_bind (m := Builtin.Tuple.tupleExact #[]) (wpAny_newObj_type (wpAny_bind (wpAny_pure (wpAny_pure ⟨_, rfl, wpAny_pure q⟩))) zs)
    | exact wpAny_bind (wpAny_bind (m := Builtin.Tuple.tupleExact #[]) (wpAny_newObj_type (wpAny_pure (wpAny_pure ⟨_, rfl, wpAny_pure q⟩)) zs))
    | exact wpAny_bind (wpAny_bind (m := Builtin.Tuple.tupleExact #[]) (wpAny_newObj_type (wpAny_pure ⟨_, rfl, wpAny_pure q⟩) zs))
end
section
variable {X : Cx}
def tRevT0 (K : PySem.W.Frag) (te : TE) : TE := fun σ H Q => te σ H fun x H1 => ∃ a, x = .ref a ∧ SqT K H1 a [] ∧ ∀ p, H1 p = none → Q (.ref p) (upd H1 p (.tup []))
theorem pe_revT0 {e : Expr} {te : TE} {k : Nat} {p1 p2 p3 pos : Pos} (he : PE X e te) : PE X (.Subscript e (.Slice none none (some (.UnaryOp .USub (.Constant (.int 1) k p1) p2)) p3) pos) (tRevT0 X.K te) := by
  have back : PO X (some (.UnaryOp .USub (.Constant (.int 1) k p1) p2)) (tPart (tUn (rU fun i => .int (-i)) (tC (.int 1)))) := po_some (pe_un un_neg pe_int)
  refine ⟨fun pins s σ H Q I h => Subscript_ (thn (he.run pins s σ H _ I h) fun v s1 hv => ?_)⟩
  obtain ⟨x, H1, I1, r1, a, rfl, hx, q⟩ := hv
  cases r1
  refine wpAny_Slice (thn (po_none.run pins s1 σ H1 (fun o H2 => o = none ∧ H2 = H1) I1 ⟨rfl, rfl⟩) fun vl s2 h2 => thn (po_none.run pins s2 σ H1 (fun o H3 => o = none ∧ H3 = H1) ?_ ⟨rfl, rfl⟩) fun vu s3 h3 => ?_)
  · obtain ⟨o, H2, I2, _, rfl, rfl⟩ := h2
    exact I2
  obtain ⟨_, H2, I2, pl, rfl, rfl⟩ := h2
  obtain ⟨_, H3, I3, pu, rfl, rfl⟩ := h3
  refine thn (back.run pins s3 σ H3 (fun o H4 => o = some (-1) ∧ H4 = H3) I3 ⟨1, rfl, -1, rfl, rfl, rfl⟩) fun vs s4 h4 => ?_
  obtain ⟨_, H4, I4, pc, rfl, rfl⟩ := h4
  cases pl
  cases pu
  have I5 : Inv X pins σ H4 { s4 with heap := s4.heap.push { cls := .type "slice", data := .fields #[.none, .none, vs] } } := I4.kept (t' := s4.toks) fun b ob z => Heap.get?_push_of_some _ z
  obtain ⟨its, r, ht, hz⟩ := I5.tuple hx
  cases r
  show wpAny (model X.prog X.w) X.A (subscriptTail e (.Slice none none (some (.UnaryOp .USub (.Constant (.int 1) k p1) p2)) p3) (.ref a) (.ref s4.heap.objs.size)) (EP X pins σ Q) X.xe _
  refine tail_any (ops := [.ref a, .ref s4.heap.objs.size]) ht.typeIs (PyProof.Rows.slot_tuple_getitem.lookup) (item_rev0 ht (Heap.IsSliceOf.new _ .none .none vs) pc ?_) (by with_unfolding_all rfl)
  refine ⟨.ref _, _, I5.laid (t' := s4.toks) (o := .tup []) (fun b ob z => Heap.get?_push_of_some _ z) (Nat.le_refl _) ⟨Nat.zero_le _, [], .nil, IsTup.new _ _⟩, rfl, q _ (I5.hok.fresh (Nat.le_refl _))⟩
end
end TX
namespace TX
open PySem PySem.Spec PyProof.Rows L2
/-- a number with a bit for each of the rows -/
def toldN (look : Nat) : List Int → Nat
  | [] => 0
  | r :: rs => 2 * toldN look rs + (if ibit r look then 1 else 0)
theorem told_bit {look : Nat} : ∀ {rs : List Int} {k : Nat} {r : Int}, rs[k]? = some r → (toldN look rs).testBit k = ibit r look
  | [], _, _, h => by simp at h
  | r0 :: rs, 0, r, h => by
    have e : r0 = r := by simpa using h
    subst e
    simp only [toldN, Nat.testBit_zero]
    cases ibit r0 look
    · simp
    · simp
  | r0 :: rs, k + 1, r, h => by
    have e : rs[k]? = some r := by simpa using h
    have e2 : (toldN look (r0 :: rs)) / 2 = toldN look rs := by
      simp only [toldN]
      split <;> omega
    rw [Nat.testBit_succ, e2]
    exact told_bit e
theorem told_lt {look : Nat} : ∀ rs : List Int, toldN look rs < 2 ^ rs.length
  | [] => by simp [toldN]
  | r :: rs => by
    have := told_lt (look := look) rs
    simp only [toldN, List.length_cons, Nat.pow_succ]
    split <;> omega
def spToldN (K : PySem.W.Frag) : Sp := fun vs H Q _ => ∃ (a : Addr) (rs : List Int) (look : Nat), vs = [.ref a, .int (look : Nat)] ∧ (SqL K H a (rs.map V.int) ∨ SqT K H a [] ∧ rs = []) ∧ ∀ H', Same H H' → Q (.int (toldN look rs : Nat)) H'
section
variable {P : Program} {w : World} {K : PySem.W.Frag} {mg : Str → Option Value} {base : Heap}
theorem scTold : FnScope ["rows", "look", "told", "row"] ["rows", "look"] (defScope s_told_by) := ⟨rfl, rfl, rfl, by decide +kernel, rfl, by decide +kernel, by decide +kernel⟩
theorem ok_toldN {f : Addr} {fd : FuncData} (F : Fun K "told_by" "told_by" s_told_by f fd) : FnOk P w K mg base CX0 1 f fd ["rows", "look"] (spToldN K) := by
  refine F.ok scTold (fun vs H Q E h => ?_) (fun cdv A outer s H vs Q E hr h => ?_)
  · obtain ⟨a, rs, look, rfl, _⟩ := h
    rfl
  · obtain ⟨a, rs, look, rfl, ha, q⟩ := h
    refine ⟨_, pss_cons (ps_set (i := 2) scTold.nd rfl (.inl rfl) pe_int) <|
      pss_cons (ps_for PassesOwn.never rfl (pi_alt (pi_list (pe_revL (pv 0))) (pi_tup (pe_revT0 (pv 0)))) (pg_name (i := 3) scTold.nd rfl (.inl rfl))
        (pss_one (ps_set (i := 2) scTold.nd rfl (.inl rfl) (pe_op op_add (pe_op op_add (pv 2) (pv 2)) (pe_op op_and (pe_op op_shr (pv 3) (pv 1)) pe_int))))) <|
      pss_one (ps_ret (pv 2)), ?_⟩
    rcases ha with ha | ⟨ha, rfl⟩
    rotate_left
    · refine .inr ⟨_, rfl, a, rfl, ha, fun r nr => ?_⟩
      refine ⟨r, rfl, ⟨_, SqT.of upd_same⟩, for_tup (K := K) (a := r) (xs := []) (fun i σ H2 => ∃ y3, σ = [some (.ref a), some (.int (look : Nat)), some (.int 0), y3] ∧ Same H H2 ∧ H2 r = some (.tup [])) ⟨_, rfl, same_upd nr, upd_same⟩ ?_ ?_ ?_⟩
      · rintro i σ H2 hi ⟨y3, rfl, sm, h⟩
        exact SqT.of h
      · rintro i x σ H2 hx _
        simp at hx
      · rintro σ H2 ⟨y3, rfl, sm, h⟩
        exact ⟨_, rfl, q H2 sm⟩
    refine .inl ⟨_, rfl, a, _, rfl, ha, fun r nr => ?_⟩
    refine ⟨r, rfl, ⟨_, SqL.of upd_same⟩, for_list (K := K) (a := r) (xs := (rs.map V.int).reverse) (fun i σ H2 => ∃ y3, σ = [some (.ref a), some (.int (look : Nat)), some (.int (toldN look (rs.drop (rs.length - i)) : Nat)), y3] ∧ Same H H2 ∧ H2 r = some (.lst (rs.map V.int).reverse)) ?_ ?_ ?_ ?_⟩
    · exact ⟨none, by simp [toldN]; rfl, same_upd nr, upd_same⟩
    · rintro i σ H2 hi ⟨y3, rfl, sm, h⟩
      exact SqL.of h
    · rintro i x σ H2 hx ⟨y3, rfl, sm, h⟩
      have hi : i < rs.length := by
        have := (List.getElem?_eq_some_iff.mp hx).1
        simpa using this
      have hj : rs.length - 1 - i < rs.length := by omega
      have ex : x = .int rs[rs.length - 1 - i] := by
        rw [List.getElem?_reverse (by simpa using hi), List.length_map, List.getElem?_map, List.getElem?_eq_getElem hj] at hx
        exact (Option.some.inj hx).symm
      subst ex
      have ed : rs.drop (rs.length - (i + 1)) = rs[rs.length - 1 - i] :: rs.drop (rs.length - i) := by
        have e1 : rs.length - (i + 1) = rs.length - 1 - i := by omega
        have e2 : rs.length - 1 - i + 1 = rs.length - i := by omega
        rw [e1, List.drop_eq_getElem_cons hj, e2]
      refine ⟨_, rfl, _, rfl, _, _, rfl, rfl, _, rfl, _, rfl, _, _, rfl, rfl, (by show (0 : Int) ≤ (look : Int); omega), _, _, rfl, rfl, _, _, rfl, rfl, ?_⟩
      refine ⟨some (.int rs[rs.length - 1 - i]), ?_, sm, h⟩
      rw [ed]
      generalize rs[rs.length - 1 - i] = rw0
      show _ = [some (V.ref a), some (V.int (look : Nat)), some (V.int ((2 * toldN look (rs.drop (rs.length - i)) + (if ibit rw0 look then 1 else 0) : Nat) : Int)), some (V.int rw0)]
      generalize toldN look (rs.drop (rs.length - i)) = t
      show [some (V.ref a), some (V.int (look : Nat)), some (V.int ((t : Int) + (t : Int) + Builtin.bitAnd (rw0 / 2 ^ (look : Int).toNat) 1)), some (V.int rw0)] = _
      rw [Int.toNat_natCast, bit_of]
      have e3 : (t : Int) + (t : Int) + (if ibit rw0 look then 1 else 0) = ((2 * t + (if ibit rw0 look then 1 else 0) : Nat) : Int) := by
        split <;> omega
      rw [e3]
    · rintro σ H2 ⟨y3, rfl, sm, h⟩
      refine ⟨_, rfl, ?_⟩
      have e : rs.drop (rs.length - ((rs.map V.int).reverse).length) = rs := by simp
      rw [e]
      exact q H2 sm
end
end TX
namespace TX
open PySem PySem.Spec PyProof.Rows L2
/-- the number of a leaf's look -/
def leafN : PyData → Option Nat
  | .none => some 0
  | .str z => if isT (.str z) = true then some (min z.length 4 + 1) else none
  | _ => none
def optV : Option Nat → V
  | none => .non
  | some n => .int (n : Nat)
def spLeafN (K : PySem.W.Frag) : Sp := fun vs H Q _ => ∃ (v : V) (d : PyData) (Hv : Hp), vs = [v] ∧ Same Hv H ∧ Dp K Hv v d ∧ sz d ≤ 100000 ∧ Q (optV (leafN d)) H
section
variable {P : Program} {w : World} {K : PySem.W.Frag} {mg : Str → Option Value} {base : Heap}
theorem scLeafN : FnScope ["thing"] ["thing"] (defScope s_leaf_number) := ⟨rfl, rfl, rfl, by decide +kernel, rfl, by decide +kernel, by decide +kernel⟩
theorem ok_leafN {f : Addr} {fd : FuncData} {tA t2 : Tok} (F : Fun K "leaf_number" "leaf_number" s_leaf_number f fd) (T : Nm mg) (k : Nk mg) (B : Nb mg) (gA : mg "ALPHABET" = some (.str alphaS tA)) (gL : mg "LONG" = some (.int 4 t2)) : FnOk P w K mg base CX0 1 f fd ["thing"] (spLeafN K) := by
  refine F.ok scLeafN (fun vs H Q E h => ?_) (fun cdv A outer s H vs Q E hr h => ?_)
  · obtain ⟨v, d, Hv, rfl, _⟩ := h
    rfl
  · obtain ⟨v, d, Hv, rfl, sv, hd, hz, q⟩ := h
    refine ⟨_, pss_cons (ps_if (pt_cmp (pc_isN (pv 0))) (pss_one (ps_ret pe_int)) pss_nil) <|
      pss_cons (ps_if (PW.pt (pw_and (pt_val (pe_callB call_isi (by rfl) T.isi (by decide +kernel) (pa_cons (pv 0) (pa_cons (pe_bltn (v := .ty "str") (by rfl) k.str (by decide +kernel) rfl) pa_nil))))
        (pw_and1 (pt_not (pt_truth (pe_bm PySem.F.plainAttrs_str PySem.F.slot_str_strip PySem.F.type_str_strip mt_stripChars (pv 0) (pa_cons (pe_glob (v := .str alphaS) (by rfl) gA ⟨_, rfl⟩) pa_nil)) (fun _ => rfl))))))
        (pss_one (ps_ret (pe_ifExp (pt_cmpR op_lt (pe_callB call_len_str (by rfl) B.len PySem.boot_len (pa_cons (pv 0) pa_nil)) (pe_glob (v := .int 4) (by rfl) gL ⟨_, rfl⟩) (nomark _))
          (pe_op op_add (pe_callB call_len_str (by rfl) B.len PySem.boot_len (pa_cons (pv 0) pa_nil)) pe_int) (pe_op op_add (pe_glob (v := .int 4) (by rfl) gL ⟨_, rfl⟩) pe_int)))) pss_nil) <|
      pss_one (ps_ret pe_non), ?_⟩
    have ty := dp_ty (dp_same sv _ _ hd)
    have is : ∀ b, (tyD d == "str") = b → PySem.W.kitOne K (.type (tyD d)) (.type "str") = some b := fun b e => e ▸ kitS d K
    by_cases hn : d = .none
    · subst hn
      cases hd
      exact ⟨_, rfl, _, rfl, iteT q⟩
    have hv : v ≠ .non := by
      intro e
      subst e
      cases hd
      exact hn rfl
    refine ⟨_, rfl, _, rfl, ?_⟩
    have hvn : decide (v = .non) = false := decide_eq_false hv
    by_cases e : (tyD d == "str") = true
    · cases hd with
      | str x =>
        refine iteF ⟨_, rfl, .str x, .ty "str", _, .type "str", true, rfl, .ty _, ty, is _ rfl, _, rfl, iteT ?_⟩
        have hx : x.length ≤ 100000 := by
          simp only [sz] at hz
          omega
        have hs := strip_len x
        have fx : x.length ≤ sizeLine := Nat.le_trans hx (by decide)
        refine ⟨_, rfl, rfl, x, alphaS, rfl, rfl, fx, !ltB x, ⟨?_, ?_⟩, ?_⟩
        · exact Nat.le_trans (fits_any x) fx
        · rw [← hs]
          cases e2 : (Txt.stripChars x alphaS).length == 0 with
          | true =>
            have := eq_of_beq e2
            rw [this]
            rfl
          | false =>
            have h0 := beq_eq_false_iff_ne.mp e2
            exact (bne_iff_ne.mpr (by omega)).symm
        · show if (!(!ltB x)) = true then _ else _
          rw [Bool.not_not]
          by_cases hl : ltB x = true
          · have el : leafN (.str x) = some (min x.length 4 + 1) := by
              show (if ltB x = true then some (min x.length 4 + 1) else none) = _
              rw [hl]
              rfl
            rw [el] at q
            rw [hl]
            refine iteT ⟨_, rfl, x, rfl, fx, _, _, rfl, rfl, _, rfl, ?_⟩
            refine ite2 (fun h4 => ?_) (fun h4 => ?_)
            · have h4' : (x.length : Int) < 4 := of_decide_eq_true h4
              refine ⟨_, rfl, x, rfl, fx, _, _, rfl, rfl, ?_⟩
              have em : ((min x.length 4 + 1 : Nat) : Int) = (x.length : Int) + 1 := by omega
              show Q (.int ((x.length : Int) + 1)) H
              rw [← em]
              exact q
            · have h4' : ¬ (x.length : Int) < 4 := fun z => h4 (decide_eq_true z)
              refine ⟨_, _, rfl, rfl, ?_⟩
              have em : ((min x.length 4 + 1 : Nat) : Int) = 4 + 1 := by omega
              show Q (.int (4 + 1)) H
              rw [← em]
              exact q
          · have hl2 : ltB x = false := by simpa using hl
            have el : leafN (.str x) = none := by
              show (if ltB x = true then some (min x.length 4 + 1) else none) = _
              rw [hl2]
              rfl
            rw [el] at q
            rw [hl2]
            exact iteF q
      | _ => simp [tyD] at e
    · have e2 : (tyD d == "str") = false := by simpa using e
      have el : leafN d = none := by
        cases d with
        | none => exact absurd rfl hn
        | str x => simp [tyD] at e2
        | _ => rfl
      rw [el] at q
      rw [hvn]
      refine iteF ⟨_, rfl, v, .ty "str", _, .type "str", false, rfl, .ty _, ty, is _ e2, _, rfl, iteF ?_⟩
      exact iteF q
end
end TX
namespace TX
open PySem PySem.Spec PyProof.Rows L2
/-! ### what is told of a value, by the rows of the steps that items are asked for -/
def shN (ts : List Nat) : Nat := ts.foldl (fun a t => a &&& t) 255
mutual
def toldD (ar : List Int) (lv : List Nat) : PyData → Nat
  | .list es => toldN (shN (toldAllD ar lv es)) ar
  | .none => lv.getD 0 0
  | .str z => lv.getD (min z.length 4 + 1) 0
  | _ => 0
def toldAllD (ar : List Int) (lv : List Nat) : List PyData → List Nat
  | [] => []
  | d :: ds => toldD ar lv d :: toldAllD ar lv ds
end
theorem told_map (ar : List Int) (lv : List Nat) : ∀ ds : List PyData, toldAllD ar lv ds = ds.map (toldD ar lv)
  | [] => rfl
  | d :: ds => by rw [toldAllD, told_map ar lv ds, List.map_cons]
theorem sh_from : ∀ (ts : List Nat) (a : Nat), (∀ k, (ts.foldl (fun a t => a &&& t) a).testBit k = (a.testBit k && ts.all fun t => t.testBit k)) ∧ ts.foldl (fun a t => a &&& t) a ≤ a
  | [], a => ⟨fun k => by simp, Nat.le_refl _⟩
  | t :: ts, a => by
    obtain ⟨h1, h2⟩ := sh_from ts (a &&& t)
    refine ⟨fun k => ?_, Nat.le_trans h2 Nat.and_le_left⟩
    rw [List.foldl_cons, h1 k, Nat.testBit_and, List.all_cons, Bool.and_assoc]
theorem sh_bit (ts : List Nat) {k : Nat} (hk : k < 8) : (shN ts).testBit k = ts.all fun t => t.testBit k := by
  unfold shN
  rw [(sh_from ts 255).1 k]
  have e : (255 : Nat).testBit k = true := by
    rw [show (255 : Nat) = 2 ^ 8 - 1 by decide, Nat.testBit_two_pow_sub_one]
    exact decide_eq_true hk
  rw [e, Bool.true_and]
theorem sh_lt (ts : List Nat) : shN ts < 256 := Nat.lt_of_le_of_lt (sh_from ts 255).2 (by decide)
/-- the rows of the steps that items are asked for, and what they say of the leaves -/
structure Asked (ps : List (PyData → Bool)) (ar : List Int) (lv : List Nat) : Prop where
  len : ar.length = ps.length
  few : ps.length ≤ 8
  row : ∀ (k : Nat) (r : Int) (p : PyData → Bool), ar[k]? = some r → ps[k]? = some p → RowOk ps r p
  leaf : ∀ n, n < 6 → lv.getD n 0 = toldN (256 + n) ar
theorem Asked.bit {ps : List (PyData → Bool)} {ar : List Int} {lv : List Nat} (A : Asked ps ar lv) {k v : Nat} {p : PyData → Bool} {d : PyData} (hk : ps[k]? = some p) (l : LookOf ps d v) : (toldN v ar).testBit k = p d := by
  have hk2 : k < ar.length := by
    rw [A.len]
    exact (List.getElem?_eq_some_iff.mp hk).1
  have e := List.getElem?_eq_getElem hk2
  rw [told_bit e]
  exact (A.row k _ p e hk).2.2 d v l
mutual
theorem Asked.told {ps : List (PyData → Bool)} {ar : List Int} {lv : List Nat} (A : Asked ps ar lv) : ∀ d : PyData, valD d → ∀ (k : Nat) (p : PyData → Bool), ps[k]? = some p → (toldD ar lv d).testBit k = p d
  | .none, _, k, p, hk => by
    simp only [toldD]
    rw [A.leaf 0 (by decide)]
    exact A.bit (d := .none) hk rfl
  | .str z, _, k, p, hk => by
    simp only [toldD]
    rw [A.leaf (min z.length 4 + 1) (by omega)]
    refine A.bit (d := .str z) hk ?_
    show 256 + (min z.length 4 + 1) = 257 + min z.length 4
    omega
  | .list es, h, k, p, hk => by
    simp only [toldD]
    exact A.bit (d := .list es) hk (Asked.look A es h)
  | .bool _, h, _, _, _ => h.elim
  | .int _, h, _, _, _ => h.elim
  | .tuple _, h, _, _, _ => h.elim
  | .dict _, h, _, _, _ => h.elim
theorem Asked.look {ps : List (PyData → Bool)} {ar : List Int} {lv : List Nat} (A : Asked ps ar lv) : ∀ es : List PyData, valAll es → LookOf ps (.list es) (shN (toldAllD ar lv es))
  | es, h => by
    refine ⟨sh_lt _, fun k p hk => ?_⟩
    have k8 : k < 8 := Nat.lt_of_lt_of_le (List.getElem?_eq_some_iff.mp hk).1 A.few
    rw [sh_bit _ k8, Asked.toldAll A es h k p hk]
theorem Asked.toldAll {ps : List (PyData → Bool)} {ar : List Int} {lv : List Nat} (A : Asked ps ar lv) : ∀ es : List PyData, valAll es → ∀ (k : Nat) (p : PyData → Bool), ps[k]? = some p → ((toldAllD ar lv es).all fun t => t.testBit k) = es.all p
  | [], _, _, _, _ => rfl
  | d :: ds, h, k, p, hk => by
    simp only [toldAllD, List.all_cons]
    rw [Asked.told A d h.1 k p hk, Asked.toldAll A ds h.2 k p hk]
end
end TX
namespace TX
open PySem PySem.Spec PyProof.Rows L2
/-! ### list_look -/
mutual
def bdD : PyData → Prop
  | .str z => z.length ≤ 90000
  | .list es => bdAll es
  | .tuple es => bdAll es
  | .dict _ => False
  | _ => True
def bdAll : List PyData → Prop
  | [] => True
  | d :: ds => bdD d ∧ bdAll ds
end
theorem bdAll_append : ∀ (a b : List PyData), bdAll (a ++ b) ↔ bdAll a ∧ bdAll b
  | [], b => by simp [bdAll]
  | d :: a, b => by
    simp only [List.cons_append, bdAll, bdAll_append a b]
    exact ⟨fun ⟨x, y, z⟩ => ⟨⟨x, y⟩, z⟩, fun ⟨⟨x, y⟩, z⟩ => ⟨x, y, z⟩⟩
theorem path_bd {K : PySem.W.Frag} {Hv : Hp} {S0 : List V × List PyData} (h0 : bdAll S0.2) : ∀ {rs : List V} {S : List V × List PyData}, Path K Hv S0 rs S → bdAll S.2
  | _, _, .nil => h0
  | _, _, .cons hP hs => by
    have a := path_bd h0 hP
    cases hs with
    | leaf h e => exact a.2
    | lst h g => exact (bdAll_append _ _).mpr ⟨a.1, a.2⟩
    | tup h g => exact (bdAll_append _ _).mpr ⟨a.1, a.2⟩
theorem path_ok {K : PySem.W.Frag} {Hv : Hp} {S0 : List V × List PyData} (h0 : valAll S0.2) : ∀ {rs : List V} {S : List V × List PyData}, Path K Hv S0 rs S → valAll S.2
  | _, _, .nil => h0
  | _, _, .cons hP hs => by
    have a := path_ok h0 hP
    cases hs with
    | leaf h e => exact a.2
    | lst h g => exact (valAll_append _ _).mpr ⟨a.1, a.2⟩
    | tup h g => exact a.1.elim
theorem toldAll_append (ar : List Int) (lv : List Nat) (a b : List PyData) : toldAllD ar lv (a ++ b) = toldAllD ar lv a ++ toldAllD ar lv b := by
  rw [told_map, told_map, told_map, List.map_append]
theorem lt_ltB {y : Str} (h : Lt y) : ltB y = true := by
  unfold ltB
  rw [List.all_eq_true]
  intro c hc
  have := h c hc
  unfold ltC
  simp
  omega
theorem ltB_lt {y : Str} (h : ltB y = true) : Lt y := by
  unfold ltB at h
  intro c hc
  have := List.all_eq_true.mp h c hc
  unfold ltC at this
  simp at this
  omega
theorem leaf_told {ar : List Int} {lv : List Nat} : ∀ {d : PyData} {n : Nat}, leafN d = some n → valD d ∧ n < 6 ∧ toldD ar lv d = lv.getD n 0
  | .none, n, h => by
    have e : 0 = n := by simpa [leafN] using h
    subst e
    exact ⟨trivial, by decide, rfl⟩
  | .str y, n, h => by
    have h' : (if ltB y = true then some (min y.length 4 + 1) else none) = some n := h
    by_cases hl : ltB y = true
    · rw [hl] at h'
      have e : min y.length 4 + 1 = n := by simpa using h'
      subst e
      exact ⟨ltB_lt hl, by omega, rfl⟩
    · rw [if_neg hl] at h'
      cases h'
  | .list _, _, h => nomatch h
  | .bool _, _, h => nomatch h
  | .int _, _, h => nomatch h
  | .tuple _, _, h => nomatch h
  | .dict _, _, h => nomatch h
def SeqOr (K : PySem.W.Frag) (H : Hp) (a : Addr) (xs : List V) : Prop := SqL K H a xs ∨ SqT K H a xs
def spLook (K : PySem.W.Frag) : Sp := fun vs H Q _ => ∃ (aR aL : Addr) (ar : List Int) (lv : List Nat) (v : V) (d : PyData) (Hv : Hp), vs = [.ref aR, .ref aL, v] ∧ (SqL K Hv aR (ar.map V.int) ∨ SqT K Hv aR [] ∧ ar = []) ∧ SeqOr K Hv aL (lv.map fun (n : Nat) => V.int n) ∧ lv.length = 6 ∧ Same Hv H ∧ Dp K Hv v d ∧ bdD d ∧ nd d ≤ 50000 ∧ (∃ es, d = .list es) ∧
  (valD d → ∀ es, d = .list es → ∀ H', Same H H' → Q (.int (shN (toldAllD ar lv es) : Nat)) H') ∧ (¬ valD d → ∀ H', Same H H' → Q .non H')
section
variable {P : Program} {w : World} {K : PySem.W.Frag} {mg : Str → Option Value} {base : Heap}
theorem scLook : FnScope ["asked_rows", "leaves", "value", "done", "shared", "part", "_", "number"] ["asked_rows", "leaves", "value"] (defScope s_list_look) := ⟨rfl, rfl, rfl, by decide +kernel, rfl, by decide +kernel, by decide +kernel⟩
theorem ok_look {f fP fT fN : Addr} {fd dP dT dN : FuncData} {t1 : Tok} (F : Fun K "list_look" "list_look" s_list_look f fd) (T : Nm mg) (gE : mg "EVERY_STEP" = some (.int 255 t1)) (GP : FnOk P w K mg base CX0 1 fP dP ["thing"] (spParts K)) (gP : mg "all_parts" = some (.ref fP)) (kP : PySem.W.keepIn K (.ref fP) = true) (bP : Binds K dP ["thing"] [])
    (GT : FnOk P w K mg base CX0 1 fT dT ["rows", "look"] (spToldN K)) (gT : mg "told_by" = some (.ref fT)) (kT : PySem.W.keepIn K (.ref fT) = true) (bT : Binds K dT ["rows", "look"] [])
    (GN : FnOk P w K mg base CX0 1 fN dN ["thing"] (spLeafN K)) (gN : mg "leaf_number" = some (.ref fN)) (kN : PySem.W.keepIn K (.ref fN) = true) (bN : Binds K dN ["thing"] []) : FnOk P w K mg base CX0 2 f fd ["asked_rows", "leaves", "value"] (spLook K) := by
  refine F.ok scLook (fun vs H Q E h => ?_) (fun cdv A outer s H vs Q E hr h => ?_)
  · obtain ⟨aR, aL, ar, lv, v, d, Hv, rfl, _⟩ := h
    rfl
  · obtain ⟨aR, aL, ar, lv, v, d, Hv, rfl, hR, hL, hl6, sv, hd, hb, hn, hlst, q1, q2⟩ := h
    refine ⟨_, pss_cons (ps_set (i := 3) scLook.nd rfl (.inl rfl) (pe_lst pa_nil)) <|
      pss_cons (ps_set (i := 4) scLook.nd rfl (.inl rfl) (pe_glob (v := .int 255) (by rfl) gE ⟨_, rfl⟩)) <|
      pss_cons (ps_for PassesOwn.never rfl (pi_list (pe_revL (pe_call GP hr (by rfl) gP kP bP .nil pass0 (pa_cons (pv 2) pa_nil)))) (pg_name (i := 5) scLook.nd rfl (.inl rfl)) (
        pss_one (ps_if (pt_val (pe_callB call_isi (by rfl) T.isi (by decide +kernel) (pa_cons (pv 5) (pa_cons (pe_bltn (v := .ty "list") (by rfl) T.lst (by decide +kernel) rfl) pa_nil))))
          (pss_cons (ps_set (i := 4) scLook.nd rfl (.inl rfl) (pe_glob (v := .int 255) (by rfl) gE ⟨_, rfl⟩)) <|
           pss_cons (ps_for PassesOwn.never rfl (pi_list (pv 5)) (pg_name (i := 6) scLook.nd rfl (.inl rfl)) (
             pss_one (ps_set (i := 4) scLook.nd rfl (.inl rfl) (pe_op op_and (pv 4) (pe_bm0 PySem.F.plainAttrs_list PySem.F.slot_list_pop PySem.F.type_list_pop mt_pop (pv 3)))))) <|
           pss_one (ps_expr (pe_bm PySem.F.plainAttrs_list PySem.F.slot_list_append PySem.F.type_list_append mt_append (pv 3) (pa_cons (pe_call GT hr (by rfl) gT kT bT .nil pass0 (pa_cons (pv 0) (pa_cons (pv 4) pa_nil))) pa_nil))))
          (pss_cons (ps_set (i := 7) scLook.nd rfl (.inl rfl) (pe_call GN hr (by rfl) gN kN bN .nil pass0 (pa_cons (pv 5) pa_nil))) <|
           pss_cons (ps_if (pt_cmp (pc_isN (pv 7))) (pss_one (ps_ret pe_non)) pss_nil) <|
           pss_one (ps_expr (pe_bm PySem.F.plainAttrs_list PySem.F.slot_list_append PySem.F.type_list_append mt_append (pv 3) (pa_cons (pe_alt (pe_ix ix_list (pv 1) (pv 7) (fun _ _ => rfl)) (pe_ix ix_tup (pv 1) (pv 7) (fun _ _ => rfl))) pa_nil))))))) <|
      pss_one (ps_ret (pv 4)), ?_⟩
    refine ⟨by decide, fun da nda => ?_⟩
    refine ⟨_, rfl, v, d, Hv, rfl, sv.trans (same_upd nda), hd, by omega, fun H1 p rs sm1 np hp hP hlen => ?_⟩
    have hda1 : H1 da = some (.lst []) := sm1 _ _ upd_same
    refine ⟨p, _, rfl, SqL.of hp, fun r nr => ?_⟩
    rw [List.reverse_reverse]
    have rda : da ≠ r := ne_of_none hda1 nr
    have s0 : Same H (upd H1 r (.lst rs)) := ((same_upd nda).trans sm1).trans (same_upd nr)
    have nda0 : H da = none := nda
    refine ⟨r, rfl, ⟨_, SqL.of upd_same⟩, for_list (K := K) (a := r) (xs := rs) (fun i σ H2 => ∃ (S : List V × List PyData) (sh : Nat) (y5 y6 y7 : Option V), σ = [some (.ref aR), some (.ref aL), some v, some (.ref da), some (.int (sh : Nat)), y5, y6, y7] ∧ Same H H2 ∧ H2 r = some (.lst rs) ∧
      Path K Hv ([v], [d]) (rs.drop i) S ∧ H2 da = some (.lst ((toldAllD ar lv S.2).map fun (n : Nat) => V.int n).reverse) ∧ valAll S.2 ∧ ∀ es tl, S.2 = .list es :: tl → sh = shN (toldAllD ar lv es)) ?_ ?_ ?_ ?_⟩
    · exact ⟨([], []), 255, none, none, none, rfl, s0, upd_same, hP, by rw [upd_ne rda]; exact hda1, trivial, fun es tl z => nomatch z⟩
    · rintro i σ H2 hi ⟨S, sh, y5, y6, y7, rfl, _, g, _⟩
      exact SqL.of g
    · rintro i x σ H2 hx ⟨S, sh, y5, y6, y7, rfl, sm, hrs, hPi, hda, hva, hsh⟩
      have edrop : rs.drop i = x :: rs.drop (i + 1) := by
        obtain ⟨hj, e⟩ := List.getElem?_eq_some_iff.mp hx
        rw [List.drop_eq_getElem_cons hj, e]
      rw [edrop] at hPi
      cases hPi with
      | @cons _ S1 _ _ hP1 hst =>
      have bd1 := path_bd (S0 := ([v], [d])) ⟨hb, trivial⟩ hP1
      have pc := path_count hP1
      simp only [ndAll] at pc
      have vd1 : valD d → valAll S1.2 := fun z => path_ok (S0 := ([v], [d])) ⟨z, trivial⟩ hP1
      cases hst with
      | @leaf v0 d0 r1 rd1 h e =>
        refine ⟨_, rfl, x, .ty "list", .type (tyD d0), .type "list", _, rfl, .ty _, dp_ty (dp_same (sv.trans sm) _ _ h), kitL d0 K, _, rfl, ?_⟩
        rw [(Bool.or_eq_false_iff.mp e).1]
        refine iteF ⟨_, rfl, x, d0, Hv, rfl, sv.trans sm, h, ?_, ?_⟩
        · have b0 := bd1.1
          cases d0 <;> simp [sz, bdD, tyD] at b0 e ⊢ <;> omega
        · cases hlf : leafN d0 with
          | none =>
            refine ⟨_, rfl, _, rfl, iteT (q2 (fun z => ?_) H2 sm)⟩
            have vz := (vd1 z).1
            cases d0 with
            | none => simp [leafN] at hlf
            | str y =>
              have hl : ltB y = true := lt_ltB vz
              have e3 : leafN (.str y) = some (min y.length 4 + 1) := by
                show (if ltB y = true then some (min y.length 4 + 1) else none) = _
                rw [hl]
                rfl
              rw [e3] at hlf
              cases hlf
            | list es => simp [tyD] at e
            | _ => exact vz
          | some n =>
            obtain ⟨vz, n6, et⟩ := leaf_told (ar := ar) (lv := lv) hlf
            have hnl : n < lv.length := by omega
            have gv : lv.getD n 0 = lv[n] := by
              rw [List.getD_eq_getElem?_getD, List.getElem?_eq_getElem hnl]
              rfl
            have lrd : r1.length = rd1.length ∨ True := .inr trivial
            have done : ∃ l ys y, V.ref da = .ref l ∧ ([V.int (lv[n] : Nat)] : List V) = [y] ∧ H2 l = some (.lst ys) ∧ ys.length < sizeLine ∧ ∃ (S : List V × List PyData) (sh2 : Nat) (z5 z6 z7 : Option V), ([some (.ref aR), some (.ref aL), some v, some (.ref da), some (.int (sh : Nat)), some x, y6, some (.int (n : Nat))] : L2.St) = [some (.ref aR), some (.ref aL), some v, some (.ref da), some (.int (sh2 : Nat)), z5, z6, z7] ∧ Same H (upd H2 l (.lst (ys ++ [y]))) ∧ (upd H2 l (.lst (ys ++ [y]))) r = some (.lst rs) ∧
                Path K Hv ([v], [d]) (rs.drop (i + 1)) S ∧ (upd H2 l (.lst (ys ++ [y]))) da = some (.lst ((toldAllD ar lv S.2).map fun (n : Nat) => V.int n).reverse) ∧ valAll S.2 ∧ ∀ es tl, S.2 = .list es :: tl → sh2 = shN (toldAllD ar lv es) := by
              refine ⟨da, _, _, rfl, rfl, hda, ?_, _, sh, _, _, _, rfl, same_fresh nda0 sm, by rw [upd_ne rda.symm]; exact hrs, hP1, ?_, ⟨vz, hva⟩, ?_⟩
              · rw [List.length_reverse, List.length_map, told_map, List.length_map]
                exact Nat.lt_of_le_of_lt (show rd1.length ≤ 50000 by have := ndAll_len rd1; simp only [ndAll] at pc; omega) (by decide)
              · rw [upd_same]
                simp only [toldAllD, List.map_cons, List.reverse_cons, et, gv]
              · intro es tl z
                cases z
                simp [tyD] at e
            refine ⟨_, rfl, _, rfl, iteF ⟨_, rfl, .inl ⟨rfl, _, SqL.of hda⟩, ?_⟩⟩
            rcases hL with hL | hL
            · exact .inl ⟨_, rfl, _, rfl, aL, _, n, _, rfl, rfl, (sv.trans sm).seq hL, atI_nat (by rw [List.getElem?_map, List.getElem?_eq_getElem hnl]; rfl), done⟩
            · exact .inr ⟨_, rfl, _, rfl, aL, _, n, _, rfl, rfl, same_sqt (sv.trans sm) hL, atI_nat (by rw [List.getElem?_map, List.getElem?_eq_getElem hnl]; rfl), done⟩
      | @lst a xs r1 es rd1 g1 g2 =>
        have lxs : xs.length = es.length := DpAll.length g2
        obtain ⟨c1, ec1⟩ : ∃ c1, c1 = toldAllD ar lv es := ⟨_, rfl⟩
        obtain ⟨c2, ec2⟩ : ∃ c2, c2 = toldAllD ar lv rd1 := ⟨_, rfl⟩
        have hda' : H2 da = some (.lst (((c1 ++ c2).map fun (n : Nat) => V.int n).reverse)) := by
          rw [hda, ec1, ec2, toldAll_append]
        have lc1 : c1.length = xs.length := by rw [ec1, told_map, List.length_map, lxs]
        have lc2 : c2.length ≤ 50000 := by
          rw [ec2, told_map, List.length_map]
          have := ndAll_len rd1
          simp only [ndAll] at pc
          omega
        refine ⟨_, rfl, .ref a, .ty "list", .type "list", .type "list", _, rfl, .ty _, dp_ty (d := .list es) (.lst ((sv.trans sm).seq g1) (dpAll_same (sv.trans sm) _ _ g2)), kitL (.list es) K, _, rfl, iteT ?_⟩
        refine ⟨_, rfl, a, rfl, ⟨_, (sv.trans sm).seq g1⟩, for_list (K := K) (a := a) (xs := xs) (fun j σ H4 => ∃ z6, σ = [some (.ref aR), some (.ref aL), some v, some (.ref da), some (.int (((c1.take j).foldl (fun a t => a &&& t) 255 : Nat) : Int)), some (.ref a), z6, y7] ∧
          H4 da = some (.lst (((c1.drop j ++ c2).map fun (n : Nat) => V.int n).reverse)) ∧ ∀ b o, b ≠ da → H2 b = some o → H4 b = some o) ⟨_, rfl, hda', fun b o _ e => e⟩ ?_ ?_ ?_⟩
        · rintro j σ H4 hj ⟨z6, rfl, k1, kp⟩
          exact Same.seq (fun b o e => kp b o (ne_of_none e nda0) (sm b o e)) (sv.seq g1)
        · rintro j y σ H4 hy ⟨z6, rfl, k1, kp⟩
          have hjl : j < c1.length := by
            have := (List.getElem?_eq_some_iff.mp hy).1
            omega
          have ek : ((c1.drop j ++ c2).map fun (n : Nat) => V.int n).reverse = ((c1.drop (j + 1) ++ c2).map fun (n : Nat) => V.int n).reverse ++ [V.int (c1[j] : Nat)] := by
            rw [List.drop_eq_getElem_cons hjl, List.cons_append, List.map_cons, List.reverse_cons]
          rw [ek] at k1
          refine ⟨_, rfl, .ref da, rfl, .inl ⟨rfl, _, SqL.of k1⟩, da, _, V.int (c1[j] : Nat), rfl, rfl, k1, by simp, _, _, rfl, rfl, ?_⟩
          rw [List.dropLast_concat]
          refine ⟨some y, ?_, upd_same, fun b o hb e => by rw [upd_ne hb]; exact kp b o hb e⟩
          rw [List.take_add_one, List.getElem?_eq_getElem hjl]
          show [some (.ref aR), some (.ref aL), some v, some (.ref da), some (.int (Builtin.bitAnd (((c1.take j).foldl (fun a t => a &&& t) 255 : Nat) : Int) (c1[j] : Nat))), some (.ref a), some y, y7] = _
          rw [and_nat, List.foldl_append]
          rfl
        · rintro σ H4 ⟨z6, rfl, k1, kp⟩
          have ej : c1.take xs.length = c1 := by rw [← lc1, List.take_length]
          have ed : c1.drop xs.length = [] := by rw [← lc1, List.drop_length]
          rw [ed, List.nil_append] at k1
          have sm4 : Same H H4 := fun b o e => kp b o (ne_of_none e nda0) (sm b o e)
          have ea : (c1.take xs.length).foldl (fun a t => a &&& t) 255 = shN c1 := by
            rw [ej]
            rfl
          rw [ea]
          have hR4 : SqL K H4 aR (ar.map V.int) ∨ SqT K H4 aR [] ∧ ar = [] := hR.imp (fun z => (sv.trans sm4).seq z) fun z => ⟨same_sqt (sv.trans sm4) z.1, z.2⟩
          refine ⟨_, rfl, .inl ⟨rfl, _, SqL.of k1⟩, _, rfl, _, rfl, aR, ar, shN c1, rfl, hR4, fun H5 s5 => ⟨da, _, _, rfl, rfl, s5 _ _ k1, ?_, (.ref a :: r1, .list es :: rd1), shN c1, _, _, _, rfl, same_fresh nda0 (sm4.trans s5), ?_, hP1, ?_, ?_, ?_⟩⟩
          · rw [List.length_reverse, List.length_map]
            exact Nat.lt_of_le_of_lt lc2 (by decide)
          · rw [upd_ne rda.symm]
            exact s5 _ _ (kp r _ rda.symm hrs)
          · rw [upd_same, ec1, ec2]
            simp only [toldAllD, toldD, List.map_cons, List.reverse_cons]
          · exact ⟨((valAll_append _ _).mp hva).1, ((valAll_append _ _).mp hva).2⟩
          · intro es2 tl z
            cases z
            rw [ec1]
      | @tup a xs r1 es rd1 g1 g2 =>
        refine ⟨_, rfl, .ref a, .ty "list", .type "tuple", .type "list", _, rfl, .ty _, dp_ty (d := .tuple es) (dp_same (sv.trans sm) _ _ (.tup g1 g2)), kitL (.tuple es) K, _, rfl, iteF ⟨_, rfl, .ref a, .tuple es, Hv, rfl, sv.trans sm, .tup g1 g2, ?_, ?_⟩⟩
        · simp [sz]
        · exact ⟨_, rfl, _, rfl, iteT (q2 (fun z => (vd1 z).1) H2 sm)⟩
    · rintro σ H2 ⟨S, sh, y5, y6, y7, rfl, sm, hrs, hPi, hda, hva, hsh⟩
      rw [List.drop_length] at hPi
      cases hPi
      obtain ⟨es, rfl⟩ := hlst
      refine ⟨_, rfl, ?_⟩
      rw [hsh es [] rfl]
      exact q1 hva.1 es rfl H2 sm
end
end TX
namespace TX
open PySem PySem.Spec PyProof.Rows L2
/-! ### is_member -/
/-- a plan: the last row is that of p; ps are the steps that items are asked for -/
structure PlanAt (K : PySem.W.Frag) (H : Hp) (pl : Addr) (ps : List (PyData → Bool)) (p : PyData → Bool) (aW : Addr) (u : V) (aR aL : Addr) (ws ar : List Int) (lv : List Nat) (row : Int) : Prop where
  at_ : SqT K H pl [.ref aW, u, .ref aR, .ref aL]
  rows : SqL K H aW (ws.map V.int)
  last : ws.getLast? = some row
  row : RowOk ps row p
  asked : SqL K H aR (ar.map V.int) ∨ SqT K H aR [] ∧ ar = []
  leaves : SeqOr K H aL (lv.map fun (n : Nat) => V.int n)
  six : lv.length = 6
  ok : Asked ps ar lv
def leavesL : List V := [.int 256, .int 257, .int 258, .int 259, .int 260, .int 261]
def spMember (K : PySem.W.Frag) (aV : Addr) : Sp := fun vs H Q _ => ∃ (pl aW : Addr) (u : V) (aR aL : Addr) (ps : List (PyData → Bool)) (p : PyData → Bool) (ws ar : List Int) (lv : List Nat) (row : Int) (v : V) (d : PyData) (Hv : Hp), vs = [.ref pl, v] ∧ PlanAt K Hv pl ps p aW u aR aL ws ar lv row ∧ SqT K Hv aV leavesL ∧ Same Hv H ∧ Dp K Hv v d ∧ bdD d ∧ nd d ≤ 50000 ∧
  (valD d → ∀ H', Same H H' → Q (.bl (p d)) H') ∧ (¬ valD d → ∀ H', Same H H' → Q (.bl false) H')
theorem bit_one (b : Bool) : decide (V.int (if b = true then 1 else 0) = V.int 1) = b := by
  cases b <;> decide
section
variable {P : Program} {w : World} {K : PySem.W.Frag} {mg : Str → Option Value} {base : Heap}
theorem scMember : FnScope ["plan", "thing", "rows", "_", "asked_rows", "leaves", "look", "number"] ["plan", "thing"] (defScope s_is_member) := ⟨rfl, rfl, rfl, by decide +kernel, rfl, by decide +kernel, by decide +kernel⟩
theorem ok_member {f fL fN aV : Addr} {fd dL dN : FuncData} (F : Fun K "is_member" "is_member" s_is_member f fd) (T : Nm mg) (gV : mg "LEAVES" = some (.ref aV)) (GL : FnOk P w K mg base CX0 2 fL dL ["asked_rows", "leaves", "value"] (spLook K)) (gL : mg "list_look" = some (.ref fL)) (kL : PySem.W.keepIn K (.ref fL) = true) (bL : Binds K dL ["asked_rows", "leaves", "value"] [])
    (GN : FnOk P w K mg base CX0 1 fN dN ["thing"] (spLeafN K)) (gN : mg "leaf_number" = some (.ref fN)) (kN : PySem.W.keepIn K (.ref fN) = true) (bN : Binds K dN ["thing"] []) : FnOk P w K mg base CX0 3 f fd ["plan", "thing"] (spMember K aV) := by
  refine F.ok scMember (fun vs H Q E h => ?_) (fun cdv A outer s H vs Q E hr h => ?_)
  · obtain ⟨pl, aW, u, aR, aL, ps, p, ws, ar, lv, row, v, d, Hv, rfl, _⟩ := h
    rfl
  · obtain ⟨pl, aW, u, aR, aL, ps, p, ws, ar, lv, row, v, d, Hv, rfl, PA, hV, sv, hd, hb, hn, q1, q2⟩ := h
    have r1 : Room 1 _ := hr.mono (by decide)
    refine ⟨_, pss_cons (ps_asg (pv 0) (pg_tup rfl (pgs_cons (pg_name (i := 2) scMember.nd rfl (.inl rfl)) (pgs_cons (pg_name (i := 3) scMember.nd rfl (.inl rfl)) (pgs_cons (pg_name (i := 4) scMember.nd rfl (.inl rfl)) (pgs_cons (pg_name (i := 5) scMember.nd rfl (.inl rfl)) pgs_nil)))))) <|
      pss_cons (ps_if (pt_val (pe_callB call_isi (by rfl) T.isi (by decide +kernel) (pa_cons (pv 1) (pa_cons (pe_bltn (v := .ty "list") (by rfl) T.lst (by decide +kernel) rfl) pa_nil))))
        (pss_cons (ps_set (i := 6) scMember.nd rfl (.inl rfl) (pe_call GL hr (by rfl) gL kL bL .nil pass0 (pa_cons (pv 4) (pa_cons (pv 5) (pa_cons (pv 1) pa_nil))))) <|
         pss_one (ps_ret (pe_and (pe_cmp (pc_notN (pv 6))) (pe_one (pe_cmpR op_eq (pe_op op_and (pe_op op_shr (pe_ix ix_list (pv 2) (pe_un un_neg pe_int) (fun _ _ => rfl)) (pv 6)) pe_int) pe_int (nomark _)))))) pss_nil) <|
      pss_cons (ps_set (i := 7) scMember.nd rfl (.inl rfl) (pe_call GN r1 (by rfl) gN kN bN .nil pass0 (pa_cons (pv 1) pa_nil))) <|
      pss_one (ps_ret (pe_and (pe_cmp (pc_notN (pv 7))) (pe_one (pe_cmpR op_eq (pe_op op_and (pe_op op_shr (pe_ix ix_list (pv 2) (pe_un un_neg pe_int) (fun _ _ => rfl)) (pe_ix ix_tup (pe_glob (v := .ref aV) (by rfl) gV rfl) (pv 7) (fun _ _ => rfl))) pe_int) pe_int (nomark _))))), ?_⟩
    have hlast : atI (ws.map V.int) (-1) = some (.int row) := by
      obtain ⟨ini, ei⟩ := List.getLast?_eq_some_iff.mp PA.last
      rw [ei, List.map_append]
      exact atI_last _ _
    refine ⟨_, rfl, pl, _, rfl, same_sqt sv PA.at_, rfl, _, _, rfl, _, _, rfl, _, _, rfl, _, _, rfl, rfl, ?_⟩
    refine ⟨_, rfl, v, .ty "list", .type (tyD d), .type "list", _, rfl, .ty _, dp_ty (dp_same sv _ _ hd), kitL d K, _, rfl, ?_⟩
    by_cases hl : (tyD d == "list") = true
    · rw [hl]
      refine iteT ?_
      obtain ⟨es, rfl⟩ : ∃ es, d = .list es := by
        cases d with
        | list es => exact ⟨es, rfl⟩
        | _ => simp [tyD] at hl
      refine ⟨_, rfl, _, rfl, _, rfl, aR, aL, ar, lv, v, .list es, Hv, rfl, PA.asked, PA.leaves, PA.six, sv, hd, hb, hn, ⟨es, rfl⟩, fun vd es2 e2 H' s' => ?_, fun nv H' s' => ?_⟩
      · cases e2
        have hlk := Asked.look PA.ok es vd
        have hbit := PA.row.2.2 (.list es) _ hlk
        refine ⟨_, rfl, _, rfl, iteT ?_⟩
        refine ⟨_, rfl, 1, rfl, aW, _, -1, _, rfl, rfl, (sv.trans s').seq PA.rows, hlast, _, rfl, _, _, rfl, rfl, (by show (0 : Int) ≤ _; omega), _, _, rfl, rfl, rfl, ?_⟩
        have eb := bit_of row (shN (toldAllD ar lv es))
        rw [← hbit] at q1
        show Q (.bl (decide (V.int (Builtin.bitAnd (row / 2 ^ ((shN (toldAllD ar lv es) : Nat) : Int).toNat) 1) = V.int 1))) H'
        rw [Int.toNat_natCast, eb, bit_one]
        exact q1 vd H' s'
      · refine ⟨_, rfl, _, rfl, iteF ?_⟩
        exact q2 nv H' s'
    · have hl2 : (tyD d == "list") = false := by simpa using hl
      rw [hl2]
      refine iteF ⟨_, rfl, v, d, Hv, rfl, sv, hd, ?_, ?_⟩
      · cases d <;> simp [sz, bdD, tyD] at hb hl2 ⊢ <;> omega
      · cases hlf : leafN d with
        | none =>
          refine ⟨_, rfl, _, rfl, iteF (q2 (fun z => ?_) H (Same.refl _))⟩
          cases d with
          | none => simp [leafN] at hlf
          | str y =>
            have hl3 : ltB y = true := lt_ltB z
            have e3 : leafN (.str y) = some (min y.length 4 + 1) := by
              show (if ltB y = true then some (min y.length 4 + 1) else none) = _
              rw [hl3]
              rfl
            rw [e3] at hlf
            cases hlf
          | list es => simp [tyD] at hl2
          | _ => exact z
        | some n =>
          obtain ⟨vd, n6, et⟩ := leaf_told (ar := ar) (lv := lv) hlf
          have hlk : LookOf ps d (256 + n) := by
            cases d with
            | none =>
              have e : 0 = n := by simpa [leafN] using hlf
              subst e
              rfl
            | str y =>
              have h' : (if ltB y = true then some (min y.length 4 + 1) else none) = some n := hlf
              rw [lt_ltB vd] at h'
              have e : min y.length 4 + 1 = n := by simpa using h'
              show 256 + n = 257 + min y.length 4
              omega
            | list es => simp [tyD] at hl2
            | _ => exact vd.elim
          have hbit := PA.row.2.2 d _ hlk
          have hle : leavesL[n]? = some (V.int ((256 + n : Nat) : Int)) := by
            have : n = 0 ∨ n = 1 ∨ n = 2 ∨ n = 3 ∨ n = 4 ∨ n = 5 := by omega
            rcases this with rfl | rfl | rfl | rfl | rfl | rfl <;> rfl
          refine ⟨_, rfl, _, rfl, iteT ?_⟩
          refine ⟨_, rfl, 1, rfl, aW, _, -1, _, rfl, rfl, sv.seq PA.rows, hlast, _, rfl, aV, leavesL, n, _, rfl, rfl, same_sqt sv hV, atI_nat hle, _, _, rfl, rfl, (by show (0 : Int) ≤ _; omega), _, _, rfl, rfl, rfl, ?_⟩
          show Q (.bl (decide (V.int (Builtin.bitAnd (row / 2 ^ ((256 + n : Nat) : Int).toNat) 1) = V.int 1))) H
          rw [Int.toNat_natCast, bit_of, hbit, bit_one]
          exact q1 vd H (Same.refl _)
end
end TX
namespace TX
open PySem PySem.Spec PyProof.Rows L2
def rMaxI (K : PySem.W.Frag) : List V → Hp → VK → Prop := fun vs H Q => ∃ (p : Addr) (ns : List Int), vs = [.ref p] ∧ SqL K H p (ns.map V.int) ∧ 0 < ns.length ∧ ∀ M, M ∈ ns → (∀ a ∈ ns, a ≤ M) → Q (.int M) H
theorem call_maxI {X : Cx} (hc : X.calm = true) : CallR X (.builtin "max") (rMaxI X.K) := by
  intro pins s σ H vs us Q I r h
  obtain ⟨p, ns, rfl, hs, hne, q⟩ := h
  obtain ⟨its, rv, hl, _⟩ := I.list hs
  rw [Vals.ref1 r]
  have hi : IntsAre its ns := rv.ints
  obtain ⟨xs, e⟩ := hi.allInts.items
  have hns : ns = xs.toList.map (·.1) := by
    rw [← hi.numsOf, ← nums_intItems, ← e]
  have hsz : 0 < xs.size := by
    have h3 := hne
    rw [hns, List.length_map, Array.length_toList] at h3
    exact h3
  have hl2 := hl.isList
  rw [e] at hl2
  refine max_intList (I.ok.hd hc) hl2 hsz fun v h' tk hv hk => ?_
  obtain ⟨t, rfl⟩ := intItems_at hv
  obtain ⟨h1, h2⟩ := argBest_gt (numAt xs) (xs.size - 1)
  refine ⟨.int _, H, I.kept hk, ⟨t, rfl⟩, q _ ?_ fun a ha => ?_⟩
  · rw [hns, numAt_eq]
    exact getD_mem (by rw [List.length_map, Array.length_toList]; omega)
  · rw [hns] at ha
    obtain ⟨j, hj, rfl⟩ := mem_getD ha
    rw [List.length_map, Array.length_toList] at hj
    rw [← numAt_eq]
    exact h2 j (by omega)
end TX
namespace TX
open PySem PySem.Spec PyProof.Rows L2
/-! ### the steps of a recipe -/
inductive Sg where
  | every | never | nothing
  | texts (lo : Nat) (hi : Option Nat)
  | lists (k : Nat) | nested (k : Nat) | outside (k : Nat)
  | either (j k : Nat) | both (j k : Nat) | minus (j k : Nat)
def Sg.sign : Sg → Str
  | .every => "every"
  | .never => "never"
  | .nothing => "nothing"
  | .texts _ _ => "texts"
  | .lists _ => "lists"
  | .nested _ => "nested"
  | .outside _ => "outside"
  | .either _ _ => "either"
  | .both _ _ => "both"
  | .minus _ _ => "minus"
def Sg.parts : Sg → List Nat
  | .lists k => [k]
  | .nested k => [k]
  | .outside k => [k]
  | .either j k => [j, k]
  | .both j k => [j, k]
  | .minus j k => [j, k]
  | _ => []
def Sg.nums : Sg → List V
  | .texts lo hi => [.int (lo : Nat), hiV hi]
  | _ => []
/-- texts of at most three letters are told apart -/
def Sg.few : Sg → Prop
  | .texts lo hi => lo ≤ 3 ∧ ∀ h, hi = some h → h ≤ 3
  | _ => True
def Sg.asks (n : Nat) : Sg → Option Nat
  | .lists k => some k
  | .nested _ => some n
  | _ => none
/-- the step at a -/
def StepAt (K : PySem.W.Frag) (H : Hp) (a : Addr) (g : Sg) : Prop := ∃ p q, SqT K H a [.str g.sign, .ref p, .ref q] ∧ SqT K H p (g.parts.map fun (n : Nat) => V.int n) ∧ SqT K H q g.nums
theorem StepAt.up {K : PySem.W.Frag} {H G : Hp} {a : Addr} {g : Sg} (h : StepAt K H a g) (s : Same H G) : StepAt K G a g := by
  obtain ⟨p, q, h1, h2, h3⟩ := h
  exact ⟨p, q, same_sqt s h1, same_sqt s h2, same_sqt s h3⟩
def fullN : Nat := 2 ^ 262 - 1
theorem full_is : (7410693711188236507108543040556026102609279018600996098525285376506440296955903 : Int) = ((fullN : Nat) : Int) := by decide +kernel
/-- the row of a step, by the rows ahead of it -/
def RowIs (ws : List Int) (l r : Int) : Sg → Prop
  | .every => r = ((fullN : Nat) : Int)
  | .never => r = l
  | .nothing => r = 1 * 2 ^ 256
  | .texts lo hi => ∃ n : Nat, r = (n : Int) ∧ TextRow lo (hiN lo hi) n
  | .lists _ => r = l
  | .nested k => r = Builtin.bitOr (ws.getD k 0) l
  | .outside k => r = Builtin.bitXor ((fullN : Nat) : Int) (ws.getD k 0)
  | .either j k => r = Builtin.bitOr (ws.getD j 0) (ws.getD k 0)
  | .both j k => r = Builtin.bitAnd (ws.getD j 0) (ws.getD k 0)
  | .minus j k => r = Builtin.bitAnd (ws.getD j 0) (Builtin.bitNot (ws.getD k 0))
theorem sT {x y : Str} {A B : Prop} (h : x = y) (a : A) : if decide (V.str x = V.str y) = true then A else B := by
  rw [h, decide_eq_true rfl]
  exact iteT a
theorem sF {x y : Str} {A B : Prop} (h : x ≠ y) (b : B) : if decide (V.str x = V.str y) = true then A else B := by
  rw [decide_eq_false fun e => h (V.str.inj e)]
  exact iteF b
theorem at_map {ws : List Int} {k : Nat} (h : k < ws.length) : atI (ws.map V.int) (k : Int) = some (.int (ws.getD k 0)) := by
  refine atI_nat ?_
  rw [List.getElem?_map, List.getElem?_eq_getElem h, List.getD_eq_getElem?_getD, List.getElem?_eq_getElem h]
  rfl
def spRow (K : PySem.W.Frag) : Sp := fun vs H Q _ => ∃ (a aW : Addr) (g : Sg) (ws : List Int) (l : Int), vs = [.ref a, .ref aW, .int l] ∧ StepAt K H a g ∧ SqL K H aW (ws.map V.int) ∧ g.few ∧ (∀ k ∈ g.parts, k < ws.length) ∧ ∀ r, RowIs ws l r g → Q (.int r) H
def spAsked (K : PySem.W.Frag) : Sp := fun vs H Q _ => ∃ (n : Nat) (a : Addr) (g : Sg), vs = [.int (n : Nat), .ref a] ∧ StepAt K H a g ∧ Q (optV (g.asks n)) H
def spHasRow (K : PySem.W.Frag) : Sp := fun vs H Q _ => ∃ (a : Addr) (g : Sg), vs = [.ref a] ∧ StepAt K H a g ∧ g.few ∧ ∀ H', Same H H' → Q (.bl true) H'
section
variable {P : Program} {w : World} {K : PySem.W.Frag} {mg : Str → Option Value} {base : Heap}
theorem scRow : FnScope ["step", "rows", "lists", "sign", "parts", "numbers"] ["step", "rows", "lists"] (defScope s_row_of_step) := ⟨rfl, rfl, rfl, by decide +kernel, rfl, by decide +kernel, by decide +kernel⟩
theorem ok_row {f fT : Addr} {fd dT : FuncData} {t1 t2 : Tok} (F : Fun K "row_of_step" "row_of_step" s_row_of_step f fd) (gE : mg "EVERY_LOOK" = some (.int 7410693711188236507108543040556026102609279018600996098525285376506440296955903 t1)) (gN : mg "NOTHING" = some (.int 256 t2))
    (GT : FnOk P w K mg base CX0 1 fT dT ["numbers"] (spRowT K)) (gT : mg "row_of_texts" = some (.ref fT)) (kT : PySem.W.keepIn K (.ref fT) = true) (bT : Binds K dT ["numbers"] []) : FnOk P w K mg base CX0 2 f fd ["step", "rows", "lists"] (spRow K) := by
  refine F.ok scRow (fun vs H Q E h => ?_) (fun cdv A outer s H vs Q E hr h => ?_)
  · obtain ⟨a, aW, g, ws, l, rfl, _⟩ := h
    rfl
  · obtain ⟨a, aW, g, ws, l, rfl, hs, hW, hf, hp, q⟩ := h
    obtain ⟨p, qn, h1, h2, h3⟩ := hs
    refine ⟨_, pss_cons (ps_asg (pv 0) (pg_tup rfl (pgs_cons (pg_name (i := 3) scRow.nd rfl (.inl rfl)) (pgs_cons (pg_name (i := 4) scRow.nd rfl (.inl rfl)) (pgs_cons (pg_name (i := 5) scRow.nd rfl (.inl rfl)) pgs_nil))))) <|
      pss_cons (ps_if (pt_cmpR op_eq (pv 3) pe_str (nomark _)) (pss_one (ps_ret (pe_call GT hr (by rfl) gT kT bT .nil pass0 (pa_cons (pv 5) pa_nil)))) pss_nil) <|
      pss_cons (ps_if (pt_cmpR op_eq (pv 3) pe_str (nomark _)) (pss_one (ps_ret (pe_op op_or (pe_ix ix_list (pv 1) (pe_ix ix_tup (pv 4) pe_int (fun _ _ => rfl)) (fun _ _ => rfl)) (pe_ix ix_list (pv 1) (pe_ix ix_tup (pv 4) pe_int (fun _ _ => rfl)) (fun _ _ => rfl))))) pss_nil) <|
      pss_cons (ps_if (pt_cmpR op_eq (pv 3) pe_str (nomark _)) (pss_one (ps_ret (pe_op op_and (pe_ix ix_list (pv 1) (pe_ix ix_tup (pv 4) pe_int (fun _ _ => rfl)) (fun _ _ => rfl)) (pe_ix ix_list (pv 1) (pe_ix ix_tup (pv 4) pe_int (fun _ _ => rfl)) (fun _ _ => rfl))))) pss_nil) <|
      pss_cons (ps_if (pt_cmpR op_eq (pv 3) pe_str (nomark _)) (pss_one (ps_ret (pe_op op_and (pe_ix ix_list (pv 1) (pe_ix ix_tup (pv 4) pe_int (fun _ _ => rfl)) (fun _ _ => rfl)) (pe_un un_inv (pe_ix ix_list (pv 1) (pe_ix ix_tup (pv 4) pe_int (fun _ _ => rfl)) (fun _ _ => rfl)))))) pss_nil) <|
      pss_cons (ps_if (pt_cmpR op_eq (pv 3) pe_str (nomark _)) (pss_one (ps_ret (pe_op op_xor (pe_glob (v := .int 7410693711188236507108543040556026102609279018600996098525285376506440296955903) (by rfl) gE ⟨_, rfl⟩) (pe_ix ix_list (pv 1) (pe_ix ix_tup (pv 4) pe_int (fun _ _ => rfl)) (fun _ _ => rfl))))) pss_nil) <|
      pss_cons (ps_if (pt_cmpR op_eq (pv 3) pe_str (nomark _)) (pss_one (ps_ret (pe_op op_or (pe_ix ix_list (pv 1) (pe_ix ix_tup (pv 4) pe_int (fun _ _ => rfl)) (fun _ _ => rfl)) (pv 2)))) pss_nil) <|
      pss_cons (ps_if (pt_cmpR op_eq (pv 3) pe_str (nomark _)) (pss_one (ps_ret (pe_op op_shl pe_int (pe_glob (v := .int 256) (by rfl) gN ⟨_, rfl⟩)))) pss_nil) <|
      pss_one (ps_ret (pe_ifExp (pt_cmpR op_eq (pv 3) pe_str (nomark _)) (pe_glob (v := .int 7410693711188236507108543040556026102609279018600996098525285376506440296955903) (by rfl) gE ⟨_, rfl⟩) (pv 2))), ?_⟩
    refine ⟨_, rfl, a, _, rfl, h1, rfl, _, _, rfl, _, _, rfl, _, _, rfl, rfl, ?_⟩
    cases g with
    | every =>
      exact ⟨_, rfl, rfl, _, rfl, sF (by simp only [Sg.sign]; decide +kernel) ⟨_, rfl, rfl, _, rfl, sF (by simp only [Sg.sign]; decide +kernel) ⟨_, rfl, rfl, _, rfl, sF (by simp only [Sg.sign]; decide +kernel) ⟨_, rfl, rfl, _, rfl, sF (by simp only [Sg.sign]; decide +kernel) ⟨_, rfl, rfl, _, rfl, sF (by simp only [Sg.sign]; decide +kernel) ⟨_, rfl, rfl, _, rfl, sF (by simp only [Sg.sign]; decide +kernel) ⟨_, rfl, rfl, _, rfl, sF (by simp only [Sg.sign]; decide +kernel) ⟨_, rfl, rfl, _, rfl, sT rfl (q _ full_is)⟩⟩⟩⟩⟩⟩⟩⟩
    | never =>
      exact ⟨_, rfl, rfl, _, rfl, sF (by simp only [Sg.sign]; decide +kernel) ⟨_, rfl, rfl, _, rfl, sF (by simp only [Sg.sign]; decide +kernel) ⟨_, rfl, rfl, _, rfl, sF (by simp only [Sg.sign]; decide +kernel) ⟨_, rfl, rfl, _, rfl, sF (by simp only [Sg.sign]; decide +kernel) ⟨_, rfl, rfl, _, rfl, sF (by simp only [Sg.sign]; decide +kernel) ⟨_, rfl, rfl, _, rfl, sF (by simp only [Sg.sign]; decide +kernel) ⟨_, rfl, rfl, _, rfl, sF (by simp only [Sg.sign]; decide +kernel) ⟨_, rfl, rfl, _, rfl, sF (by simp only [Sg.sign]; decide +kernel) ⟨_, rfl, q _ rfl⟩⟩⟩⟩⟩⟩⟩⟩⟩
    | lists k =>
      exact ⟨_, rfl, rfl, _, rfl, sF (by simp only [Sg.sign]; decide +kernel) ⟨_, rfl, rfl, _, rfl, sF (by simp only [Sg.sign]; decide +kernel) ⟨_, rfl, rfl, _, rfl, sF (by simp only [Sg.sign]; decide +kernel) ⟨_, rfl, rfl, _, rfl, sF (by simp only [Sg.sign]; decide +kernel) ⟨_, rfl, rfl, _, rfl, sF (by simp only [Sg.sign]; decide +kernel) ⟨_, rfl, rfl, _, rfl, sF (by simp only [Sg.sign]; decide +kernel) ⟨_, rfl, rfl, _, rfl, sF (by simp only [Sg.sign]; decide +kernel) ⟨_, rfl, rfl, _, rfl, sF (by simp only [Sg.sign]; decide +kernel) ⟨_, rfl, q _ rfl⟩⟩⟩⟩⟩⟩⟩⟩⟩
    | nothing =>
      refine ⟨_, rfl, rfl, _, rfl, sF (by simp only [Sg.sign]; decide +kernel) ⟨_, rfl, rfl, _, rfl, sF (by simp only [Sg.sign]; decide +kernel) ⟨_, rfl, rfl, _, rfl, sF (by simp only [Sg.sign]; decide +kernel) ⟨_, rfl, rfl, _, rfl, sF (by simp only [Sg.sign]; decide +kernel) ⟨_, rfl, rfl, _, rfl, sF (by simp only [Sg.sign]; decide +kernel) ⟨_, rfl, rfl, _, rfl, sF (by simp only [Sg.sign]; decide +kernel) ⟨_, rfl, rfl, _, rfl, sT rfl ⟨_, _, rfl, rfl, ⟨by decide, by decide, by decide⟩, ?_⟩⟩⟩⟩⟩⟩⟩⟩
      exact q _ rfl
    | texts lo hi =>
      refine ⟨_, rfl, rfl, _, rfl, sT rfl ⟨_, rfl, qn, lo, hi, rfl, h3, hf.1, hf.2, fun r hr => q _ ⟨r, rfl, hr⟩⟩⟩
    | nested k =>
      refine ⟨_, rfl, rfl, _, rfl, sF (by simp only [Sg.sign]; decide +kernel) ⟨_, rfl, rfl, _, rfl, sF (by simp only [Sg.sign]; decide +kernel) ⟨_, rfl, rfl, _, rfl, sF (by simp only [Sg.sign]; decide +kernel) ⟨_, rfl, rfl, _, rfl, sF (by simp only [Sg.sign]; decide +kernel) ⟨_, rfl, rfl, _, rfl, sF (by simp only [Sg.sign]; decide +kernel) ⟨_, rfl, rfl, _, rfl, sT rfl ⟨_, rfl, _, rfl, p, _, 0, .int (k : Nat), rfl, rfl, h2, atI_nat (j := 0) rfl, aW, _, k, _, rfl, rfl, hW, at_map (hp k (by simp [Sg.parts])), _, rfl, _, _, rfl, rfl, q _ rfl⟩⟩⟩⟩⟩⟩⟩
    | outside k =>
      refine ⟨_, rfl, rfl, _, rfl, sF (by simp only [Sg.sign]; decide +kernel) ⟨_, rfl, rfl, _, rfl, sF (by simp only [Sg.sign]; decide +kernel) ⟨_, rfl, rfl, _, rfl, sF (by simp only [Sg.sign]; decide +kernel) ⟨_, rfl, rfl, _, rfl, sF (by simp only [Sg.sign]; decide +kernel) ⟨_, rfl, rfl, _, rfl, sT rfl ⟨_, rfl, _, rfl, p, _, 0, .int (k : Nat), rfl, rfl, h2, atI_nat (j := 0) rfl, aW, _, k, _, rfl, rfl, hW, at_map (hp k (by simp [Sg.parts])), _, _, rfl, rfl, ?_⟩⟩⟩⟩⟩⟩
      refine q _ ?_
      show _ = Builtin.bitXor ((fullN : Nat) : Int) (ws.getD k 0)
      rw [← full_is]
    | either j k =>
      refine ⟨_, rfl, rfl, _, rfl, sF (by simp only [Sg.sign]; decide +kernel) ⟨_, rfl, rfl, _, rfl, sT rfl ⟨_, rfl, _, rfl, p, _, 0, .int (j : Nat), rfl, rfl, h2, atI_nat (j := 0) rfl, aW, _, j, _, rfl, rfl, hW, at_map (hp j (by simp [Sg.parts])), _, rfl, _, rfl, p, _, 1, .int (k : Nat), rfl, rfl, h2, atI_nat (j := 1) rfl, aW, _, k, _, rfl, rfl, hW, at_map (hp k (by simp [Sg.parts])), _, _, rfl, rfl, q _ rfl⟩⟩⟩
    | both j k =>
      refine ⟨_, rfl, rfl, _, rfl, sF (by simp only [Sg.sign]; decide +kernel) ⟨_, rfl, rfl, _, rfl, sF (by simp only [Sg.sign]; decide +kernel) ⟨_, rfl, rfl, _, rfl, sT rfl ⟨_, rfl, _, rfl, p, _, 0, .int (j : Nat), rfl, rfl, h2, atI_nat (j := 0) rfl, aW, _, j, _, rfl, rfl, hW, at_map (hp j (by simp [Sg.parts])), _, rfl, _, rfl, p, _, 1, .int (k : Nat), rfl, rfl, h2, atI_nat (j := 1) rfl, aW, _, k, _, rfl, rfl, hW, at_map (hp k (by simp [Sg.parts])), _, _, rfl, rfl, q _ rfl⟩⟩⟩⟩
    | minus j k =>
      refine ⟨_, rfl, rfl, _, rfl, sF (by simp only [Sg.sign]; decide +kernel) ⟨_, rfl, rfl, _, rfl, sF (by simp only [Sg.sign]; decide +kernel) ⟨_, rfl, rfl, _, rfl, sF (by simp only [Sg.sign]; decide +kernel) ⟨_, rfl, rfl, _, rfl, sT rfl ⟨_, rfl, _, rfl, p, _, 0, .int (j : Nat), rfl, rfl, h2, atI_nat (j := 0) rfl, aW, _, j, _, rfl, rfl, hW, at_map (hp j (by simp [Sg.parts])), _, rfl, _, rfl, p, _, 1, .int (k : Nat), rfl, rfl, h2, atI_nat (j := 1) rfl, aW, _, k, _, rfl, rfl, hW, at_map (hp k (by simp [Sg.parts])), _, rfl, _, _, rfl, rfl, q _ rfl⟩⟩⟩⟩⟩
theorem scAsked : FnScope ["number", "step", "sign", "parts", "_"] ["number", "step"] (defScope s_step_asked) := ⟨rfl, rfl, rfl, by decide +kernel, rfl, by decide +kernel, by decide +kernel⟩
theorem ok_asked {f : Addr} {fd : FuncData} (F : Fun K "step_asked" "step_asked" s_step_asked f fd) : FnOk P w K mg base CX0 1 f fd ["number", "step"] (spAsked K) := by
  refine F.ok scAsked (fun vs H Q E h => ?_) (fun cdv A outer s H vs Q E hr h => ?_)
  · obtain ⟨n, a, g, rfl, _⟩ := h
    rfl
  · obtain ⟨n, a, g, rfl, hs, q⟩ := h
    obtain ⟨p, qn, h1, h2, h3⟩ := hs
    refine ⟨_, pss_cons (ps_asg (pv 1) (pg_tup rfl (pgs_cons (pg_name (i := 2) scAsked.nd rfl (.inl rfl)) (pgs_cons (pg_name (i := 3) scAsked.nd rfl (.inl rfl)) (pgs_cons (pg_name (i := 4) scAsked.nd rfl (.inl rfl)) pgs_nil))))) <|
      pss_cons (ps_if (pt_cmpR op_eq (pv 2) pe_str (nomark _)) (pss_one (ps_ret (pe_ix ix_tup (pv 3) pe_int (fun _ _ => rfl)))) pss_nil) <|
      pss_one (ps_ret (pe_ifExp (pt_cmpR op_eq (pv 2) pe_str (nomark _)) (pv 0) pe_non)), ?_⟩
    refine ⟨_, rfl, a, _, rfl, h1, rfl, _, _, rfl, _, _, rfl, _, _, rfl, rfl, ?_⟩
    cases g with
    | lists k => exact ⟨_, rfl, rfl, _, rfl, sT rfl ⟨_, rfl, p, _, 0, .int (k : Nat), rfl, rfl, h2, atI_nat (j := 0) rfl, q⟩⟩
    | nested k => exact ⟨_, rfl, rfl, _, rfl, sF (by simp only [Sg.sign]; decide +kernel) ⟨_, rfl, rfl, _, rfl, sT rfl ⟨_, rfl, q⟩⟩⟩
    | _ => exact ⟨_, rfl, rfl, _, rfl, sF (by simp only [Sg.sign]; decide +kernel) ⟨_, rfl, rfl, _, rfl, sF (by simp only [Sg.sign]; decide +kernel) q⟩⟩
theorem scHasRow : FnScope ["step", "many"] ["step"] (defScope s_has_row) := ⟨rfl, rfl, rfl, by decide +kernel, rfl, by decide +kernel, by decide +kernel⟩
def numsL (lo : Nat) (hi : Option Nat) : Nat → List Int
  | 0 => []
  | 1 => [(lo : Int)]
  | _ => (lo : Int) :: (match hi with | .none => [] | some h => [(h : Int)])
theorem ok_hasRow {f : Addr} {fd : FuncData} {t1 : Tok} (F : Fun K "has_row" "has_row" s_has_row f fd) (gL : mg "LONG" = some (.int 4 t1)) (gM : mg "max" = none) : FnOk P w K mg base CX0 1 f fd ["step"] (spHasRow K) := by
  refine F.ok scHasRow (fun vs H Q E h => ?_) (fun cdv A outer s H vs Q E hr h => ?_)
  · obtain ⟨a, g, rfl, _⟩ := h
    rfl
  · obtain ⟨a, g, rfl, hs, hf, q⟩ := h
    obtain ⟨p, qn, h1, h2, h3⟩ := hs
    refine ⟨_, pss_one (ps_ret (pe_or (pe_cmpR op_ne (pe_ix ix_tup (pv 0) pe_int (fun _ _ => rfl)) pe_str (nomark _)) (pe_one (pe_cmpR op_lt (pe_callB (call_maxI rfl) (by rfl) gM (by decide +kernel) (pa_cons
      (pe_lc (own := [("many", 1)]) (g := gName 1) (tt := tB (tNotN (tVar 1))) (te := tVar 1) rfl scHasRow.nd (pi_tup (pe_ix ix_tup (pv 0) pe_int (fun _ _ => rfl))) (blkOk_by (own := [("many", 1)]) (N := ["step", "many"]) (sc := defScope s_has_row) (by decide +kernel))
        (fun _ _ _ _ _ => pg_name (i := 1) scHasRow.nd rfl (Or.inl rfl)) (fun _ _ _ _ _ => pts_one (pt_cmp (pc_notN (pv 1)))) (fun _ _ _ _ _ => pv 1)) pa_nil)) (pe_glob (v := .int 4) (by rfl) gL ⟨_, rfl⟩) (nomark _))))), ?_⟩
    cases g with
    | texts lo hi =>
      refine ⟨_, rfl, a, _, 0, _, rfl, rfl, h1, atI_nat (j := 0) rfl, rfl, _, rfl, ?_⟩
      refine iteF ⟨_, rfl, a, _, 2, _, rfl, rfl, h1, atI_nat (j := 2) rfl, ?_⟩
      refine ⟨qn, rfl, ⟨_, h3⟩, fun D nD => lc_tup (K := K) (a := qn) (xs := [.int (lo : Nat), hiV hi]) (fun j H' => H' D = some (.lst ((numsL lo hi j).map V.int)) ∧ Same H H') ⟨upd_same, same_upd nD⟩ (fun j H' hj ⟨_, sm⟩ => same_sqt sm h3) ?_ ?_⟩
      · rintro j x H' hx ⟨hD, sm⟩
        have jl : j < 2 := (List.getElem?_eq_some_iff.mp hx).1
        have hj : j = 0 ∨ j = 1 := by omega
        rcases hj with rfl | rfl
        · cases hx
          exact ⟨rfl, _, rfl, _, rfl, iteT ⟨_, rfl, _, hD, (by show 0 < sizeLine; decide), upd_same, same_fresh nD sm⟩⟩
        · have ex : x = hiV hi := by simpa using hx.symm
          subst ex
          cases hi with
          | none => exact ⟨rfl, _, rfl, _, rfl, iteF ⟨hD, sm⟩⟩
          | some h => exact ⟨rfl, _, rfl, _, rfl, iteT ⟨_, rfl, _, hD, (by show 1 < sizeLine; decide), upd_same, same_fresh nD sm⟩⟩
      · rintro H' ⟨hD, sm⟩
        refine ⟨D, _, rfl, SqL.of hD, Nat.zero_lt_succ _, fun M hM _ => ?_⟩
        have h4 : M < 4 := by
          cases hi with
          | none =>
            have : M = (lo : Int) := by simpa [numsL] using hM
            have := hf.1
            omega
          | some h =>
            have : M = (lo : Int) ∨ M = (h : Int) := by simpa [numsL] using hM
            have := hf.1
            have := hf.2 h rfl
            omega
        refine ⟨_, _, rfl, rfl, ?_⟩
        show Q (.bl (decide (M < 4))) H'
        rw [decide_eq_true h4]
        exact q H' sm
    | _ => exact ⟨_, rfl, a, _, 0, _, rfl, rfl, h1, atI_nat (j := 0) rfl, rfl, _, rfl, iteT (q H (Same.refl _))⟩
end
end TX
namespace TX
open PySem PySem.Spec PyProof.Rows L2
/-! ### what a plan says of the steps -/
def nv : PyData → Bool := fun _ => false
/-- the values of a step, by those of the steps ahead of it -/
def Sg.pred (ps : List (PyData → Bool)) : Sg → PyData → Bool
  | .every => fun _ => true
  | .never => fun _ => false
  | .nothing => noneP
  | .texts lo hi => textP lo hi
  | .lists k => listsP (ps.getD k nv)
  | .nested k => nestP (ps.getD k nv)
  | .outside k => fun d => !(ps.getD k nv d)
  | .either j k => fun d => ps.getD j nv d || ps.getD k nv d
  | .both j k => fun d => ps.getD j nv d && ps.getD k nv d
  | .minus j k => fun d => ps.getD j nv d && !ps.getD k nv d
def predsOf : List (PyData → Bool) → List Sg → List (PyData → Bool)
  | ps, [] => ps
  | ps, g :: gs => predsOf (ps ++ [g.pred ps]) gs
def askP (ps : List (PyData → Bool)) (ak : List Nat) : List (PyData → Bool) := ak.map fun k => ps.getD k nv
structure PInv (ps : List (PyData → Bool)) (ak : List Nat) (ws : List Int) : Prop where
  len : ws.length = ps.length
  few : ak.length ≤ 8
  inn : ∀ k ∈ ak, k < ps.length
  row : ∀ (i : Nat) (r : Int) (p : PyData → Bool), ws[i]? = some r → ps[i]? = some p → RowOk (askP ps ak) r p
def askMore (ak : List Nat) : Option Nat → List Nat
  | .none => ak
  | some k => if k ∈ ak then ak else ak ++ [k]
theorem askMore_some {ak : List Nat} {k : Nat} : askMore ak (some k) = if k ∈ ak then ak else ak ++ [k] := rfl
def listsN (ak : List Nat) : Option Nat → Int
  | .none => 0
  | some k => ((allIn.getD (ak.idxOf k) 0 : Nat) : Int)
theorem getD_old {ps : List (PyData → Bool)} {q : PyData → Bool} {k : Nat} (h : k < ps.length) : (ps ++ [q]).getD k nv = ps.getD k nv := by
  rw [List.getD_eq_getElem?_getD, List.getD_eq_getElem?_getD, List.getElem?_append_left h]
theorem getD_new {ps : List (PyData → Bool)} {q : PyData → Bool} : (ps ++ [q]).getD ps.length nv = q := by
  rw [List.getD_eq_getElem?_getD, List.getElem?_append_right (Nat.le_refl _), Nat.sub_self]
  rfl
theorem askP_old {ps : List (PyData → Bool)} {q : PyData → Bool} {ak : List Nat} (h : ∀ k ∈ ak, k < ps.length) : askP (ps ++ [q]) ak = askP ps ak :=
  List.map_congr_left fun k hk => getD_old (h k hk)
theorem askMore_mem {ak : List Nat} {k : Nat} : k ∈ askMore ak (some k) := by
  rw [askMore_some]
  by_cases h : k ∈ ak
  · rw [if_pos h]
    exact h
  · rw [if_neg h]
    exact List.mem_append_right _ List.mem_cons_self
theorem askMore_in {ak : List Nat} {o : Option Nat} {n : Nat} (h : ∀ k ∈ ak, k < n) (ho : ∀ k, o = some k → k < n + 1) : ∀ k ∈ askMore ak o, k < n + 1 := by
  intro k hk
  cases o with
  | none =>
    have := h k hk
    omega
  | some j =>
    rw [askMore_some] at hk
    by_cases hj : j ∈ ak
    · rw [if_pos hj] at hk
      have := h k hk
      omega
    · rw [if_neg hj] at hk
      rcases List.mem_append.mp hk with z | z
      · have := h k z
        omega
      · rw [List.mem_singleton.mp z]
        exact ho j rfl
theorem askP_more {qs : List (PyData → Bool)} {ak : List Nat} {o : Option Nat} : ∃ r, askP qs (askMore ak o) = askP qs ak ++ r := by
  cases o with
  | none => exact ⟨[], by rw [List.append_nil]; rfl⟩
  | some k =>
    rw [askMore_some]
    by_cases h : k ∈ ak
    · rw [if_pos h]
      exact ⟨[], by rw [List.append_nil]⟩
    · rw [if_neg h]
      exact ⟨[qs.getD k nv], by simp [askP]⟩
theorem askP_at {qs : List (PyData → Bool)} {ak : List Nat} {k : Nat} (h : k ∈ ak) : (askP qs ak)[ak.idxOf k]? = some (qs.getD k nv) := by
  have hl := List.idxOf_lt_length_of_mem h
  unfold askP
  rw [List.getElem?_map, List.getElem?_eq_getElem hl, List.getElem_idxOf hl]
  rfl
theorem asks_lt {g : Sg} {n k : Nat} (hp : ∀ j ∈ g.parts, j < n) (h : g.asks n = some k) : k < n + 1 := by
  cases g with
  | lists j =>
    have e : j = k := by simpa [Sg.asks] using h
    have := hp j (by simp [Sg.parts])
    omega
  | nested j =>
    have e : n = k := by simpa [Sg.asks] using h
    omega
  | _ => simp [Sg.asks] at h
theorem PInv.step {ps : List (PyData → Bool)} {ak : List Nat} {ws : List Int} (h : PInv ps ak ws) (g : Sg) (hf : g.few) (hp : ∀ k ∈ g.parts, k < ps.length) {r : Int} (h8 : (askMore ak (g.asks ps.length)).length ≤ 8)
    (hr : RowIs ws (listsN (askMore ak (g.asks ps.length)) (g.asks ps.length)) r g) : PInv (ps ++ [g.pred ps]) (askMore ak (g.asks ps.length)) (ws ++ [r]) := by
  have old : ∀ (i : Nat) (r' : Int) (p : PyData → Bool), ws[i]? = some r' → ps[i]? = some p → RowOk (askP (ps ++ [g.pred ps]) (askMore ak (g.asks ps.length))) r' p := by
    intro i r' p e1 e2
    obtain ⟨m, em⟩ := askP_more (qs := ps ++ [g.pred ps]) (ak := ak) (o := g.asks ps.length)
    rw [em, askP_old h.inn]
    exact (h.row i r' p e1 e2).more
  have at_ : ∀ k, k < ps.length → RowOk (askP (ps ++ [g.pred ps]) (askMore ak (g.asks ps.length))) (ws.getD k 0) (ps.getD k nv) := by
    intro k hk
    have hw : k < ws.length := by
      rw [h.len]
      exact hk
    have e1 := List.getElem?_eq_getElem hw
    have e2 := List.getElem?_eq_getElem hk
    have := old k _ _ e1 e2
    rw [List.getD_eq_getElem?_getD, List.getD_eq_getElem?_getD, e1, e2]
    exact this
  have nat_ : ∀ k, k < ps.length → ∃ a : Nat, ws.getD k 0 = (a : Int) ∧ RowOk (askP (ps ++ [g.pred ps]) (askMore ak (g.asks ps.length))) (a : Int) (ps.getD k nv) := by
    intro k hk
    have z := at_ k hk
    obtain ⟨a, ha⟩ := Int.eq_ofNat_of_zero_le z.1
    refine ⟨a, ha, ?_⟩
    rw [ha] at z
    exact z
  have new : RowOk (askP (ps ++ [g.pred ps]) (askMore ak (g.asks ps.length))) r (g.pred ps) := by
    cases g with
    | every =>
      obtain rfl : r = ((fullN : Nat) : Int) := hr
      exact rowOk_every
    | never =>
      obtain rfl : r = 0 := hr
      exact rowOk_never
    | nothing =>
      obtain rfl : r = 1 * 2 ^ 256 := hr
      exact rowOk_nothing
    | texts lo hi =>
      obtain ⟨n, rfl, ht⟩ := hr
      refine rowOk_texts hf.1 hf.2 ?_
      cases hi <;> exact ht
    | lists k =>
      have hk := hp k (by simp [Sg.parts])
      obtain rfl : r = ((allIn.getD ((askMore ak (some k)).idxOf k) 0 : Nat) : Int) := hr
      have hm : k ∈ askMore ak (some k) := askMore_mem
      have e := askP_at (qs := ps ++ [(Sg.lists k).pred ps]) hm
      rw [getD_old hk] at e
      exact rowOk_lists e (Nat.lt_of_lt_of_le (List.idxOf_lt_length_of_mem hm) h8)
    | nested k =>
      have hk := hp k (by simp [Sg.parts])
      obtain ⟨a, ha, ra⟩ := nat_ k hk
      have hr' : r = Builtin.bitOr (ws.getD k 0) ((allIn.getD ((askMore ak (some ps.length)).idxOf ps.length) 0 : Nat) : Int) := hr
      rw [ha] at hr'
      subst hr'
      have hm : ps.length ∈ askMore ak (some ps.length) := askMore_mem
      have e := askP_at (qs := ps ++ [(Sg.nested k).pred ps]) hm
      rw [getD_new] at e
      exact rowOk_nested ra e (Nat.lt_of_lt_of_le (List.idxOf_lt_length_of_mem hm) h8)
    | outside k =>
      obtain ⟨a, ha, ra⟩ := nat_ k (hp k (by simp [Sg.parts]))
      have hr' : r = Builtin.bitXor ((fullN : Nat) : Int) (ws.getD k 0) := hr
      rw [ha] at hr'
      subst hr'
      exact rowOk_outside ra
    | either j k =>
      obtain ⟨a, ha, ra⟩ := nat_ j (hp j (by simp [Sg.parts]))
      obtain ⟨b, hb, rb⟩ := nat_ k (hp k (by simp [Sg.parts]))
      have hr' : r = Builtin.bitOr (ws.getD j 0) (ws.getD k 0) := hr
      rw [ha, hb] at hr'
      subst hr'
      exact rowOk_or ra rb
    | both j k =>
      obtain ⟨a, ha, ra⟩ := nat_ j (hp j (by simp [Sg.parts]))
      obtain ⟨b, hb, rb⟩ := nat_ k (hp k (by simp [Sg.parts]))
      have hr' : r = Builtin.bitAnd (ws.getD j 0) (ws.getD k 0) := hr
      rw [ha, hb] at hr'
      subst hr'
      exact rowOk_and ra rb
    | minus j k =>
      obtain ⟨a, ha, ra⟩ := nat_ j (hp j (by simp [Sg.parts]))
      obtain ⟨b, hb, rb⟩ := nat_ k (hp k (by simp [Sg.parts]))
      have hr' : r = Builtin.bitAnd (ws.getD j 0) (Builtin.bitNot (ws.getD k 0)) := hr
      rw [ha, hb] at hr'
      subst hr'
      exact rowOk_minus ra rb
  refine ⟨by rw [List.length_append, List.length_append, h.len]; rfl, h8, ?_, ?_⟩
  · rw [List.length_append]
    exact askMore_in h.inn fun k e => asks_lt hp e
  · intro i r' p e1 e2
    by_cases hi : i < ps.length
    · rw [List.getElem?_append_left (by rw [h.len]; exact hi)] at e1
      rw [List.getElem?_append_left hi] at e2
      exact old i r' p e1 e2
    · have hlen := (List.getElem?_eq_some_iff.mp e2).1
      rw [List.length_append, List.length_singleton] at hlen
      have hi2 : i = ps.length := by omega
      subst hi2
      rw [List.getElem?_append_right (Nat.le_refl _), Nat.sub_self] at e2
      rw [List.getElem?_append_right (by rw [h.len]; exact Nat.le_refl _), h.len, Nat.sub_self] at e1
      cases e1
      cases e2
      exact new
/-- a plan as it stands -/
structure PlanF (K : PySem.W.Frag) (H : Hp) (pl : Addr) (ps : List (PyData → Bool)) (ak : List Nat) (ws : List Int) (aW aA aR aL : Addr) (ar : List Int) (lv : List Nat) : Prop where
  at_ : SqT K H pl [.ref aW, .ref aA, .ref aR, .ref aL]
  rows : SeqOr K H aW (ws.map V.int)
  askd : SeqOr K H aA (ak.map fun (n : Nat) => V.int n)
  arow : SqL K H aR (ar.map V.int) ∨ SqT K H aR [] ∧ ar = []
  leav : SeqOr K H aL (lv.map fun (n : Nat) => V.int n)
  six : lv.length = 6
  inv : PInv ps ak ws
  arr : ar = ak.map fun k => ws.getD k 0
  ok : ∀ n, n < 6 → lv.getD n 0 = toldN (256 + n) ar
theorem SeqOr.up {K : PySem.W.Frag} {H G : Hp} {a : Addr} {xs : List V} (h : SeqOr K H a xs) (s : Same H G) : SeqOr K G a xs := h.imp (fun z => s.seq z) fun z => same_sqt s z
theorem PlanF.up {K : PySem.W.Frag} {H G : Hp} {pl : Addr} {ps : List (PyData → Bool)} {ak : List Nat} {ws : List Int} {aW aA aR aL : Addr} {ar : List Int} {lv : List Nat} (h : PlanF K H pl ps ak ws aW aA aR aL ar lv) (s : Same H G) : PlanF K G pl ps ak ws aW aA aR aL ar lv :=
  ⟨same_sqt s h.at_, h.rows.up s, h.askd.up s, h.arow.imp (fun z => s.seq z) fun z => ⟨same_sqt s z.1, z.2⟩, h.leav.up s, h.six, h.inv, h.arr, h.ok⟩
theorem PInv.asked {ps : List (PyData → Bool)} {ak : List Nat} {ws : List Int} (h : PInv ps ak ws) {lv : List Nat} (hl : ∀ n, n < 6 → lv.getD n 0 = toldN (256 + n) (ak.map fun k => ws.getD k 0)) : Asked (askP ps ak) (ak.map fun k => ws.getD k 0) lv := by
  refine ⟨by simp [askP], by simp [askP]; exact h.few, fun k r p e1 e2 => ?_, hl⟩
  unfold askP at e2
  rw [List.getElem?_map] at e1 e2
  cases e3 : ak[k]? with
  | none =>
    rw [e3] at e1
    cases e1
  | some j =>
    rw [e3] at e1 e2
    have hj := h.inn j (List.mem_of_getElem? e3)
    have hw : j < ws.length := by
      rw [h.len]
      exact hj
    have f1 := List.getElem?_eq_getElem hw
    have f2 := List.getElem?_eq_getElem hj
    have g1 : ws.getD j 0 = r := Option.some.inj e1
    have g2 : ps.getD j nv = p := Option.some.inj e2
    rw [List.getD_eq_getElem?_getD, f1] at g1
    rw [List.getD_eq_getElem?_getD, f2] at g2
    have := h.row j _ _ f1 f2
    rw [show ws[j] = r from g1, show ps[j] = p from g2] at this
    exact this
/-- what is_member takes -/
theorem PlanF.at_last {K : PySem.W.Frag} {H : Hp} {pl : Addr} {ps : List (PyData → Bool)} {ak : List Nat} {ws : List Int} {aW aA aR aL : Addr} {ar : List Int} {lv : List Nat} {p : PyData → Bool} (h : PlanF K H pl (ps ++ [p]) ak ws aW aA aR aL ar lv) (hw : SqL K H aW (ws.map V.int)) :
    ∃ row, PlanAt K H pl (askP (ps ++ [p]) ak) p aW (.ref aA) aR aL ws ar lv row := by
  have hl := h.inv.len
  rw [List.length_append, List.length_singleton] at hl
  have hi : ps.length < ws.length := by omega
  have e1 := List.getElem?_eq_getElem hi
  have e2 : (ps ++ [p])[ps.length]? = some p := by
    rw [List.getElem?_append_right (Nat.le_refl _), Nat.sub_self]
    rfl
  refine ⟨ws[ps.length], h.at_, hw, ?_, h.inv.row _ _ _ e1 e2, h.arow, h.leav, h.six, ?_⟩
  · rw [List.getLast?_eq_getElem?, show ws.length - 1 = ps.length by omega]
    exact e1
  · have a := h.arr
    subst a
    exact h.inv.asked h.ok
end TX
namespace TX
open PySem PySem.Spec PyProof.Rows L2
theorem pe_cut {X : Cx} {e : Expr} {t : TE} (h : PE X e t) : PE X e (fun σ H Q => ∃ R : VK, t σ H R ∧ ∀ v H', R v H' → Q v H') :=
  ⟨fun pins s σ H Q I ⟨R, h1, h2⟩ => thn (h.run pins s σ H R I h1) fun v s1 ⟨x, H1, I1, r1, q1⟩ => ⟨x, H1, I1, r1, h2 _ _ q1⟩⟩
theorem predsOf_snoc : ∀ (gs : List Sg) (ps : List (PyData → Bool)) (g : Sg), predsOf ps (gs ++ [g]) = predsOf ps gs ++ [g.pred (predsOf ps gs)]
  | [], ps, g => rfl
  | h :: gs, ps, g => by
    simp only [List.cons_append, predsOf]
    exact predsOf_snoc gs _ g
theorem predsOf_len : ∀ (gs : List Sg) (ps : List (PyData → Bool)), (predsOf ps gs).length = ps.length + gs.length
  | [], ps => by simp [predsOf]
  | h :: gs, ps => by
    simp only [predsOf, List.length_cons]
    rw [predsOf_len gs, List.length_append, List.length_singleton]
    omega
def Sg.askB : Sg → Nat
  | .lists _ => 1
  | .nested _ => 1
  | _ => 0
def asksN : List Sg → Nat
  | [] => 0
  | g :: gs => g.askB + asksN gs
theorem asksN_snoc : ∀ (gs : List Sg) (g : Sg), asksN (gs ++ [g]) = asksN gs + g.askB
  | [], g => by simp [asksN]
  | h :: gs, g => by
    simp only [List.cons_append, asksN, asksN_snoc gs g]
    omega
theorem asksN_take (gs : List Sg) : ∀ i, asksN (gs.take i) ≤ asksN gs := by
  induction gs with
  | nil => intro i; simp [asksN]
  | cons g gs ih =>
    intro i
    cases i with
    | zero => simp [asksN]
    | succ i =>
      simp only [List.take_succ_cons, asksN]
      have := ih i
      omega
theorem askMore_len {ak : List Nat} {g : Sg} {n : Nat} : (askMore ak (g.asks n)).length ≤ ak.length + g.askB := by
  have one : ∀ k, (askMore ak (some k)).length ≤ ak.length + 1 := by
    intro k
    rw [askMore_some]
    by_cases h : k ∈ ak
    · rw [if_pos h]
      omega
    · rw [if_neg h, List.length_append, List.length_singleton]
      exact Nat.le_refl _
  cases g with
  | lists k => exact one k
  | nested k => exact one n
  | _ => exact Nat.le_refl _
theorem askMore_pre {ak : List Nat} {o : Option Nat} : ∃ r, askMore ak o = ak ++ r := by
  cases o with
  | none => exact ⟨[], by rw [List.append_nil]; rfl⟩
  | some k =>
    rw [askMore_some]
    by_cases h : k ∈ ak
    · rw [if_pos h]
      exact ⟨[], by rw [List.append_nil]⟩
    · rw [if_neg h]
      exact ⟨[k], rfl⟩
theorem inV_nat {k : Nat} {ak : List Nat} : inV (.int (k : Nat)) (ak.map fun (n : Nat) => V.int n) = decide (k ∈ ak) := by
  unfold inV
  rw [List.any_map, Bool.eq_iff_iff, List.any_eq_true, decide_eq_true_eq]
  constructor
  · rintro ⟨j, hj, e⟩
    have e2 : ((j : Int) == (k : Int)) = true := e
    have : (j : Int) = (k : Int) := eq_of_beq e2
    have : j = k := by omega
    exact this ▸ hj
  · exact fun h => ⟨k, h, beq_self_eq_true (k : Int)⟩
theorem flat_nats (ak : List Nat) : (ak.map fun (n : Nat) => V.int n).all flatV = true := by
  rw [List.all_map, List.all_eq_true]
  exact fun _ _ => rfl
theorem idxOf_first : ∀ {ak : List Nat} {k m : Nat}, m < ak.idxOf k → ∀ j, ak[m]? = some j → j ≠ k
  | [], _, _, _, j, e => by simp at e
  | a :: ak, k, 0, h, j, e => by
    have e1 : a = j := by simpa using e
    intro z
    rw [e1, z, List.idxOf_cons_self] at h
    exact absurd h (by omega)
  | a :: ak, k, m + 1, h, j, e => by
    have e1 : ak[m]? = some j := by simpa using e
    by_cases z : a = k
    · rw [z, List.idxOf_cons_self] at h
      exact absurd h (by omega)
    · rw [List.idxOf_cons, show (a == k) = false from beq_eq_false_iff_ne.mpr z, cond_false] at h
      exact idxOf_first (by omega) j e1
theorem sqt_del {K : PySem.W.Frag} {H : Hp} {a r : Addr} {xs ys : List V} (h : SqT K H a xs) (hr : H r = some (.lst ys)) : SqT K (del H r) a xs := by
  rcases h with (h | ⟨o, h⟩) | h
  · have e : a ≠ r := fun z => by
      rw [z, hr] at h
      cases h
    exact .inl (.inl (by rw [del_ne e]; exact h))
  · have e : a ≠ r := fun z => by
      rw [z, hr] at h
      cases h
    exact .inl (.inr ⟨o, by rw [del_ne e]; exact h⟩)
  · exact .inr h
/-- two lists under way -/
structure Tw (B H' : Hp) (r1 r2 : Addr) (xs ys : List V) : Prop where
  k : ∀ b o, b ≠ r1 → b ≠ r2 → B b = some o → H' b = some o
  f1 : H' r1 = some (.lst xs)
  f2 : H' r2 = some (.lst ys)
theorem Tw.up {B H' G : Hp} {r1 r2 : Addr} {xs ys : List V} (h : Tw B H' r1 r2 xs ys) (s : Same H' G) : Tw B G r1 r2 xs ys := ⟨fun b o h1 h2 e => s _ _ (h.k b o h1 h2 e), s _ _ h.f1, s _ _ h.f2⟩
theorem Tw.set1 {B H' : Hp} {r1 r2 : Addr} {xs ys zs : List V} (h : Tw B H' r1 r2 xs ys) (hn : r1 ≠ r2) : Tw B (upd H' r1 (.lst zs)) r1 r2 zs ys := ⟨fun b o h1 h2 e => by rw [upd_ne h1]; exact h.k b o h1 h2 e, upd_same, by rw [upd_ne hn.symm]; exact h.f2⟩
theorem Tw.set2 {B H' : Hp} {r1 r2 : Addr} {xs ys zs : List V} (h : Tw B H' r1 r2 xs ys) (hn : r1 ≠ r2) : Tw B (upd H' r2 (.lst zs)) r1 r2 xs zs := ⟨fun b o h1 h2 e => by rw [upd_ne h2]; exact h.k b o h1 h2 e, by rw [upd_ne hn]; exact h.f1, upd_same⟩
theorem Tw.same {B H' H : Hp} {r1 r2 : Addr} {xs ys : List V} (h : Tw B H' r1 r2 xs ys) (s : Same H B) (n1 : H r1 = none) (n2 : H r2 = none) : Same H H' := fun b o e => h.k b o (ne_of_none e n1) (ne_of_none e n2) (s _ _ e)
theorem Tw.tup {K : PySem.W.Frag} {B H' : Hp} {r1 r2 a : Addr} {xs ys zs us ws : List V} (h : Tw B H' r1 r2 xs ys) (ha : SqT K B a zs) (b1 : B r1 = some (.lst us)) (b2 : B r2 = some (.lst ws)) : SqT K H' a zs := by
  have ne : ∀ o, B a = some o → (∀ l, o ≠ .lst l) → a ≠ r1 ∧ a ≠ r2 := fun o e hl => ⟨fun z => by rw [z, b1] at e; exact hl _ (Option.some.inj e).symm, fun z => by rw [z, b2] at e; exact hl _ (Option.some.inj e).symm⟩
  rcases ha with (ha | ⟨o, ha⟩) | ha
  · obtain ⟨n1, n2⟩ := ne _ ha (fun l z => nomatch z)
    exact .inl (.inl (h.k _ _ n1 n2 ha))
  · obtain ⟨n1, n2⟩ := ne _ ha (fun l z => nomatch z)
    exact .inl (.inr ⟨o, h.k _ _ n1 n2 ha⟩)
  · exact .inr ha
theorem cut_from (xs : List V) (n : Nat) : cutV xs (some (n : Int)) none = xs.drop n := by
  unfold cutV
  rw [HT.sIx_nat, HT.sIx_none]
  by_cases h : n ≤ xs.length
  · rw [Nat.min_eq_left h]
    exact List.take_of_length_le (by rw [List.length_drop]; exact Nat.le_refl _)
  · rw [Nat.min_eq_right (by omega), Nat.sub_self, List.take_zero, List.drop_eq_nil_of_le (by omega)]
theorem cut_all {xs : List V} {n : Nat} (h : HT.sIx xs.length 0 (some (n : Int)) = 0) : xs.drop n = xs := by
  rw [HT.sIx_nat] at h
  have : n = 0 ∨ xs.length = 0 := by omega
  rcases this with rfl | z
  · rfl
  · rw [List.length_eq_zero_iff.mp z]
    exact List.drop_nil
/-- what is new behind H, and what stood in Hv -/
def ov (H Hv H' : Hp) : Hp := fun b => match H b with
  | none => H' b
  | some _ => Hv b
theorem ov_new {H Hv H' : Hp} {b : Addr} (h : H b = none) : ov H Hv H' b = H' b := by
  unfold ov
  rw [h]
theorem ov_old {H Hv H' : Hp} {b : Addr} {o : HO} (h : H b = some o) : ov H Hv H' b = Hv b := by
  unfold ov
  rw [h]
theorem ov_sub {H Hv H' : Hp} (s : Same Hv H) : Same Hv (ov H Hv H') := fun b o e => by
  rw [ov_old (s _ _ e)]
  exact e
theorem ov_same {H Hv H' : Hp} (s : Same Hv H) (s1 : Same H H') : Same (ov H Hv H') H' := fun b o e => by
  cases h : H b with
  | none =>
    rw [ov_new h] at e
    exact e
  | some u =>
    rw [ov_old h] at e
    exact s1 _ _ (s _ _ e)
theorem ov_more {H Hv H1 H2 : Hp} (s : Same H1 H2) : Same (ov H Hv H1) (ov H Hv H2) := fun b o e => by
  cases h : H b with
  | none =>
    rw [ov_new h] at e ⊢
    exact s _ _ e
  | some u =>
    rw [ov_old h] at e ⊢
    exact e
theorem ov_step {H Hv H1 H2 : Hp} (s1 : Same H H1) (s2 : Same H1 H2) : Same (ov H1 (ov H Hv H1) H2) (ov H Hv H2) := fun b o e => by
  cases h1 : H1 b with
  | none =>
    rw [ov_new h1] at e
    rw [ov_new (s1.free h1)]
    exact e
  | some u =>
    rw [ov_old h1] at e
    exact ov_more s2 _ _ e
def LongQ (K : PySem.W.Frag) (H Hv : Hp) (ps : List (PyData → Bool)) (m : Nat) (Q : VK) : Prop := ∀ (H' : Hp) (pl aW aA aR aL : Addr) (ak : List Nat) (ws ar : List Int) (lv : List Nat), Same H H' → PlanF K (ov H Hv H') pl ps ak ws aW aA aR aL ar lv → SqL K (ov H Hv H') aW (ws.map V.int) → ak.length ≤ m → Q (.ref pl) H'
structure Recipe (K : PySem.W.Frag) (H : Hp) (rc : Addr) (as : List Addr) (gs : List Sg) : Prop where
  at_ : SqT K H rc (as.map V.ref)
  len : as.length = gs.length
  step : ∀ (i : Nat) (g : Sg) (a : Addr), gs[i]? = some g → as[i]? = some a → StepAt K H a g
  few : ∀ g ∈ gs, g.few
  part : ∀ (i : Nat) (g : Sg), gs[i]? = some g → ∀ k ∈ g.parts, k < i
theorem Recipe.up {K : PySem.W.Frag} {H G : Hp} {rc : Addr} {as : List Addr} {gs : List Sg} (h : Recipe K H rc as gs) (s : Same H G) : Recipe K G rc as gs :=
  ⟨same_sqt s h.at_, h.len, fun i g a e1 e2 => (h.step i g a e1 e2).up s, h.few, h.part⟩
def spLonger (K : PySem.W.Frag) : Sp := fun vs H Q _ => ∃ (pl rc aW aA aR aL : Addr) (ak : List Nat) (ws ar : List Int) (lv : List Nat) (as : List Addr) (g0 gs : List Sg) (Hv : Hp), vs = [.ref pl, .ref rc] ∧ Same Hv H ∧ PlanF K Hv pl (predsOf [] g0) ak ws aW aA aR aL ar lv ∧ Recipe K Hv rc as (g0 ++ gs) ∧
  as.length ≤ 1000 ∧ ak.length + asksN gs ≤ 8 ∧ LongQ K H Hv (predsOf [] (g0 ++ gs)) (ak.length + asksN gs) Q
section
variable {P : Program} {w : World} {K : PySem.W.Frag} {mg : Str → Option Value} {base : Heap}
theorem scLonger : FnScope ["plan", "recipe", "rows", "asked", "step", "inner", "asked_rows", "number", "look"] ["plan", "recipe"] (defScope s_longer_plan) := ⟨rfl, rfl, rfl, by decide +kernel, rfl, by decide +kernel, by decide +kernel⟩
theorem ok_longer {f fA fH fR fT aI aV : Addr} {fd dA dH dR dT : FuncData} {t1 : Tok} (F : Fun K "longer_plan" "longer_plan" s_longer_plan f fd) (T : Nm mg) (B : Nb mg) (gM : mg "MOST_ASKED" = some (.int 8 t1)) (gI : mg "ALL_IN" = some (.ref aI)) (hI : ∀ H, SqT K H aI (allIn.map fun (n : Nat) => V.int n))
    (gV : mg "LEAVES" = some (.ref aV)) (hV : ∀ H, SqT K H aV leavesL)
    (GA : FnOk P w K mg base CX0 1 fA dA ["number", "step"] (spAsked K)) (gA : mg "step_asked" = some (.ref fA)) (kA : PySem.W.keepIn K (.ref fA) = true) (bA : Binds K dA ["number", "step"] [])
    (GH : FnOk P w K mg base CX0 1 fH dH ["step"] (spHasRow K)) (gH : mg "has_row" = some (.ref fH)) (kH : PySem.W.keepIn K (.ref fH) = true) (bH : Binds K dH ["step"] [])
    (GR : FnOk P w K mg base CX0 2 fR dR ["step", "rows", "lists"] (spRow K)) (gR : mg "row_of_step" = some (.ref fR)) (kR : PySem.W.keepIn K (.ref fR) = true) (bR : Binds K dR ["step", "rows", "lists"] [])
    (GT : FnOk P w K mg base CX0 1 fT dT ["rows", "look"] (spToldN K)) (gT : mg "told_by" = some (.ref fT)) (kT : PySem.W.keepIn K (.ref fT) = true) (bT : Binds K dT ["rows", "look"] []) :
    FnOk P w K mg base CX0 3 f fd ["plan", "recipe"] (spLonger K) := by
  refine F.ok scLonger (fun vs H Q E h => ?_) (fun cdv A outer s H vs Q E hr h => ?_)
  · obtain ⟨pl, rc, aW, aA, aR, aL, ak, ws, ar, lv, as, g0, gs, Hv, rfl, _⟩ := h
    rfl
  · obtain ⟨pl, rc, aW, aA, aR, aL, ak, ws, ar, lv, as, g0, gs, Hv, rfl, sv, PF0, RC0, has, h8, q⟩ := h
    have PF := PF0.up sv
    have RC := RC0.up sv
    have r1 : Room 1 _ := hr.mono (by decide)
    refine ⟨_, pss_cons (ps_if (pt_cmp (pc_isN (pv 0))) (pss_one (ps_ret pe_non)) pss_nil) <|
      pss_cons (ps_set (i := 2) scLonger.nd rfl (.inr rfl) (pe_callTy call_list_of (by rfl) T.lst (by decide +kernel) (pa_cons (pe_ix ix_tup (pv 0) pe_int (fun _ _ => rfl)) pa_nil))) <|
      pss_cons (ps_set (i := 3) scLonger.nd rfl (.inl rfl) (pe_callTy call_list_of (by rfl) T.lst (by decide +kernel) (pa_cons (pe_ix ix_tup (pv 0) pe_int (fun _ _ => rfl)) pa_nil))) <|
      pss_cons (ps_for PassesOwn.never rfl (pi_tup (pe_cut (pe_slice sl_tupA (pv 1) (po_some (pe_callB call_len_seq (by rfl) B.len PySem.boot_len (pa_cons (pv 2) pa_nil))) po_none))) (pg_name (i := 4) scLonger.nd rfl (.inl rfl)) (
        pss_cons (ps_set (i := 5) scLonger.nd rfl (.inl rfl) (pe_call GA r1 (by rfl) gA kA bA .nil pass0 (pa_cons (pe_callB call_len_seq (by rfl) B.len PySem.boot_len (pa_cons (pv 2) pa_nil)) (pa_cons (pv 4) pa_nil)))) <|
        C8.pss_cut (ps_if (PW.pt (pw_and (pt_cmp (pc_notN (pv 5))) (pw_and1 (pt_cmpR op_notIn_seq (pv 5) (pv 3) (by rfl))))) (pss_one (ps_expr (pe_bm PySem.F.plainAttrs_list PySem.F.slot_list_append PySem.F.type_list_append mt_append (pv 3) (pa_cons (pv 5) pa_nil)))) pss_nil) <|
        pss_cons (ps_if (PW.pt (pw_or (pt_cmpR op_gt (pe_callB call_len_seq (by rfl) B.len PySem.boot_len (pa_cons (pv 3) pa_nil)) (pe_glob (v := .int 8) (by rfl) gM ⟨_, rfl⟩) (nomark _)) (pw_or1 (pt_not (pt_val (pe_call GH r1 (by rfl) gH kH bH .nil pass0 (pa_cons (pv 4) pa_nil))))))) (pss_one (ps_ret pe_non)) pss_nil) <|
        pss_one (ps_expr (pe_bm PySem.F.plainAttrs_list PySem.F.slot_list_append PySem.F.type_list_append mt_append (pv 2) (pa_cons (pe_call GR hr (by rfl) gR kR bR .nil pass0 (pa_cons (pv 4) (pa_cons (pv 2) (pa_cons
          (pe_ifExp (pt_cmp (pc_isN (pv 5))) pe_int (pe_ix ix_tup (pe_glob (v := .ref aI) (by rfl) gI rfl) (pe_bm PySem.F.plainAttrs_list PySem.F.slot_list_index PySem.F.type_list_index mt_index (pv 3) (pa_cons (pv 5) pa_nil)) (fun _ _ => rfl))) pa_nil)))) pa_nil))))) <|
      pss_cons (ps_if (pt_cmpR op_eq (pe_callB call_len_seq (by rfl) B.len PySem.boot_len (pa_cons (pv 3) pa_nil)) (pe_callB call_len_seq (by rfl) B.len PySem.boot_len (pa_cons (pe_ix ix_tup (pv 0) pe_int (fun _ _ => rfl)) pa_nil)) (nomark _))
        (pss_one (ps_ret (pe_tup (pa_cons (pv 2) (pa_cons (pv 3) (pa_cons (pe_ix ix_tup (pv 0) pe_int (fun _ _ => rfl)) (pa_cons (pe_ix ix_tup (pv 0) pe_int (fun _ _ => rfl)) pa_nil))))))) pss_nil) <|
      pss_cons (ps_set (i := 6) scLonger.nd rfl (.inr rfl) (pe_lc (own := [("number", 7)]) (g := gName 7) (tt := tYes) (te := tOp (rIxL K) (tVar 2) (tVar 7)) rfl scLonger.nd (pi_list (pv 3)) (blkOk_by (own := [("number", 7)]) (N := ["plan", "recipe", "rows", "asked", "step", "inner", "asked_rows", "number", "look"]) (sc := defScope s_longer_plan) (by decide +kernel))
        (fun _ _ _ _ _ => pg_name (i := 7) scLonger.nd rfl (Or.inl rfl)) (fun _ _ _ _ _ => pts_nil) (fun _ _ _ _ _ => pe_ix ix_list (pv 2) (pv 7) (fun _ _ => rfl)))) <|
      pss_one (ps_ret (pe_tup (pa_cons (pv 2) (pa_cons (pv 3) (pa_cons (pv 6) (pa_cons (pe_lc (own := [("look", 8)]) (g := gName 8) (tt := tYes) (te := tCall (spToldN K) [] E0 (tCons (tVar 6) (tCons (tVar 8) tNil))) rfl scLonger.nd (pi_tup (pe_glob (v := .ref aV) (by rfl) gV rfl)) (blkOk_by (own := [("look", 8)]) (N := ["plan", "recipe", "rows", "asked", "step", "inner", "asked_rows", "number", "look"]) (sc := defScope s_longer_plan) (by decide +kernel))
        (fun _ _ _ _ _ => pg_name (i := 8) scLonger.nd rfl (Or.inl rfl)) (fun _ _ _ _ _ => pts_nil) (fun _ _ _ _ _ => pe_call GT r1 (by rfl) gT kT bT .nil pass0 (pa_cons (pv 6) (pa_cons (pv 8) pa_nil)))) pa_nil)))))), ?_⟩
    have n0 : (predsOf [] g0).length = g0.length := by
      rw [predsOf_len]
      simp
    have wl : ws.length = g0.length := by rw [PF.inv.len, n0]
    refine ⟨_, rfl, _, rfl, iteF ?_⟩
    refine ⟨_, rfl, pl, _, 0, _, rfl, rfl, PF.at_, atI_nat (j := 0) rfl, aW, _, rfl, PF.rows, fun rR nR => ?_⟩
    have s1 := same_upd (o := .lst (ws.map V.int)) nR
    refine ⟨_, rfl, pl, _, 1, _, rfl, rfl, same_sqt s1 PF.at_, atI_nat (j := 1) rfl, aA, _, rfl, PF.askd.up s1, fun rA nA => ?_⟩
    have s2 := s1.trans (same_upd (o := .lst (ak.map fun (n : Nat) => V.int n)) nA)
    have fR1 : (upd H rR (.lst (ws.map V.int))) rR = some (.lst (ws.map V.int)) := upd_same
    have hne : rR ≠ rA := ne_of_none fR1 nA
    have nA0 : H rA = none := s1.free nA
    have fR2 : (upd (upd H rR (.lst (ws.map V.int))) rA (.lst (ak.map fun (n : Nat) => V.int n))) rR = some (.lst (ws.map V.int)) := by
      rw [upd_ne hne]
      exact fR1
    have fA2 : (upd (upd H rR (.lst (ws.map V.int))) rA (.lst (ak.map fun (n : Nat) => V.int n))) rA = some (.lst (ak.map fun (n : Nat) => V.int n)) := upd_same
    generalize upd (upd H rR (.lst (ws.map V.int))) rA (.lst (ak.map fun (n : Nat) => V.int n)) = B0 at s2 fR2 fA2
    refine ⟨fun v H' => ∃ a, v = .ref a ∧ Same B0 H' ∧ SqT K H' a ((as.drop g0.length).map V.ref), ?_, ?_⟩
    · refine ⟨_, rfl, _, rfl, rR, _, rfl, .inl (SqL.of fR2), _, rfl, rc, _, rfl, same_sqt s2 RC.at_, fun hw => ?_, fun hw p np => ?_⟩
      · refine ⟨rc, rfl, Same.refl _, ?_⟩
        have e := cut_all hw.1
        rw [List.length_map, wl] at e
        rw [List.map_drop, e]
        exact same_sqt s2 RC.at_
      · refine ⟨p, rfl, same_upd np, SqT.of ?_⟩
        rw [upd_same, cut_from, List.length_map, wl, List.map_drop]
    rintro v B1 ⟨a, rfl, s3, ha⟩
    have fR3 := s3 _ _ fR2
    have fA3 := s3 _ _ fA2
    have sH := s2.trans s3
    have la : (as.drop g0.length).length = gs.length := by
      rw [List.length_drop, RC.len, List.length_append]
      omega
    refine ⟨a, rfl, ⟨_, ha⟩, for_tup (K := K) (a := a) (xs := (as.drop g0.length).map V.ref) (fun i σ H' => ∃ (y4 y5 : Option V) (ak' : List Nat) (ws' : List Int), σ = [some (.ref pl), some (.ref rc), some (.ref rR), some (.ref rA), y4, y5, none, none, none] ∧ Tw B1 H' rR rA (ws'.map V.int) (ak'.map fun (n : Nat) => V.int n) ∧ PInv (predsOf [] (g0 ++ gs.take i)) ak' ws' ∧
      ak'.length ≤ ak.length + asksN (gs.take i) ∧ (∃ r, ak' = ak ++ r) ∧ (∃ r, ws' = ws ++ r)) ?_ ?_ ?_ ?_⟩
    · refine ⟨none, none, ak, ws, rfl, ⟨fun b o _ _ e => e, fR3, fA3⟩, ?_, Nat.le_add_right _ _, ⟨[], by simp⟩, ⟨[], by simp⟩⟩
      rw [List.take_zero, List.append_nil]
      exact PF.inv
    · rintro i σ H' hi ⟨y4, y5, ak', ws', rfl, tw, _⟩
      exact tw.tup ha fR3 fA3
    · rintro i x σ H' hx ⟨y4, y5, ak', ws', rfl, tw, inv, hl, hpa, hpw⟩
      have il : i < gs.length := by
        have := (List.getElem?_eq_some_iff.mp hx).1
        rw [List.length_map, la] at this
        exact this
      have eg := List.getElem?_eq_getElem il
      obtain ⟨g, hg⟩ : ∃ g, gs[i] = g := ⟨_, rfl⟩
      rw [hg] at eg
      have eg2 : (g0 ++ gs)[g0.length + i]? = some g := by
        rw [List.getElem?_append_right (by omega), Nat.add_sub_cancel_left]
        exact eg
      obtain ⟨b, rfl, hb⟩ : ∃ b, x = .ref b ∧ as[g0.length + i]? = some b := by
        rw [List.getElem?_map, List.getElem?_drop] at hx
        cases e : as[g0.length + i]? with
        | none =>
          rw [e] at hx
          cases hx
        | some b =>
          rw [e] at hx
          cases hx
          exact ⟨b, rfl, rfl⟩
      have st0 := RC.step _ _ _ eg2 hb
      have hfew := RC.few g (List.mem_of_getElem? eg2)
      have hpart := RC.part _ _ eg2
      have sHH : Same H H' := tw.same sH nR nA0
      have st := st0.up sHH
      have etk : gs.take (i + 1) = gs.take i ++ [g] := by
        rw [List.take_add_one, eg]
        rfl
      have epr : predsOf [] (g0 ++ gs.take (i + 1)) = predsOf [] (g0 ++ gs.take i) ++ [g.pred (predsOf [] (g0 ++ gs.take i))] := by
        rw [etk, ← List.append_assoc, predsOf_snoc]
      have epl : (predsOf [] (g0 ++ gs.take i)).length = g0.length + i := by
        rw [predsOf_len, List.length_append, List.length_take]
        simp
        omega
      have wsl : (ws'.map V.int).length = g0.length + i := by rw [List.length_map, inv.len, epl]
      have askb : asksN (gs.take (i + 1)) = asksN (gs.take i) + g.askB := by rw [etk, asksN_snoc]
      have askt := asksN_take gs (i + 1)
      refine ⟨_, rfl, rR, _, rfl, .inl (SqL.of tw.f1), _, rfl, g0.length + i, b, g, ?_, st, ?_⟩
      · rw [wsl]
        rfl
      refine ⟨fun σ' G' => σ' = [some (.ref pl), some (.ref rc), some (.ref rR), some (.ref rA), some (.ref b), some (optV (g.asks (g0.length + i))), none, none, none] ∧ Tw B1 G' rR rA (ws'.map V.int) ((askMore ak' (g.asks (g0.length + i))).map fun (n : Nat) => V.int n), ?_, ?_⟩
      · cases ea : g.asks (g0.length + i) with
        | none => exact ⟨_, rfl, _, rfl, iteF (iteF ⟨rfl, tw⟩)⟩
        | some k =>
          refine ⟨_, rfl, _, rfl, iteT ⟨_, rfl, _, rfl, rA, _, rfl, .inl (SqL.of tw.f2), rfl, flat_nats ak', !decide (k ∈ ak'), by rw [← inV_nat]; rfl, ?_⟩⟩
          rw [askMore_some]
          by_cases hk : k ∈ ak'
          · rw [decide_eq_true hk, if_pos hk]
            exact iteF ⟨rfl, tw⟩
          · rw [decide_eq_false hk, if_neg hk]
            refine iteT ⟨_, rfl, .inl ⟨rfl, _, SqL.of tw.f2⟩, _, rfl, rA, _, _, rfl, rfl, tw.f2, ?_, rfl, ?_⟩
            · rw [List.length_map]
              exact Nat.lt_of_le_of_lt (show ak'.length ≤ 8 from inv.few) (by decide)
            · rw [List.map_append]
              exact tw.set2 hne
      rintro σ G ⟨rfl, tw2⟩
      have h2 : (askMore ak' (g.asks (g0.length + i))).length ≤ ak'.length + g.askB := askMore_len
      have hG : Same H G := tw2.same sH nR nA0
      refine ⟨_, rfl, rA, _, rfl, .inl (SqL.of tw2.f2), _, _, rfl, rfl, _, rfl, ltF (by rw [List.length_map]; omega) ⟨_, rfl, b, g, rfl, st0.up hG, hfew, fun G2 s2 => ⟨_, rfl, iteF ?_⟩⟩⟩
      have sG : Same H G2 := hG.trans s2
      refine ⟨_, rfl, .inl ⟨rfl, _, SqL.of (s2 _ _ tw2.f1)⟩, _, rfl, _, rfl, ?_⟩
      cases ea : g.asks (g0.length + i) with
      | none =>
        refine ⟨_, rfl, _, rfl, iteT ?_⟩
        rw [ea] at h2 tw2
        refine ⟨b, rR, g, ws', listsN (askMore ak' (.none : Option Nat)) (.none : Option Nat), rfl, st0.up sG, SqL.of (s2 _ _ tw2.f1), hfew, ?_, fun r hrow => ⟨rR, _, .int r, rfl, rfl, s2 _ _ tw2.f1, ?_, some (.ref b), some (optV (.none : Option Nat)), askMore ak' (.none : Option Nat), ws' ++ [r], rfl, ?_, ?_, ?_, ?_, ?_⟩⟩
        · intro k hk
          have := hpart k hk
          rw [List.length_map] at wsl
          omega
        · rw [wsl]
          exact Nat.lt_of_le_of_lt (show g0.length + i ≤ 1000 by rw [RC.len, List.length_append] at has; omega) (by decide)
        · rw [List.map_append]
          exact (tw2.up s2).set1 hne
        · rw [epr]
          have ea2 := ea
          rw [← epl] at ea2
          have z := inv.step (r := r) g hfew (by rw [epl]; exact hpart) (by rw [ea2]; omega) (by rw [ea2]; exact hrow)
          rw [ea2] at z
          exact z
        · omega
        · obtain ⟨r1, e1⟩ := hpa
          obtain ⟨r2, e2⟩ := askMore_pre (ak := ak') (o := .none)
          exact ⟨r1 ++ r2, by rw [e2, e1, List.append_assoc]⟩
        · obtain ⟨r1, e1⟩ := hpw
          exact ⟨r1 ++ [r], by rw [e1, List.append_assoc]⟩
      | some k =>
        refine ⟨_, rfl, _, rfl, iteF ?_⟩
        rw [ea] at h2 tw2
        have hm : k ∈ askMore ak' (some k) := askMore_mem
        have hj := List.idxOf_lt_length_of_mem hm
        have hjv : ((askMore ak' (some k)).map fun (n : Nat) => V.int n)[(askMore ak' (some k)).idxOf k]? = some (.int (k : Nat)) := by
          rw [List.getElem?_map, List.getElem?_eq_getElem hj, List.getElem_idxOf hj]
          rfl
        have hj8 : (askMore ak' (some k)).idxOf k < allIn.length := by
          show _ < 8
          omega
        refine ⟨_, rfl, .inl ⟨rfl, _, SqL.of (s2 _ _ tw2.f2)⟩, _, rfl, rA, _, .int (k : Nat), _, _, rfl, rfl, SqL.of (s2 _ _ tw2.f2), rfl, flat_nats _, hjv, beq_self_eq_true (k : Int), fun m z hm2 ez => ?_, aI, _, _, .int ((allIn.getD ((askMore ak' (some k)).idxOf k) 0 : Nat) : Int), rfl, rfl, hI _, atI_nat ?_, ?_⟩
        · rw [List.getElem?_map] at ez
          cases e3 : (askMore ak' (some k))[m]? with
          | none =>
            rw [e3] at ez
            cases ez
          | some j =>
            rw [e3] at ez
            cases ez
            have := idxOf_first hm2 j e3
            exact beq_eq_false_iff_ne.mpr (show (j : Int) ≠ (k : Int) by omega)
        · rw [List.getElem?_map, List.getElem?_eq_getElem hj8, List.getD_eq_getElem?_getD, List.getElem?_eq_getElem hj8]
          rfl
        refine ⟨b, rR, g, ws', listsN (askMore ak' (some k)) (some k), rfl, st0.up sG, SqL.of (s2 _ _ tw2.f1), hfew, ?_, fun r hrow => ⟨rR, _, .int r, rfl, rfl, s2 _ _ tw2.f1, ?_, some (.ref b), some (optV (some k)), askMore ak' (some k), ws' ++ [r], rfl, ?_, ?_, ?_, ?_, ?_⟩⟩
        · intro k hk
          have := hpart k hk
          rw [List.length_map] at wsl
          omega
        · rw [wsl]
          exact Nat.lt_of_le_of_lt (show g0.length + i ≤ 1000 by rw [RC.len, List.length_append] at has; omega) (by decide)
        · rw [List.map_append]
          exact (tw2.up s2).set1 hne
        · rw [epr]
          have ea2 := ea
          rw [← epl] at ea2
          have z := inv.step (r := r) g hfew (by rw [epl]; exact hpart) (by rw [ea2]; omega) (by rw [ea2]; exact hrow)
          rw [ea2] at z
          exact z
        · omega
        · obtain ⟨r1, e1⟩ := hpa
          obtain ⟨r2, e2⟩ := askMore_pre (ak := ak') (o := some k)
          exact ⟨r1 ++ r2, by rw [e2, e1, List.append_assoc]⟩
        · obtain ⟨r1, e1⟩ := hpw
          exact ⟨r1 ++ [r], by rw [e1, List.append_assoc]⟩
    · rintro σ H' ⟨y4, y5, ak', ws', rfl, tw, inv, hl, ⟨ra, ha'⟩, ⟨rw_, hw'⟩⟩
      have eall : gs.take ((as.drop g0.length).map V.ref).length = gs := by
        rw [List.length_map, la]
        exact List.take_length
      rw [eall] at inv hl
      have sHH : Same H H' := tw.same sH nR nA0
      have getW : ∀ k, k ∈ ak' → k < ws'.length := fun k hk => by
        have := inv.inn k hk
        rw [inv.len]
        exact this
      refine ⟨_, rfl, rA, _, rfl, .inl (SqL.of tw.f2), _, rfl, pl, _, 1, _, rfl, rfl, same_sqt sHH PF.at_, atI_nat (j := 1) rfl, aA, _, rfl, PF.askd.up sHH, rfl, _, rfl, ?_⟩
      by_cases he : ak'.length = ak.length
      · refine eqT (by rw [List.length_map, List.length_map, he]) ?_
        have era : ra = [] := by
          have e := congrArg List.length ha'
          rw [List.length_append] at e
          exact List.length_eq_zero_iff.mp (by omega)
        subst era
        rw [List.append_nil] at ha'
        subst ha'
        refine ⟨_, rfl, _, rfl, _, rfl, pl, _, 2, _, rfl, rfl, same_sqt sHH PF.at_, atI_nat (j := 2) rfl, _, rfl, pl, _, 3, _, rfl, rfl, same_sqt sHH PF.at_, atI_nat (j := 3) rfl, (by show 4 ≤ sizeLine; decide), fun t nt => ?_⟩
        have s9 := sHH.trans (same_upd (o := .tup [.ref rR, .ref rA, .ref aR, .ref aL]) nt)
        have u := same_upd (o := .tup [.ref rR, .ref rA, .ref aR, .ref aL]) nt
        have so := ov_sub (H' := upd H' t (.tup [.ref rR, .ref rA, .ref aR, .ref aL])) sv
        have nt0 : H t = none := sHH.free nt
        refine q _ t rR rA aR aL ak' ws' ar lv s9 ⟨SqT.of (by rw [ov_new nt0, upd_same]), .inl (SqL.of (by rw [ov_new nR]; exact u _ _ tw.f1)), .inl (SqL.of (by rw [ov_new nA0]; exact u _ _ tw.f2)), (PF0.up so).arow, (PF0.up so).leav, PF.six, inv, ?_, PF.ok⟩ (SqL.of (by rw [ov_new nR]; exact u _ _ tw.f1)) (by omega)
        rw [PF.arr]
        refine List.map_congr_left fun k hk => ?_
        have hk2 := PF.inv.inn k hk
        rw [← PF.inv.len] at hk2
        rw [hw', List.getD_eq_getElem?_getD, List.getD_eq_getElem?_getD, List.getElem?_append_left hk2]
      · refine eqF (by rw [List.length_map, List.length_map]; omega) ?_
        refine ⟨_, rfl, rA, rfl, ⟨_, SqL.of tw.f2⟩, fun D nD => lc_list (K := K) (a := rA) (xs := ak'.map fun (n : Nat) => V.int n) (fun j H2 => H2 D = some (.lst (((ak'.take j).map fun k => ws'.getD k 0).map V.int)) ∧ Same H' H2) ⟨upd_same, same_upd nD⟩ (fun j H2 hj ⟨_, sm⟩ => SqL.of (sm _ _ tw.f2)) ?_ ?_⟩
        · rintro j x H2 hx ⟨hD, sm⟩
          have jl : j < ak'.length := by
            have := (List.getElem?_eq_some_iff.mp hx).1
            rw [List.length_map] at this
            exact this
          have ex : x = .int ((ak'[j] : Nat) : Int) := by
            rw [List.getElem?_map, List.getElem?_eq_getElem jl] at hx
            exact (Option.some.inj hx).symm
          subst ex
          refine ⟨rfl, ⟨_, rfl, _, rfl, rR, _, _, _, rfl, rfl, SqL.of (sm _ _ tw.f1), at_map (getW _ (List.getElem_mem jl)), _, hD, ?_, ?_, same_fresh nD sm⟩⟩
          · rw [List.length_map, List.length_map, List.length_take]
            exact Nat.lt_of_le_of_lt (show min j ak'.length ≤ 8 by have := inv.few; omega) (by decide)
          · rw [upd_same, List.take_add_one, List.getElem?_eq_getElem jl]
            simp only [List.map_append, Option.toList_some, List.map_cons, List.map_nil]
        rintro H2 ⟨hD, sm⟩
        rw [List.length_map, List.take_length] at hD
        obtain ⟨ar', ear⟩ : ∃ ar', ar' = ak'.map fun k => ws'.getD k 0 := ⟨_, rfl⟩
        rw [← ear] at hD
        refine ⟨_, rfl, _, rfl, _, rfl, aV, rfl, ⟨_, hV _⟩, fun D2 nD2 => lc_tup (K := K) (a := aV) (xs := leavesL) (fun j H3 => H3 D2 = some (.lst (((List.range j).map fun n => toldN (256 + n) ar').map fun (n : Nat) => V.int n)) ∧ Same H2 H3) ⟨upd_same, same_upd nD2⟩ (fun j H3 hj _ => hV _) ?_ ?_⟩
        · rintro j x H3 hx ⟨hD3, sm3⟩
          have jl : j < 6 := (List.getElem?_eq_some_iff.mp hx).1
          have ex : x = .int ((256 + j : Nat) : Int) := by
            have : j = 0 ∨ j = 1 ∨ j = 2 ∨ j = 3 ∨ j = 4 ∨ j = 5 := by omega
            rcases this with rfl | rfl | rfl | rfl | rfl | rfl <;> · cases hx; rfl
          subst ex
          refine ⟨rfl, ⟨_, rfl, _, rfl, D, ar', 256 + j, rfl, .inl (SqL.of (sm3 _ _ hD)), fun H4 s4 => ⟨_, s4 _ _ hD3, ?_, ?_, same_fresh nD2 (sm3.trans s4)⟩⟩⟩
          · rw [List.length_map, List.length_map, List.length_range]
            exact Nat.lt_of_lt_of_le jl (by decide)
          · rw [upd_same, List.range_succ]
            simp only [List.map_append, List.map_cons, List.map_nil]
        rintro H3 ⟨hD3, sm3⟩
        refine ⟨(by show 4 ≤ sizeLine; decide), fun t nt => ?_⟩
        have u := same_upd (o := .tup [.ref rR, .ref rA, .ref D, .ref D2]) nt
        have s9 := (sm.trans sm3).trans u
        have nt0 : H t = none := (sHH.trans (sm.trans sm3)).free nt
        have nD0 : H D = none := sHH.free nD
        have nD20 : H D2 = none := (sHH.trans sm).free nD2
        refine q _ t rR rA D D2 ak' ws' ar' ((List.range 6).map fun n => toldN (256 + n) ar') (sHH.trans s9) ⟨SqT.of (by rw [ov_new nt0, upd_same]), .inl (SqL.of (by rw [ov_new nR]; exact s9 _ _ tw.f1)), .inl (SqL.of (by rw [ov_new nA0]; exact s9 _ _ tw.f2)), .inl (SqL.of (by rw [ov_new nD0]; exact (sm3.trans u) _ _ hD)), .inl (SqL.of (by rw [ov_new nD20]; exact u _ _ hD3)), by simp, inv, ear, fun n hn => ?_⟩ (SqL.of (by rw [ov_new nR]; exact s9 _ _ tw.f1)) (by omega)
        rw [List.getD_eq_getElem?_getD, List.getElem?_map, List.getElem?_range hn]
        rfl
end
end TX
namespace TX
open PySem PySem.Spec PyProof.Rows L2
/-! ### sequences beside an object -/
theorem sqt_delO {K : PySem.W.Frag} {H : Hp} {a r C dx : Addr} {xs : List V} {fs : List (Str × V)} (h : SqT K H a xs) (hr : H r = some (.ins C dx fs)) : SqT K (del H r) a xs := by
  rcases h with (h | ⟨o, h⟩) | h
  · have e : a ≠ r := fun z => by
      rw [z, hr] at h
      cases h
    exact .inl (.inl (by rw [del_ne e]; exact h))
  · have e : a ≠ r := fun z => by
      rw [z, hr] at h
      cases h
    exact .inl (.inr ⟨o, by rw [del_ne e]; exact h⟩)
  · exact .inr h
theorem sql_delO {K : PySem.W.Frag} {H : Hp} {a r C dx : Addr} {xs : List V} {fs : List (Str × V)} (h : SqL K H a xs) (hr : H r = some (.ins C dx fs)) : SqL K (del H r) a xs := by
  rcases h with (h | ⟨o, h⟩) | h
  · have e : a ≠ r := fun z => by
      rw [z, hr] at h
      cases h
    exact .inl (.inl (by rw [del_ne e]; exact h))
  · have e : a ≠ r := fun z => by
      rw [z, hr] at h
      cases h
    exact .inl (.inr ⟨o, by rw [del_ne e]; exact h⟩)
  · exact .inr h
end TX
namespace TX
open PySem PySem.Spec PyProof.Rows L2
/-! ### recipes -/
def spFirst (K : PySem.W.Frag) : Sp := fun vs H Q _ => ∃ (g : Sg) (n : Addr) (Hv : Hp), vs = [.str g.sign, .ref n] ∧ Same Hv H ∧ SqT K Hv n g.nums ∧ g.parts = [] ∧ g.few ∧ ∀ (H' : Hp) (rc : Addr) (as : List Addr), Same H H' → Recipe K (ov H Hv H') rc as [g] → Q (.ref rc) H'
def spAbove (K : PySem.W.Frag) : Sp := fun vs H Q _ => ∃ (g : Sg) (rc : Addr) (as : List Addr) (gs : List Sg) (Hv : Hp), vs = [.str g.sign, .ref rc] ∧ Same Hv H ∧ Recipe K Hv rc as gs ∧ gs ≠ [] ∧ g.parts = [gs.length - 1] ∧ g.nums = [] ∧ g.few ∧ as.length ≤ 500 ∧
  ∀ (H' : Hp) (rc' : Addr) (as' : List Addr), Same H H' → Recipe K (ov H Hv H') rc' as' (gs ++ [g]) → Q (.ref rc') H'
section
variable {P : Program} {w : World} {K : PySem.W.Frag} {mg : Str → Option Value} {base : Heap}
theorem scFirst : FnScope ["sign", "numbers"] ["sign", "numbers"] (defScope s_first_step) := ⟨rfl, rfl, rfl, by decide +kernel, rfl, by decide +kernel, by decide +kernel⟩
theorem ok_first {f : Addr} {fd : FuncData} (F : Fun K "first_step" "first_step" s_first_step f fd) : FnOk P w K mg base CX0 1 f fd ["sign", "numbers"] (spFirst K) := by
  refine F.ok scFirst (fun vs H Q E h => ?_) (fun cdv A outer s H vs Q E hr h => ?_)
  · obtain ⟨g, n, Hv, rfl, _⟩ := h
    rfl
  · obtain ⟨g, n, Hv, rfl, sv, hn, hp, hf, q⟩ := h
    refine ⟨_, pss_one (ps_ret (pe_tup (pa_cons (pe_tup (pa_cons (pv 0) (pa_cons (pe_tup pa_nil) (pa_cons (pv 1) pa_nil)))) pa_nil))), ?_⟩
    refine ⟨_, rfl, Nat.zero_le _, fun p np => ⟨_, rfl, (by show 3 ≤ sizeLine; decide), fun a na => ⟨(by show 1 ≤ sizeLine; decide), fun rc nc => ?_⟩⟩⟩
    have s1 := same_upd (o := .tup []) np
    have s2 := same_upd (o := .tup [.str g.sign, .ref p, .ref n]) na
    have s3 := same_upd (o := .tup [.ref a]) nc
    have na0 : H a = none := s1.free na
    have nc0 : H rc = none := (s1.trans s2).free nc
    have so := ov_sub (H' := upd (upd (upd H p (.tup [])) a (.tup [.str g.sign, .ref p, .ref n])) rc (.tup [.ref a])) sv
    refine q _ rc [a] ((s1.trans s2).trans s3) ⟨SqT.of (by rw [ov_new nc0, upd_same]; rfl), rfl, fun i g' a' e1 e2 => ?_, fun g' hg => ?_, fun i g' e1 k hk => ?_⟩
    · have hi : i = 0 := by
        have := (List.getElem?_eq_some_iff.mp e1).1
        simp at this
        omega
      subst hi
      cases e1
      cases e2
      refine ⟨p, n, SqT.of (by rw [ov_new na0]; exact s3 _ _ upd_same), ?_, same_sqt so hn⟩
      rw [hp]
      exact SqT.of (by rw [ov_new np]; exact (s2.trans s3) _ _ upd_same)
    · rw [List.mem_singleton.mp hg]
      exact hf
    · have hi : i = 0 := by
        have := (List.getElem?_eq_some_iff.mp e1).1
        simp at this
        omega
      subst hi
      cases e1
      rw [hp] at hk
      cases hk
theorem Recipe.snoc {H : Hp} {rc a : Addr} {as : List Addr} {gs : List Sg} {g : Sg} {rc0 : Addr} (h : Recipe K H rc0 as gs) (ha : SqT K H rc ((as ++ [a]).map V.ref)) (hs : StepAt K H a g) (hf : g.few) (hp : ∀ k ∈ g.parts, k < gs.length) : Recipe K H rc (as ++ [a]) (gs ++ [g]) := by
  refine ⟨ha, by rw [List.length_append, List.length_append, h.len]; rfl, fun i g' a' e1 e2 => ?_, fun g' hg => ?_, fun i g' e1 k hk => ?_⟩
  · by_cases hi : i < gs.length
    · rw [List.getElem?_append_left hi] at e1
      rw [List.getElem?_append_left (by rw [h.len]; exact hi)] at e2
      exact h.step i g' a' e1 e2
    · have hl := (List.getElem?_eq_some_iff.mp e1).1
      rw [List.length_append, List.length_singleton] at hl
      have hi2 : i = gs.length := by omega
      subst hi2
      rw [List.getElem?_append_right (Nat.le_refl _), Nat.sub_self] at e1
      rw [List.getElem?_append_right (by rw [h.len]; exact Nat.le_refl _), h.len, Nat.sub_self] at e2
      cases e1
      cases e2
      exact hs
  · rcases List.mem_append.mp hg with z | z
    · exact h.few g' z
    · rw [List.mem_singleton.mp z]
      exact hf
  · by_cases hi : i < gs.length
    · rw [List.getElem?_append_left hi] at e1
      exact h.part i g' e1 k hk
    · have hl := (List.getElem?_eq_some_iff.mp e1).1
      rw [List.length_append, List.length_singleton] at hl
      have hi2 : i = gs.length := by omega
      subst hi2
      rw [List.getElem?_append_right (Nat.le_refl _), Nat.sub_self] at e1
      cases e1
      exact hp k hk
theorem scAbove : FnScope ["sign", "recipe"] ["sign", "recipe"] (defScope s_step_above) := ⟨rfl, rfl, rfl, by decide +kernel, rfl, by decide +kernel, by decide +kernel⟩
theorem ok_above {f : Addr} {fd : FuncData} (F : Fun K "step_above" "step_above" s_step_above f fd) (B : Nb mg) : FnOk P w K mg base CX0 1 f fd ["sign", "recipe"] (spAbove K) := by
  refine F.ok scAbove (fun vs H Q E h => ?_) (fun cdv A outer s H vs Q E hr h => ?_)
  · obtain ⟨g, rc, as, gs, Hv, rfl, _⟩ := h
    rfl
  · obtain ⟨g, rc, as, gs, Hv, rfl, sv, RC0, hne, hp, hn, hf, hz, q⟩ := h
    have RC := RC0.up sv
    refine ⟨_, pss_one (ps_ret (pe_tup (StX.pa_star (pv 1) (pa_cons (pe_tup (pa_cons (pv 0) (pa_cons (pe_tup (pa_cons (pe_op op_sub (pe_callB call_len_seq (by rfl) B.len PySem.boot_len (pa_cons (pv 1) pa_nil)) pe_int) pa_nil)) (pa_cons (pe_tup pa_nil) pa_nil)))) pa_nil)))), ?_⟩
    have gl : 0 < gs.length := List.length_pos_iff.mpr hne
    have al := RC.len
    refine ⟨_, rfl, rc, _, rfl, .inl RC.at_, _, rfl, _, rfl, rc, _, rfl, .inr RC.at_, _, _, rfl, rfl, (by show 1 ≤ sizeLine; decide), fun p np => ⟨Nat.zero_le _, fun n nn => ⟨(by show 3 ≤ sizeLine; decide), fun a na => ⟨?_, fun rc' nc => ?_⟩⟩⟩⟩
    · rw [List.length_append, List.length_map]
      exact Nat.le_trans (show as.length + 1 ≤ 1000 by omega) (by decide)
    · have e1 : ((as.map V.ref).length : Int) - 1 = ((gs.length - 1 : Nat) : Int) := by
        rw [List.length_map]
        omega
      have e0 : (HO.tup [(fun i j : Int => V.int (i - j)) (((as.map V.ref).length : Nat) : Int) 1]) = HO.tup [.int ((gs.length - 1 : Nat) : Int)] := by
        show HO.tup [.int ((((as.map V.ref).length : Nat) : Int) - 1)] = _
        rw [e1]
      rw [e0] at na nn nc ⊢
      have s1 := same_upd (o := .tup [.int ((gs.length - 1 : Nat) : Int)]) np
      have s2 := same_upd (o := .tup []) nn
      have s3 := same_upd (o := .tup [.str g.sign, .ref p, .ref n]) na
      have s4 := same_upd (o := .tup (as.map V.ref ++ [.ref a])) nc
      have so := ov_sub (H' := upd (upd (upd (upd H p (.tup [.int ((gs.length - 1 : Nat) : Int)])) n (.tup [])) a (.tup [.str g.sign, .ref p, .ref n])) rc' (.tup (as.map V.ref ++ [.ref a]))) sv
      refine q _ rc' (as ++ [a]) (((s1.trans s2).trans s3).trans s4) ((RC0.up so).snoc ?_ ⟨p, n, SqT.of (by rw [ov_new ((s1.trans s2).free na)]; exact s4 _ _ upd_same), ?_, ?_⟩ hf ?_)
      · rw [List.map_append]
        exact SqT.of (by rw [ov_new (((s1.trans s2).trans s3).free nc), upd_same]; rfl)
      · rw [hp]
        exact SqT.of (by rw [ov_new np]; exact ((s2.trans s3).trans s4) _ _ upd_same)
      · rw [hn]
        exact SqT.of (by rw [ov_new (s1.free nn)]; exact (s3.trans s4) _ _ upd_same)
      · intro k hk
        rw [hp, List.mem_singleton] at hk
        omega
end
/-! ### shapes -/
def shF (rc pl : Addr) : List (Str × V) := putF "_plan" (.ref pl) (putF "recipe" (.ref rc) [])
theorem shF_rec (rc pl : Addr) : (shF rc pl).lookup ("recipe" : Str) = some (.ref rc) := by
  unfold shF
  rw [lookup_putF, if_neg (by decide +kernel), lookup_putF, if_pos rfl]
theorem shF_plan (rc pl : Addr) : (shF rc pl).lookup ("_plan" : Str) = some (.ref pl) := by
  unfold shF
  rw [lookup_putF, if_pos rfl]
structure Ek (K : PySem.W.Frag) (mg : Str → Option Value) (C : Addr) : Prop where
  cl : Cls K C
  nR : NoAttr K C "recipe"
  nP : NoAttr K C "_plan"
  mgC : mg "Shape" = some (.ref C)
/-- a shape: the steps of its recipe -/
def ShAt (K : PySem.W.Frag) (H : Hp) (C x : Addr) (gs : List Sg) : Prop := ∃ (dx rc pl aW aA aR aL : Addr) (as : List Addr) (ak : List Nat) (ws ar : List Int) (lv : List Nat), H x = some (.ins C dx (shF rc pl)) ∧ Recipe K H rc as gs ∧ PlanF K H pl (predsOf [] gs) ak ws aW aA aR aL ar lv ∧ SqL K H aW (ws.map V.int) ∧ ak.length ≤ asksN gs
theorem ShAt.up {K : PySem.W.Frag} {H G : Hp} {C x : Addr} {gs : List Sg} (h : ShAt K H C x gs) (s : Same H G) : ShAt K G C x gs := by
  obtain ⟨dx, rc, pl, aW, aA, aR, aL, as, ak, ws, ar, lv, h1, h2, h3, h4, h5⟩ := h
  exact ⟨dx, rc, pl, aW, aA, aR, aL, as, ak, ws, ar, lv, s _ _ h1, h2.up s, h3.up s, s.seq h4, h5⟩
def spInitS (K : PySem.W.Frag) (C : Addr) : Sp := fun vs H Q _ => ∃ (p dx rc pl aW aA aR aL : Addr) (ak : List Nat) (ws ar : List Int) (lv : List Nat) (as : List Addr) (g0 gs : List Sg) (H0 Hv : Hp), vs = [.ref p, .ref rc, .ref pl] ∧ H p = some (.ins C dx []) ∧ Same H0 H ∧ H0 p = none ∧ Same Hv H0 ∧
  PlanF K Hv pl (predsOf [] g0) ak ws aW aA aR aL ar lv ∧ Recipe K Hv rc as (g0 ++ gs) ∧ as.length ≤ 500 ∧ ak.length ≤ asksN g0 ∧ asksN g0 + asksN gs ≤ 8 ∧ asksN (g0 ++ gs) = asksN g0 + asksN gs ∧ ∀ H', Same H0 H' → ShAt K (ov H0 Hv H') C p (g0 ++ gs) → Q .non H'
/-- what a new shape gives -/
def NewS (K : PySem.W.Frag) (C : Addr) (H Hv : Hp) (gs : List Sg) (Q : VK) : Prop := ∀ (H' : Hp) (x : Addr), Same H H' → H x = none → ShAt K (ov H Hv H') C x gs → Q (.ref x) H'
theorem NewS.up {K : PySem.W.Frag} {C : Addr} {H G Hv : Hp} {gs : List Sg} {Q : VK} (q : NewS K C H Hv gs Q) (s : Same H G) : NewS K C G (ov H Hv G) gs Q := fun H' x s1 nx sh => q H' x (s.trans s1) (s.free nx) (sh.up (ov_step s s1))
theorem mk_shape {K : PySem.W.Frag} {C : Addr} {H Hv : Hp} {Q : VK} {E : XK} {rc pl aW aA aR aL : Addr} {ak : List Nat} {ws ar : List Int} {lv : List Nat} {as : List Addr} {g0 gs : List Sg} (sv : Same Hv H) (PF : PlanF K Hv pl (predsOf [] g0) ak ws aW aA aR aL ar lv) (RC : Recipe K Hv rc as (g0 ++ gs)) (hz : as.length ≤ 500) (hk : ak.length ≤ asksN g0)
    (h8 : asksN g0 + asksN gs ≤ 8) (ha : asksN (g0 ++ gs) = asksN g0 + asksN gs) (q : NewS K C H Hv (g0 ++ gs) Q) : ∀ x dx, H x = none → H dx = none → dx ≠ x → spInitS K C [.ref x, .ref rc, .ref pl] (upd (upd H dx (.own x)) x (.ins C dx [])) (fun v H2 => v = .non ∧ Q (.ref x) H2) E := by
  intro x dx nx ndx hne
  have s0 : Same H (upd (upd H dx (.own x)) x (.ins C dx [])) := same_fresh nx (same_upd ndx)
  exact ⟨x, dx, rc, pl, aW, aA, aR, aL, ak, ws, ar, lv, as, g0, gs, H, Hv, rfl, upd_same, s0, nx, sv, PF, RC, hz, hk, h8, ha, fun H' s1 sh => ⟨rfl, q H' x s1 nx sh⟩⟩
section
variable {P : Program} {w : World} {K : PySem.W.Frag} {mg : Str → Option Value} {base : Heap} {C : Addr}
theorem scInitS : FnScope ["self", "recipe", "before"] ["self", "recipe", "before"] (defScope mShape_init) := ⟨rfl, rfl, rfl, by decide +kernel, rfl, by decide +kernel, by decide +kernel⟩
theorem ok_initS {f fL : Addr} {fd dL : FuncData} (F : Fun K "__init__" "Shape.__init__" mShape_init f fd) (T : Ek K mg C) (GL : FnOk P w K mg base CX0 3 fL dL ["plan", "recipe"] (spLonger K)) (gL : mg "longer_plan" = some (.ref fL)) (kL : PySem.W.keepIn K (.ref fL) = true) (bL : Binds K dL ["plan", "recipe"] []) :
    FnOk P w K mg base CX0 4 f fd ["self", "recipe", "before"] (spInitS K C) := by
  refine F.ok scInitS (fun vs H Q E h => ?_) (fun cdv A outer s H vs Q E hr h => ?_)
  · obtain ⟨p, dx, rc, pl, aW, aA, aR, aL, ak, ws, ar, lv, as, g0, gs, H0, Hv, rfl, _⟩ := h
    rfl
  · obtain ⟨p, dx, rc, pl, aW, aA, aR, aL, ak, ws, ar, lv, as, g0, gs, H0, Hv, rfl, hp, s0, np, sv, PF, RC, hz, hk, h8, ha, q⟩ := h
    refine ⟨_, pss_cons (ps_fld (pv 0) (pv 1) rfl) <| pss_one (ps_fld (pv 0) (pe_call GL hr (by rfl) gL kL bL .nil pass0 (pa_cons (pv 2) (pa_cons (pv 1) pa_nil))) rfl), ?_⟩
    refine ⟨_, rfl, _, rfl, p, C, dx, [], rfl, hp, T.cl, T.nR, (by show 0 < 1000; decide), ?_⟩
    have s1 : Same H0 (upd H p (.ins C dx (putF "recipe" (.ref rc) []))) := same_fresh np s0
    have hp1 : (upd H p (.ins C dx (putF "recipe" (.ref rc) []))) p = some (.ins C dx (putF "recipe" (.ref rc) [])) := upd_same
    generalize upd H p (.ins C dx (putF "recipe" (.ref rc) [])) = H1 at s1 hp1
    refine ⟨_, rfl, _, rfl, pl, rc, aW, aA, aR, aL, ak, ws, ar, lv, as, g0, gs, Hv, rfl, sv.trans s1, PF, RC, by omega, by omega, fun H' pl' aW' aA' aR' aL' ak' ws' ar' lv' s2 PF' hW' hk' => ?_⟩
    refine ⟨_, rfl, p, C, dx, _, rfl, s2 _ _ hp1, T.cl, T.nP, (by show 1 < 1000; decide), ?_⟩
    have s3 : Same H0 (upd H' p (.ins C dx (shF rc pl'))) := same_fresh np (s1.trans s2)
    have sA : Same (ov H1 Hv H') (ov H0 Hv (upd H' p (.ins C dx (shF rc pl')))) := fun b o e => by
      cases h1 : H1 b with
      | none =>
        rw [ov_new h1] at e
        rw [ov_new (s1.free h1), upd_ne (ne_of_none hp1 h1).symm]
        exact e
      | some u =>
        rw [ov_old h1] at e
        rw [ov_old (sv _ _ e)]
        exact e
    refine q _ s3 ⟨dx, rc, pl', aW', aA', aR', aL', as, ak', ws', ar', lv', by rw [ov_new np, upd_same]; rfl, RC.up (ov_sub sv), PF'.up sA, sA.seq hW', by omega⟩
end
end TX
namespace TX
open PySem PySem.Spec PyProof.Rows L2
section
variable {X : Cx} {CX : CXT} {C f : Addr} {k : Nat} {fd : FuncData} {ps : List Str} {sp : Sp} {E : XK} {ds dvs : List V} {us0 : List Value}
/-- C(..), C held by a name of the def -/
def tMakeV (i : Nat) (C : Addr) (sp : Sp) (E : XK) (t : TA) : TE := fun σ H Q => σ[i]? = some (some (.ref C)) ∧ t σ H fun vs H1 => ∀ x dx, H1 x = none → H1 dx = none → dx ≠ x → sp (.ref x :: (vs ++ [])) (upd (upd H1 dx (.own x)) x (.ins C dx [])) (fun v H2 => v = .non ∧ Q (.ref x) H2) E
theorem pe_makeV {i : Nat} {x : Str} {p pos : Pos} {e : Expr} {es : List Expr} {t : TA} (M : Mk X.K C f) (F : FnOk X.prog X.w X.K X.mg X.base CX k f fd ps sp) (hr : Room (k + 1) X.A) (hN : X.N[i]? = some x) (hv : Vis X.env.scope x) (hb : Binds X.K fd ps []) (hx : Passes CX X E) (ha : PA X (e :: es) t)
    (hd : (x == ("__debug__" : Str)) = false := by decide) (hcd : (x == ("__classdict__" : Str)) = false := by decide)
    (he : starEach (e :: es) X.env = (false, eval e X.env) :: starEach es X.env := by rfl) (hpl : (backTo pos (starEach es X.env)).any (·.1) = false := by rfl) :
    PE X (.Call (.Name x p) (e :: es) [] pos) (tMakeV i C sp E t) := by
  refine ⟨fun pins s σ H Q I h => ?_⟩
  obtain ⟨hs, ht⟩ := h
  refine wpAny_Call_Name_kw (thn ((pe_var (pos := p) hN hv hd hcd).run pins s σ H (fun v H1 => v = .ref C ∧ H1 = H) I ⟨.ref C, hs, rfl, rfl⟩) fun u s1 ⟨v, H1, I1, r1, q1⟩ => ?_)
  obtain ⟨rfl, rfl⟩ := q1
  cases r1
  refine PySem.W.callWith_K (h₀ := X.base) I.ok.mod.kin M.kp (thn (ha.run pos pins s1 σ _ _ I1 ht) fun us s2 ⟨vs, H2, I2, r, q⟩ => ⟨I2.kIn, ?_⟩) he hpl
  exact run_make M F hr hb .nil hx I2 r q
end
section
variable {X : Cx} {CX : CXT} {k : Nat} {C p g : Addr} {mc : Value} {sp : Sp} {E : XK} {o : Expr} {m : Str} {pos apos : Pos} {ta : TE} {pl : Sem Bool}
/-- C.m() -/
theorem pe_cmeth0 (he : PE X o ta) (r : ClX.CRead X.K C mc) (c : ClX.CMet X.K C mc m p g) (F : FnR X.prog X.w X.K X.mg X.base CX k g sp) (hr : Room k X.A) (hx : Passes CX X E)
    (ht : eval (.Call (.Attribute o m apos) [] [] pos) X.env = (do
      let ov ← eval o X.env
      standAt apos.atName
      let (f, first) ← holding [ov] (getMethod ov m pl)
      callWith pos f first (backTo pos (starEach [] X.env)) (backToKw pos (keywordEach [] X.env))) := by rfl) :
    PE X (.Call (.Attribute o m apos) [] [] pos) (ClX.tCMeth C sp E ta tNil) := by
  refine ⟨fun pins s σ H Q I h => ?_⟩
  refine PySem.W.methodCall_KW (pl := pl) (thn (he.run pins s σ H _ I h) fun u s1 ⟨x, H1, I1, rx, ex, q⟩ => ?_) ht
  subst ex
  obtain rfl : u = Value.ref C := rx
  refine ClX.getmethcm_ok I1 r c fun s2 I2 => ?_
  refine PySem.W.callWith_M0 (first := []) ⟨ClX.pin_at I2, I2.kIn⟩ c.fi ?_
  exact ClX.run_cm F hr hx I2 .nil q
end
end TX
namespace TX
open PySem PySem.Spec PyProof.Rows L2
/-! ### the class -/
structure Np (K : PySem.W.Frag) (aN e1 e2 e3 e4 : Addr) : Prop where
  at_ : ∀ H, SqT K H aN [.ref e1, .ref e2, .ref e3, .ref e4]
  a1 : ∀ H, SqT K H e1 []
  a2 : ∀ H, SqT K H e2 []
  a3 : ∀ H, SqT K H e3 []
  a4 : ∀ H, SqT K H e4 [.int 0, .int 0, .int 0, .int 0, .int 0, .int 0]
theorem Np.plan {K : PySem.W.Frag} {aN e1 e2 e3 e4 : Addr} (N : Np K aN e1 e2 e3 e4) (H : Hp) : PlanF K H aN (predsOf [] []) [] [] e1 e2 e3 e4 [] [0, 0, 0, 0, 0, 0] := by
  refine ⟨N.at_ H, .inr (N.a1 H), .inr (N.a2 H), .inr ⟨N.a3 H, rfl⟩, .inr (N.a4 H), rfl, ⟨rfl, Nat.zero_le _, fun k hk => (nomatch hk), fun i r p e1 _ => ?_⟩, rfl, fun n hn => ?_⟩
  · simp at e1
  · have : n = 0 ∨ n = 1 ∨ n = 2 ∨ n = 3 ∨ n = 4 ∨ n = 5 := by omega
    rcases this with rfl | rfl | rfl | rfl | rfl | rfl <;> rfl
def spOne (K : PySem.W.Frag) (C : Addr) (g : Sg) : Sp := fun vs H Q _ => ∃ Hv, vs = [.ref C] ∧ Same Hv H ∧ NewS K C H Hv [g] Q
def spTexts (K : PySem.W.Frag) (C : Addr) : Sp := fun vs H Q _ => ∃ (lo : Nat) (hi : Option Nat) (Hv : Hp), vs = [.ref C, .int (lo : Nat), hiV hi] ∧ Same Hv H ∧ lo ≤ 3 ∧ (∀ h, hi = some h → h ≤ 3) ∧ NewS K C H Hv [.texts lo hi] Q
def spOver (K : PySem.W.Frag) (C : Addr) (mk : Nat → Sg) : Sp := fun vs H Q _ => ∃ (x : Addr) (gs : List Sg) (Hv : Hp), vs = [.ref C, .ref x] ∧ Same Hv H ∧ ShAt K Hv C x gs ∧ gs ≠ [] ∧ gs.length ≤ 400 ∧ asksN gs + 1 ≤ 8 ∧ NewS K C H Hv (gs ++ [mk (gs.length - 1)]) Q
def spConS (K : PySem.W.Frag) (C : Addr) : Sp := fun vs H Q _ => ∃ (x : Addr) (gs : List Sg) (g : Sg) (v : V) (d : PyData) (Hv : Hp), vs = [.ref x, v] ∧ ShAt K Hv C x (gs ++ [g]) ∧ Same Hv H ∧ Dp K Hv v d ∧ bdD d ∧ nd d ≤ 50000 ∧
  (valD d → ∀ H', Same H H' → Q (.bl (g.pred (predsOf [] gs) d)) H') ∧ (¬ valD d → ∀ H', Same H H' → Q (.bl false) H')
section
variable {P : Program} {w : World} {K : PySem.W.Frag} {mg : Str → Option Value} {base : Heap} {C : Addr}
theorem scEvery : FnScope ["cls"] ["cls"] (defScope mShape_every) := ⟨rfl, rfl, rfl, by decide +kernel, rfl, by decide +kernel, by decide +kernel⟩
theorem ok_every {f fI fF aN e1 e2 e3 e4 : Addr} {fd dI dF : FuncData} (F : Fun K "every" "Shape.every" mShape_every f fd) (M : Mk K C fI) (GI : FnOk P w K mg base CX0 4 fI dI ["self", "recipe", "before"] (spInitS K C)) (bI : Binds K dI ["self", "recipe", "before"] [])
    (GF : FnOk P w K mg base CX0 1 fF dF ["sign", "numbers"] (spFirst K)) (gF : mg "first_step" = some (.ref fF)) (kF : PySem.W.keepIn K (.ref fF) = true) (bF : Binds K dF ["sign", "numbers"] []) (N : Np K aN e1 e2 e3 e4) (gN : mg "NO_PLAN" = some (.ref aN)) : FnOk P w K mg base CX0 6 f fd ["cls"] (spOne K C .every) := by
  refine F.ok scEvery (fun vs H Q E h => ?_) (fun cdv A outer s H vs Q E hr h => ?_)
  · obtain ⟨Hv, rfl, _⟩ := h
    rfl
  · obtain ⟨Hv, rfl, sv, q⟩ := h
    refine ⟨_, pss_one (ps_ret (pe_makeV (i := 0) (E := E0) M GI hr rfl (.inl rfl) bI pass0 (pa_cons (pe_call GF (hr.mono (by decide)) (by rfl) gF kF bF .nil pass0 (pa_cons pe_str (pa_cons (pe_tup pa_nil) pa_nil))) (pa_cons (pe_glob (v := .ref aN) (by rfl) gN rfl) pa_nil)))), ?_⟩
    refine ⟨rfl, Nat.zero_le _, fun n nn => ⟨.every, n, ov H Hv (upd H n (.tup [])), rfl, ov_same sv (same_upd nn), SqT.of (by rw [ov_new nn, upd_same]; rfl), rfl, trivial, fun H' rc as s RC => ?_⟩⟩
    have s1 := same_upd (o := .tup []) nn
    exact mk_shape (g0 := []) (gs := [.every]) (ov_same (ov_same sv s1) s) (N.plan _) RC (by rw [RC.len]; decide) (Nat.le_refl _) (by decide) rfl ((q.up s1).up s)
theorem scNever : FnScope ["cls"] ["cls"] (defScope mShape_never) := ⟨rfl, rfl, rfl, by decide +kernel, rfl, by decide +kernel, by decide +kernel⟩
theorem ok_never {f fI fF aN e1 e2 e3 e4 : Addr} {fd dI dF : FuncData} (F : Fun K "never" "Shape.never" mShape_never f fd) (M : Mk K C fI) (GI : FnOk P w K mg base CX0 4 fI dI ["self", "recipe", "before"] (spInitS K C)) (bI : Binds K dI ["self", "recipe", "before"] [])
    (GF : FnOk P w K mg base CX0 1 fF dF ["sign", "numbers"] (spFirst K)) (gF : mg "first_step" = some (.ref fF)) (kF : PySem.W.keepIn K (.ref fF) = true) (bF : Binds K dF ["sign", "numbers"] []) (N : Np K aN e1 e2 e3 e4) (gN : mg "NO_PLAN" = some (.ref aN)) : FnOk P w K mg base CX0 6 f fd ["cls"] (spOne K C .never) := by
  refine F.ok scNever (fun vs H Q E h => ?_) (fun cdv A outer s H vs Q E hr h => ?_)
  · obtain ⟨Hv, rfl, _⟩ := h
    rfl
  · obtain ⟨Hv, rfl, sv, q⟩ := h
    refine ⟨_, pss_one (ps_ret (pe_makeV (i := 0) (E := E0) M GI hr rfl (.inl rfl) bI pass0 (pa_cons (pe_call GF (hr.mono (by decide)) (by rfl) gF kF bF .nil pass0 (pa_cons pe_str (pa_cons (pe_tup pa_nil) pa_nil))) (pa_cons (pe_glob (v := .ref aN) (by rfl) gN rfl) pa_nil)))), ?_⟩
    refine ⟨rfl, Nat.zero_le _, fun n nn => ⟨.never, n, ov H Hv (upd H n (.tup [])), rfl, ov_same sv (same_upd nn), SqT.of (by rw [ov_new nn, upd_same]; rfl), rfl, trivial, fun H' rc as s RC => ?_⟩⟩
    have s1 := same_upd (o := .tup []) nn
    exact mk_shape (g0 := []) (gs := [.never]) (ov_same (ov_same sv s1) s) (N.plan _) RC (by rw [RC.len]; decide) (Nat.le_refl _) (by decide) rfl ((q.up s1).up s)
theorem scNothing : FnScope ["cls"] ["cls"] (defScope mShape_nothing) := ⟨rfl, rfl, rfl, by decide +kernel, rfl, by decide +kernel, by decide +kernel⟩
theorem ok_nothing {f fI fF aN e1 e2 e3 e4 : Addr} {fd dI dF : FuncData} (F : Fun K "nothing" "Shape.nothing" mShape_nothing f fd) (M : Mk K C fI) (GI : FnOk P w K mg base CX0 4 fI dI ["self", "recipe", "before"] (spInitS K C)) (bI : Binds K dI ["self", "recipe", "before"] [])
    (GF : FnOk P w K mg base CX0 1 fF dF ["sign", "numbers"] (spFirst K)) (gF : mg "first_step" = some (.ref fF)) (kF : PySem.W.keepIn K (.ref fF) = true) (bF : Binds K dF ["sign", "numbers"] []) (N : Np K aN e1 e2 e3 e4) (gN : mg "NO_PLAN" = some (.ref aN)) : FnOk P w K mg base CX0 6 f fd ["cls"] (spOne K C .nothing) := by
  refine F.ok scNothing (fun vs H Q E h => ?_) (fun cdv A outer s H vs Q E hr h => ?_)
  · obtain ⟨Hv, rfl, _⟩ := h
    rfl
  · obtain ⟨Hv, rfl, sv, q⟩ := h
    refine ⟨_, pss_one (ps_ret (pe_makeV (i := 0) (E := E0) M GI hr rfl (.inl rfl) bI pass0 (pa_cons (pe_call GF (hr.mono (by decide)) (by rfl) gF kF bF .nil pass0 (pa_cons pe_str (pa_cons (pe_tup pa_nil) pa_nil))) (pa_cons (pe_glob (v := .ref aN) (by rfl) gN rfl) pa_nil)))), ?_⟩
    refine ⟨rfl, Nat.zero_le _, fun n nn => ⟨.nothing, n, ov H Hv (upd H n (.tup [])), rfl, ov_same sv (same_upd nn), SqT.of (by rw [ov_new nn, upd_same]; rfl), rfl, trivial, fun H' rc as s RC => ?_⟩⟩
    have s1 := same_upd (o := .tup []) nn
    exact mk_shape (g0 := []) (gs := [.nothing]) (ov_same (ov_same sv s1) s) (N.plan _) RC (by rw [RC.len]; decide) (Nat.le_refl _) (by decide) rfl ((q.up s1).up s)
theorem scTexts : FnScope ["cls", "least", "most"] ["cls", "least", "most"] (defScope mShape_texts) := ⟨rfl, rfl, rfl, by decide +kernel, rfl, by decide +kernel, by decide +kernel⟩
theorem ok_texts {f fI fF aN e1 e2 e3 e4 : Addr} {fd dI dF : FuncData} {dvs : List V} {kws : List (Str × V)} (F : FunD K "texts" "Shape.texts" (defArgs mShape_texts) (defBody mShape_texts) (defScope mShape_texts) dvs kws f fd) (M : Mk K C fI) (GI : FnOk P w K mg base CX0 4 fI dI ["self", "recipe", "before"] (spInitS K C)) (bI : Binds K dI ["self", "recipe", "before"] [])
    (GF : FnOk P w K mg base CX0 1 fF dF ["sign", "numbers"] (spFirst K)) (gF : mg "first_step" = some (.ref fF)) (kF : PySem.W.keepIn K (.ref fF) = true) (bF : Binds K dF ["sign", "numbers"] []) (N : Np K aN e1 e2 e3 e4) (gN : mg "NO_PLAN" = some (.ref aN)) : FnOk P w K mg base CX0 6 f fd ["cls", "least", "most"] (spTexts K C) := by
  refine F.ok scTexts (fun vs H Q E h => ?_) (fun cdv A outer s H vs Q E hr h => ?_)
  · obtain ⟨lo, hi, Hv, rfl, _⟩ := h
    rfl
  · obtain ⟨lo, hi, Hv, rfl, sv, hl, hh, q⟩ := h
    refine ⟨_, pss_one (ps_ret (pe_makeV (i := 0) (E := E0) M GI hr rfl (.inl rfl) bI pass0 (pa_cons (pe_call GF (hr.mono (by decide)) (by rfl) gF kF bF .nil pass0 (pa_cons pe_str (pa_cons (pe_tup (pa_cons (pv 1) (pa_cons (pv 2) pa_nil))) pa_nil))) (pa_cons (pe_glob (v := .ref aN) (by rfl) gN rfl) pa_nil)))), ?_⟩
    refine ⟨rfl, _, rfl, _, rfl, (by show 2 ≤ sizeLine; decide), fun n nn => ⟨.texts lo hi, n, ov H Hv (upd H n (.tup [.int (lo : Nat), hiV hi])), rfl, ov_same sv (same_upd nn), SqT.of (by rw [ov_new nn, upd_same]; rfl), rfl, ⟨hl, hh⟩, fun H' rc as s RC => ?_⟩⟩
    have s1 := same_upd (o := .tup [.int (lo : Nat), hiV hi]) nn
    exact mk_shape (g0 := []) (gs := [.texts lo hi]) (ov_same (ov_same sv s1) s) (N.plan _) RC (by rw [RC.len]; exact (by decide : 1 ≤ 500)) (Nat.le_refl _) (show 0 + 0 ≤ 8 by decide) rfl ((q.up s1).up s)
theorem scLists : FnScope ["cls", "shape"] ["cls", "shape"] (defScope mShape_lists) := ⟨rfl, rfl, rfl, by decide +kernel, rfl, by decide +kernel, by decide +kernel⟩
theorem ok_listsS {f fI fA : Addr} {fd dI dA : FuncData} (F : Fun K "lists" "Shape.lists" mShape_lists f fd) (T : Ek K mg C) (M : Mk K C fI) (GI : FnOk P w K mg base CX0 4 fI dI ["self", "recipe", "before"] (spInitS K C)) (bI : Binds K dI ["self", "recipe", "before"] [])
    (GA : FnOk P w K mg base CX0 1 fA dA ["sign", "recipe"] (spAbove K)) (gA : mg "step_above" = some (.ref fA)) (kA : PySem.W.keepIn K (.ref fA) = true) (bA : Binds K dA ["sign", "recipe"] []) : FnOk P w K mg base CX0 6 f fd ["cls", "shape"] (spOver K C .lists) := by
  refine F.ok scLists (fun vs H Q E h => ?_) (fun cdv A outer s H vs Q E hr h => ?_)
  · obtain ⟨x, gs, Hv, rfl, _⟩ := h
    rfl
  · obtain ⟨x, gs, Hv, rfl, sv, ⟨dx, rc, pl, aW, aA, aR, aL, as, ak, ws, ar, lv, hx0, RC, PF, hW, hk⟩, hne, hl, h8, q⟩ := h
    have hx := sv _ _ hx0
    refine ⟨_, pss_one (ps_ret (pe_makeV (i := 0) (E := E0) M GI hr rfl (.inl rfl) bI pass0 (pa_cons (pe_call GA (hr.mono (by decide)) (by rfl) gA kA bA .nil pass0 (pa_cons pe_str (pa_cons (pe_fld (pv 1) rfl) pa_nil))) (pa_cons (pe_fld (pv 1) rfl) pa_nil)))), ?_⟩
    have al := RC.len
    refine ⟨rfl, _, rfl, x, C, dx, _, _, rfl, hx, T.cl, T.nR, shF_rec rc pl, .lists (gs.length - 1), rc, as, gs, Hv, rfl, sv, RC, hne, rfl, rfl, trivial, by omega, fun H' rc' as' s RC' => ?_⟩
    refine ⟨_, rfl, x, C, dx, _, _, rfl, s _ _ hx, T.cl, T.nP, shF_plan rc pl, ?_⟩
    have al' := RC'.len
    rw [List.length_append, List.length_singleton] at al'
    exact mk_shape (g0 := gs) (gs := [.lists (gs.length - 1)]) (ov_same sv s) (PF.up (ov_sub sv)) RC' (by omega) hk h8 (asksN_snoc gs _) (q.up s)
theorem scNested : FnScope ["cls", "shape"] ["cls", "shape"] (defScope mShape_nested) := ⟨rfl, rfl, rfl, by decide +kernel, rfl, by decide +kernel, by decide +kernel⟩
theorem ok_nestedS {f fI fA : Addr} {fd dI dA : FuncData} (F : Fun K "nested" "Shape.nested" mShape_nested f fd) (T : Ek K mg C) (M : Mk K C fI) (GI : FnOk P w K mg base CX0 4 fI dI ["self", "recipe", "before"] (spInitS K C)) (bI : Binds K dI ["self", "recipe", "before"] [])
    (GA : FnOk P w K mg base CX0 1 fA dA ["sign", "recipe"] (spAbove K)) (gA : mg "step_above" = some (.ref fA)) (kA : PySem.W.keepIn K (.ref fA) = true) (bA : Binds K dA ["sign", "recipe"] []) : FnOk P w K mg base CX0 6 f fd ["cls", "shape"] (spOver K C .nested) := by
  refine F.ok scNested (fun vs H Q E h => ?_) (fun cdv A outer s H vs Q E hr h => ?_)
  · obtain ⟨x, gs, Hv, rfl, _⟩ := h
    rfl
  · obtain ⟨x, gs, Hv, rfl, sv, ⟨dx, rc, pl, aW, aA, aR, aL, as, ak, ws, ar, lv, hx0, RC, PF, hW, hk⟩, hne, hl, h8, q⟩ := h
    have hx := sv _ _ hx0
    refine ⟨_, pss_one (ps_ret (pe_makeV (i := 0) (E := E0) M GI hr rfl (.inl rfl) bI pass0 (pa_cons (pe_call GA (hr.mono (by decide)) (by rfl) gA kA bA .nil pass0 (pa_cons pe_str (pa_cons (pe_fld (pv 1) rfl) pa_nil))) (pa_cons (pe_fld (pv 1) rfl) pa_nil)))), ?_⟩
    have al := RC.len
    refine ⟨rfl, _, rfl, x, C, dx, _, _, rfl, hx, T.cl, T.nR, shF_rec rc pl, .nested (gs.length - 1), rc, as, gs, Hv, rfl, sv, RC, hne, rfl, rfl, trivial, by omega, fun H' rc' as' s RC' => ?_⟩
    refine ⟨_, rfl, x, C, dx, _, _, rfl, s _ _ hx, T.cl, T.nP, shF_plan rc pl, ?_⟩
    have al' := RC'.len
    rw [List.length_append, List.length_singleton] at al'
    exact mk_shape (g0 := gs) (gs := [.nested (gs.length - 1)]) (ov_same sv s) (PF.up (ov_sub sv)) RC' (by omega) hk h8 (asksN_snoc gs _) (q.up s)
theorem scConS : FnScope ["self", "x"] ["self", "x"] (defScope mShape_contains) := ⟨rfl, rfl, rfl, by decide +kernel, rfl, by decide +kernel, by decide +kernel⟩
theorem ok_conS {f fM aV : Addr} {fd dM : FuncData} (F : Fun K "__contains__" "Shape.__contains__" mShape_contains f fd) (T : Ek K mg C) (hV : ∀ H, SqT K H aV leavesL) (GM : FnOk P w K mg base CX0 3 fM dM ["plan", "thing"] (spMember K aV)) (gM : mg "is_member" = some (.ref fM)) (kM : PySem.W.keepIn K (.ref fM) = true) (bM : Binds K dM ["plan", "thing"] []) :
    FnOk P w K mg base CX0 4 f fd ["self", "x"] (spConS K C) := by
  refine F.ok scConS (fun vs H Q E h => ?_) (fun cdv A outer s H vs Q E hr h => ?_)
  · obtain ⟨x, gs, g, v, d, Hv, rfl, _⟩ := h
    rfl
  · obtain ⟨x, gs, g, v, d, Hv, rfl, ⟨dx, rc, pl, aW, aA, aR, aL, as, ak, ws, ar, lv, hx0, RC, PF, hW, hk⟩, sv, hd, hb, hn, q1, q2⟩ := h
    have hx := sv _ _ hx0
    refine ⟨_, pss_cons (ps_if (pt_cmp (pc_isN (pe_fld (pv 0) rfl))) (pss_one ps_never) pss_nil) <| pss_one (ps_ret (pe_call GM hr (by rfl) gM kM bM .nil pass0 (pa_cons (pe_fld (pv 0) rfl) (pa_cons (pv 1) pa_nil)))), ?_⟩
    rw [predsOf_snoc] at PF
    obtain ⟨row, PA⟩ := PF.at_last hW
    refine ⟨_, rfl, x, C, dx, _, _, rfl, hx, T.cl, T.nP, shF_plan rc pl, _, rfl, iteF ?_⟩
    exact ⟨_, rfl, x, C, dx, _, _, rfl, hx, T.cl, T.nP, shF_plan rc pl, _, rfl, pl, aW, _, aR, aL, _, _, ws, ar, lv, row, v, d, Hv, rfl, PA, hV Hv, sv, hd, hb, hn, q1, q2⟩
end
end TX
namespace TX
open PySem PySem.Spec PyProof.Rows L2
/-! ### nodes, and which values they have -/
inductive Nd where
  | every | never | nothing
  | texts (lo hi : Nat)
  | lists (n : Nd) | nested (n : Nd) | not_ (n : Nd) | not3 (n m : Nd)
  | or_ (n m : Nd) | and_ (n m : Nd) | less (n m : Nd)
def Nd.dat : Nd → PyData
  | .every => .tuple [.str "every"]
  | .never => .tuple [.str "never"]
  | .nothing => .tuple [.str "nothing"]
  | .texts lo hi => .tuple [.str "texts", .int (lo : Nat), .int (hi : Nat)]
  | .lists n => .tuple [.str "lists", n.dat]
  | .nested n => .tuple [.str "nested", n.dat]
  | .not_ n => .tuple [.str "not", n.dat]
  | .not3 n m => .tuple [.str "not", n.dat, m.dat]
  | .or_ n m => .tuple [.str "or", n.dat, m.dat]
  | .and_ n m => .tuple [.str "and", n.dat, m.dat]
  | .less n m => .tuple [.str "less", n.dat, m.dat]
def Nd.word : Nd → Str
  | .every => "every"
  | .never => "never"
  | .nothing => "nothing"
  | .texts _ _ => "texts"
  | .lists _ => "lists"
  | .nested _ => "nested"
  | .not_ _ => "not"
  | .not3 _ _ => "not"
  | .or_ _ _ => "or"
  | .and_ _ _ => "and"
  | .less _ _ => "less"
def Nd.deep : Nd → Nat
  | .lists n => n.deep + 1
  | .nested n => n.deep + 1
  | .not_ n => n.deep + 1
  | .not3 n m => max n.deep m.deep + 1
  | .or_ n m => max n.deep m.deep + 1
  | .and_ n m => max n.deep m.deep + 1
  | .less n m => max n.deep m.deep + 1
  | _ => 0
def textQ (lo hi : Nat) : PyData → Bool
  | .str z => decide (lo ≤ z.length) && decide (z.length ≤ hi)
  | _ => false
def Nd.has : Nd → PyData → Bool
  | .every => fun _ => true
  | .never => fun _ => false
  | .nothing => noneP
  | .texts lo hi => textQ lo hi
  | .lists n => listsP n.has
  | .nested n => nestP n.has
  | .not_ n => fun d => !n.has d
  | .not3 n _ => fun d => !n.has d
  | .or_ n m => fun d => n.has d || m.has d
  | .and_ n m => fun d => n.has d && m.has d
  | .less n m => fun d => n.has d && !m.has d
/-- a node's words on the heap -/
theorem Nd.at_ {K : PySem.W.Frag} {H : Hp} {v : V} {n : Nd} (h : Dp K H v n.dat) : ∃ (a : Addr) (us : List V) (es : List PyData), v = .ref a ∧ SqT K H a (.str n.word :: us) ∧ n.dat = .tuple (.str n.word :: es) ∧ DpAll K H us es := by
  cases n <;> · cases h with
    | tup h1 h2 =>
      cases h2 with
      | cons g1 g2 =>
        cases g1
        exact ⟨_, _, _, rfl, h1, rfl, g2⟩
theorem dep_mem {ds : List PyData} {d : PyData} (h : d ∈ ds) : d.depth ≤ PyData.depthAll ds := by
  induction ds with
  | nil => cases h
  | cons e ds ih =>
    simp only [PyData.depthAll]
    rcases List.mem_cons.mp h with rfl | z
    · omega
    · have := ih z
      omega
theorem nd_mem {ds : List PyData} {d : PyData} (h : d ∈ ds) : nd d ≤ ndAll ds := by
  induction ds with
  | nil => cases h
  | cons e ds ih =>
    simp only [ndAll]
    rcases List.mem_cons.mp h with rfl | z
    · omega
    · have := ih z
      omega
theorem bd_mem {ds : List PyData} {d : PyData} (hb : bdAll ds) (h : d ∈ ds) : bdD d := by
  induction ds with
  | nil => cases h
  | cons e ds ih =>
    rcases List.mem_cons.mp h with rfl | z
    · exact hb.1
    · exact ih hb.2 z
theorem valIn {ds : List PyData} {d : PyData} (hb : valAll ds) (h : d ∈ ds) : valD d := by
  induction ds with
  | nil => cases h
  | cons e ds ih =>
    rcases List.mem_cons.mp h with rfl | z
    · exact hb.1
    · exact ih hb.2 z
theorem DpAll.at_ {K : PySem.W.Frag} {H : Hp} : ∀ {ds : List PyData} {vs : List V} {j : Nat} {x : V}, DpAll K H vs ds → vs[j]? = some x → ∃ d, ds[j]? = some d ∧ Dp K H x d
  | [], _, j, x, h, e => by
    cases h
    simp at e
  | d :: ds, _, j, x, h, e => by
    cases h with
    | cons h1 h2 =>
      cases j with
      | zero =>
        simp only [List.getElem?_cons_zero, Option.some.injEq] at e
        subst e
        exact ⟨d, rfl, h1⟩
      | succ j =>
        simp only [List.getElem?_cons_succ] at e
        obtain ⟨d', e', h'⟩ := DpAll.at_ h2 e
        exact ⟨d', e', h'⟩
/-- what _law_has may be asked -/
structure AskOk (d : PyData) : Prop where
  val : valD d
  bd : bdD d
  nd : nd d ≤ 50000
theorem AskOk.item {es : List PyData} (h : AskOk (.list es)) {e : PyData} (he : e ∈ es) : AskOk e := by
  have := nd_mem he
  have h2 := h.nd
  simp only [TX.nd] at h2
  exact ⟨valIn h.val he, bd_mem h.bd he, by omega⟩
def spHas (K : PySem.W.Frag) (N : Nat) : Sp := fun vs H Q _ => ∃ (u : V) (n : Nd) (v : V) (d : PyData), vs = [u, v] ∧ Dp K H u n.dat ∧ Dp K H v d ∧ AskOk d ∧ n.deep + d.depth ≤ N ∧ ∀ H', Same H H' → Q (.bl (n.has d)) H'
def teHas (K : PySem.W.Frag) (N : Nat) (t : TE) : TE := fun σ H Q => ∃ j : { M : Nat // M + 1 = N }, tCall (spHas K j.1) [] E0 (tCons t (tCons (tVar 3) tNil)) σ H Q
structure Mh (mg : Str → Option Value) : Prop where
  all : mg "all" = none
section
variable {P : Program} {w : World} {K : PySem.W.Frag} {mg : Str → Option Value} {base : Heap}
theorem scHas : FnScope ["_law_node", "_law_value", "_law_word", "_law_one"] ["_law_node", "_law_value"] (defScope s__law_has) := ⟨rfl, rfl, rfl, by decide +kernel, rfl, by decide +kernel, by decide +kernel⟩
theorem ok_has1 {f : Addr} {fd : FuncData} (F : Fun K "_law_has" "_law_has" s__law_has f fd) (b : Binds K fd ["_law_node", "_law_value"] []) (g : mg "_law_has" = some (.ref f)) (T : Nm mg) (k : Nk mg) (B : Nb mg) (M : Mh mg) (N : Nat)
    (G : ∀ j : { M : Nat // M + 1 = N }, FnOk P w K mg base CX0 (j.1 + 1) f fd ["_law_node", "_law_value"] (spHas K j.1)) : FnOk P w K mg base CX0 (N + 1) f fd ["_law_node", "_law_value"] (spHas K N) := by
  refine F.ok scHas (fun vs H Q E h => ?_) (fun cdv A outer s H vs Q E hr h => ?_)
  · obtain ⟨u, n, v, d, rfl, _⟩ := h
    rfl
  · obtain ⟨u, n, v, d, rfl, hn, hd, hk, hN, q⟩ := h
    have hrR : ∀ j : { M : Nat // M + 1 = N }, Room (j.1 + 1) _ := fun j => hr.mono (by have := j.2; omega)
    refine ⟨_, pss_cons (ps_set (i := 2) scHas.nd rfl (.inl rfl) (pe_ix ix_tup (pv 0) pe_int (fun _ _ => rfl))) <|
      pss_cons (ps_if (pt_cmpR op_eq (pv 2) pe_str (nomark _)) (pss_one (ps_ret (pe_and (pe_callB call_isi (by rfl) T.isi (by decide +kernel) (pa_cons (pv 1) (pa_cons (pe_bltn (v := .ty "str") (by rfl) k.str (by decide +kernel) rfl) pa_nil))) (pe_one (pe_chain op_le op_le (pe_ix ix_tup (pv 0) pe_int (fun _ _ => rfl)) (pe_callB call_len_str (by rfl) B.len PySem.boot_len (pa_cons (pv 1) pa_nil)) (pe_ix ix_tup (pv 0) pe_int (fun _ _ => rfl))))))) pss_nil) <|
      pss_cons (ps_if (pt_cmpR op_eq (pv 2) pe_str (nomark _)) (pss_one (ps_ret (pe_and (pe_callB call_isi (by rfl) T.isi (by decide +kernel) (pa_cons (pv 1) (pa_cons (pe_bltn (v := .ty "list") (by rfl) T.lst (by decide +kernel) rfl) pa_nil))) (pe_one (pe_callB (cr_all rfl) (by rfl) M.all (by decide +kernel) (pa_cons (pe_lc (own := [("_law_one", 3)]) (g := gName 3) (tt := tYes) (te := teHas K N (tOp (rIxT K) (tVar 0) (tC (.int 1)))) rfl scHas.nd (pi_list (pv 1)) (blkOk_by (own := [("_law_one", 3)]) (N := ["_law_node", "_law_value", "_law_word", "_law_one"]) (sc := defScope s__law_has) (by decide +kernel))
        (fun _ _ _ _ _ => pg_name (i := 3) scHas.nd rfl (Or.inl rfl)) (fun _ _ _ _ _ => pts_nil) (fun _ _ _ _ _ => (pe_ex fun j => pe_call (G j) (hrR j) (by rfl) g F.kp b .nil pass0 (pa_cons (pe_ix ix_tup (pv 0) pe_int (fun _ _ => rfl)) (pa_cons (pv 3) pa_nil))))) pa_nil)))))) pss_nil) <|
      pss_cons (ps_if (pt_cmpR op_eq (pv 2) pe_str (nomark _)) (pss_cons (ps_if (pt_val (pe_ex fun j => pe_call (G j) (hrR j) (by rfl) g F.kp b .nil pass0 (pa_cons (pe_ix ix_tup (pv 0) pe_int (fun _ _ => rfl)) (pa_cons (pv 1) pa_nil)))) (pss_one (ps_ret pe_bl)) pss_nil) <| pss_one (ps_ret (pe_and (pe_callB call_isi (by rfl) T.isi (by decide +kernel) (pa_cons (pv 1) (pa_cons (pe_bltn (v := .ty "list") (by rfl) T.lst (by decide +kernel) rfl) pa_nil))) (pe_one (pe_callB (cr_all rfl) (by rfl) M.all (by decide +kernel) (pa_cons (pe_lc (own := [("_law_one", 3)]) (g := gName 3) (tt := tYes) (te := teHas K N (tVar 0)) rfl scHas.nd (pi_list (pv 1)) (blkOk_by (own := [("_law_one", 3)]) (N := ["_law_node", "_law_value", "_law_word", "_law_one"]) (sc := defScope s__law_has) (by decide +kernel))
        (fun _ _ _ _ _ => pg_name (i := 3) scHas.nd rfl (Or.inl rfl)) (fun _ _ _ _ _ => pts_nil) (fun _ _ _ _ _ => (pe_ex fun j => pe_call (G j) (hrR j) (by rfl) g F.kp b .nil pass0 (pa_cons (pv 0) (pa_cons (pv 3) pa_nil))))) pa_nil)))))) pss_nil) <|
      pss_cons (ps_if (pt_cmpR op_eq (pv 2) pe_str (nomark _)) (pss_one (ps_ret (pe_not (pe_ex fun j => pe_call (G j) (hrR j) (by rfl) g F.kp b .nil pass0 (pa_cons (pe_ix ix_tup (pv 0) pe_int (fun _ _ => rfl)) (pa_cons (pv 1) pa_nil)))))) pss_nil) <|
      pss_cons (ps_if (pt_cmpR op_eq (pv 2) pe_str (nomark _)) (pss_one (ps_ret (pe_or (pe_ex fun j => pe_call (G j) (hrR j) (by rfl) g F.kp b .nil pass0 (pa_cons (pe_ix ix_tup (pv 0) pe_int (fun _ _ => rfl)) (pa_cons (pv 1) pa_nil))) (pe_one (pe_ex fun j => pe_call (G j) (hrR j) (by rfl) g F.kp b .nil pass0 (pa_cons (pe_ix ix_tup (pv 0) pe_int (fun _ _ => rfl)) (pa_cons (pv 1) pa_nil))))))) pss_nil) <|
      pss_cons (ps_if (pt_cmpR op_eq (pv 2) pe_str (nomark _)) (pss_one (ps_ret (pe_and (pe_ex fun j => pe_call (G j) (hrR j) (by rfl) g F.kp b .nil pass0 (pa_cons (pe_ix ix_tup (pv 0) pe_int (fun _ _ => rfl)) (pa_cons (pv 1) pa_nil))) (pe_one (pe_ex fun j => pe_call (G j) (hrR j) (by rfl) g F.kp b .nil pass0 (pa_cons (pe_ix ix_tup (pv 0) pe_int (fun _ _ => rfl)) (pa_cons (pv 1) pa_nil))))))) pss_nil) <|
      pss_cons (ps_if (pt_cmpR op_eq (pv 2) pe_str (nomark _)) (pss_one (ps_ret (pe_and (pe_ex fun j => pe_call (G j) (hrR j) (by rfl) g F.kp b .nil pass0 (pa_cons (pe_ix ix_tup (pv 0) pe_int (fun _ _ => rfl)) (pa_cons (pv 1) pa_nil))) (pe_one (pe_not (pe_ex fun j => pe_call (G j) (hrR j) (by rfl) g F.kp b .nil pass0 (pa_cons (pe_ix ix_tup (pv 0) pe_int (fun _ _ => rfl)) (pa_cons (pv 1) pa_nil)))))))) pss_nil) <|
      pss_one (ps_ret (pe_or (pe_cmpR op_eq (pv 2) pe_str (nomark _)) (pe_one (pe_and (pe_cmpR op_eq (pv 2) pe_str (nomark _)) (pe_one (pe_cmp (pc_isN (pv 1)))))))), ?_⟩
    obtain ⟨a, us, es, rfl, ha, edat, hes⟩ := n.at_ hn
    refine ⟨_, rfl, a, _, 0, _, rfl, rfl, ha, atI_nat (j := 0) rfl, ?_⟩
    have ty := dp_ty hd
    cases n with
    | every => exact ⟨_, rfl, rfl, _, rfl, sF (by simp only [Nd.word]; decide +kernel) ⟨_, rfl, rfl, _, rfl, sF (by simp only [Nd.word]; decide +kernel) ⟨_, rfl, rfl, _, rfl, sF (by simp only [Nd.word]; decide +kernel) ⟨_, rfl, rfl, _, rfl, sF (by simp only [Nd.word]; decide +kernel) ⟨_, rfl, rfl, _, rfl, sF (by simp only [Nd.word]; decide +kernel) ⟨_, rfl, rfl, _, rfl, sF (by simp only [Nd.word]; decide +kernel) ⟨_, rfl, rfl, _, rfl, sF (by simp only [Nd.word]; decide +kernel) ⟨_, rfl, rfl, _, rfl, sT rfl (q H (Same.refl _))⟩⟩⟩⟩⟩⟩⟩⟩
    | never => exact ⟨_, rfl, rfl, _, rfl, sF (by simp only [Nd.word]; decide +kernel) ⟨_, rfl, rfl, _, rfl, sF (by simp only [Nd.word]; decide +kernel) ⟨_, rfl, rfl, _, rfl, sF (by simp only [Nd.word]; decide +kernel) ⟨_, rfl, rfl, _, rfl, sF (by simp only [Nd.word]; decide +kernel) ⟨_, rfl, rfl, _, rfl, sF (by simp only [Nd.word]; decide +kernel) ⟨_, rfl, rfl, _, rfl, sF (by simp only [Nd.word]; decide +kernel) ⟨_, rfl, rfl, _, rfl, sF (by simp only [Nd.word]; decide +kernel) ⟨_, rfl, rfl, _, rfl, sF (by simp only [Nd.word]; decide +kernel) ⟨_, rfl, rfl, _, rfl, sF (by simp only [Nd.word]; decide +kernel) (q H (Same.refl _))⟩⟩⟩⟩⟩⟩⟩⟩⟩
    | nothing =>
      refine ⟨_, rfl, rfl, _, rfl, sF (by simp only [Nd.word]; decide +kernel) ⟨_, rfl, rfl, _, rfl, sF (by simp only [Nd.word]; decide +kernel) ⟨_, rfl, rfl, _, rfl, sF (by simp only [Nd.word]; decide +kernel) ⟨_, rfl, rfl, _, rfl, sF (by simp only [Nd.word]; decide +kernel) ⟨_, rfl, rfl, _, rfl, sF (by simp only [Nd.word]; decide +kernel) ⟨_, rfl, rfl, _, rfl, sF (by simp only [Nd.word]; decide +kernel) ⟨_, rfl, rfl, _, rfl, sF (by simp only [Nd.word]; decide +kernel) ⟨_, rfl, rfl, _, rfl, sF (by simp only [Nd.word]; decide +kernel) ⟨_, rfl, rfl, _, rfl, sT rfl ⟨_, rfl, ?_⟩⟩⟩⟩⟩⟩⟩⟩⟩⟩
      have z := q H (Same.refl _)
      have vd := hk.val
      cases hd with
      | non => exact z
      | str x => exact z
      | lst _ _ => exact z
      | _ => exact vd.elim
    | texts lo hi =>
      cases edat
      cases hes with
      | @cons v1 _ _ _ h1 h2 =>
      cases h2 with
      | @cons v2 _ _ _ h3 h4 =>
      cases h4
      cases h1
      cases h3
      refine ⟨_, rfl, rfl, _, rfl, sT rfl ⟨_, rfl, v, .ty "str", _, .type "str", _, rfl, .ty _, ty, kitS d K, _, rfl, ?_⟩⟩
      have z := q H (Same.refl _)
      have vd := hk.val
      cases hd with
      | non => exact iteF z
      | lst _ _ => exact iteF z
      | str x =>
        refine iteT ⟨_, rfl, a, _, 1, .int (lo : Nat), rfl, rfl, ha, atI_nat (j := 1) rfl, _, rfl, x, rfl, ?_, _, _, rfl, rfl, _, rfl, ?_⟩
        · exact Nat.le_trans (show x.length ≤ 90000 from hk.bd) (by decide)
        · by_cases hl : (lo : Int) ≤ (x.length : Int)
          · rw [decide_eq_true hl]
            refine iteT ⟨_, rfl, a, _, 2, .int (hi : Nat), rfl, rfl, ha, atI_nat (j := 2) rfl, _, _, rfl, rfl, ?_⟩
            have e : (Nd.texts lo hi).has (.str x) = decide ((x.length : Int) ≤ (hi : Int)) := by
              simp only [Nd.has, textQ, decide_eq_true (show lo ≤ x.length by omega), Bool.true_and]
              congr 1
              apply propext
              omega
            rw [e] at z
            exact z
          · rw [decide_eq_false hl]
            refine iteF ?_
            have e : (Nd.texts lo hi).has (.str x) = false := by
              simp only [Nd.has, textQ, decide_eq_false (show ¬ lo ≤ x.length by omega), Bool.false_and]
            rw [e] at z
            exact z
      | _ => exact vd.elim
    | lists n =>
      cases edat
      cases hes with
      | @cons v1 _ _ _ h1 h2 =>
      cases h2
      simp only [Nd.deep] at hN
      obtain ⟨M', rfl⟩ : ∃ M', N = M' + 1 := ⟨N - 1, by omega⟩
      refine ⟨_, rfl, rfl, _, rfl, sF (by simp only [Nd.word]; decide +kernel) ⟨_, rfl, rfl, _, rfl, sT rfl ⟨_, rfl, v, .ty "list", _, .type "list", _, rfl, .ty _, ty, kitL d K, _, rfl, ?_⟩⟩⟩
      have vd := hk.val
      cases hd with
      | non => exact iteF (q H (Same.refl _))
      | str x => exact iteF (q H (Same.refl _))
      | @lst va xs es2 hS hA =>
        refine iteT ?_
        have dl0 : (PyData.list es2).depth = 1 + PyData.depthAll es2 := by simp only [PyData.depth]; omega
        refine ⟨_, rfl, va, rfl, ⟨_, (Same.refl H).seq hS⟩, fun D nD => lc_list (K := K) (a := va) (xs := xs) (fun j H2 => H2 D = some (.lst ((es2.take j).map fun e => V.bl (n.has e))) ∧ Same H H2) ⟨upd_same, same_upd nD⟩ (fun j H2 hj ⟨_, sm⟩ => ((Same.refl H).trans sm).seq hS) ?_ ?_⟩
        · rintro j x H2 hx ⟨hD, sm⟩
          obtain ⟨e, he, hxe⟩ := DpAll.at_ hA hx
          have hm := List.mem_of_getElem? he
          have dl := dep_mem hm
          have smH := (Same.refl H).trans sm
          refine ⟨rfl, ⟨⟨M', rfl⟩, _, rfl, a, _, 1, v1, rfl, rfl, same_sqt smH ha, atI_nat (j := 1) rfl, _, rfl, _, n, x, e, rfl, dp_same smH _ _ h1, dp_same smH _ _ hxe, hk.item hm, by rw [dl0] at hN; show _ ≤ M'; omega, fun H3 s3 => ⟨_, s3 _ _ hD, ?_, ?_, same_fresh nD (sm.trans s3)⟩⟩⟩
          · rw [List.length_map, List.length_take]
            exact Nat.lt_of_le_of_lt (show min j es2.length ≤ 50000 by have := hk.nd; have := ndAll_len es2; simp only [nd] at *; omega) (by decide)
          · rw [upd_same, List.take_add_one, he]
            simp only [List.map_append, Option.toList_some, List.map_cons, List.map_nil]
        rintro H2 ⟨hD, sm⟩
        rw [DpAll.length hA, List.take_length] at hD
        refine ⟨D, es2.map n.has, rfl, ?_, ?_⟩
        · rw [List.map_map]
          exact SqL.of hD
        have e : (Nd.lists n).has (.list es2) = (es2.map n.has).all id := by
          simp only [Nd.has, listsP, List.all_map]
          rfl
        have z := q H2 sm
        rw [e] at z
        exact z
      | _ => exact vd.elim
    | nested n =>
      cases edat
      cases hes with
      | @cons v1 _ _ _ h1 h2 =>
      cases h2
      simp only [Nd.deep] at hN
      obtain ⟨M', rfl⟩ : ∃ M', N = M' + 1 := ⟨N - 1, by omega⟩
      refine ⟨_, rfl, rfl, _, rfl, sF (by simp only [Nd.word]; decide +kernel) ⟨_, rfl, rfl, _, rfl, sF (by simp only [Nd.word]; decide +kernel) ⟨_, rfl, rfl, _, rfl, sT rfl ⟨⟨M', rfl⟩, _, rfl, a, _, 1, v1, rfl, rfl, ha, atI_nat (j := 1) rfl, _, rfl, v1, n, v, d, rfl, h1, hd, hk, by show _ ≤ M'; omega, fun H1 s1 => ⟨_, rfl, ?_⟩⟩⟩⟩⟩
      by_cases hh : n.has d = true
      · rw [hh]
        refine iteT ?_
        have z := q H1 s1
        have e : (Nd.nested n).has d = true := by
          simp only [Nd.has]
          cases d <;> simp [nestP, hh]
        rw [e] at z
        exact z
      · have hf : n.has d = false := by simpa using hh
        rw [hf]
        refine iteF ⟨_, rfl, v, .ty "list", _, .type "list", _, rfl, .ty _, dp_ty (dp_same s1 _ _ hd), kitL d K, _, rfl, ?_⟩
        have vd := hk.val
        cases hd with
        | non =>
          have z := q H1 s1
          rw [show (Nd.nested n).has .none = false from hf] at z
          exact iteF z
        | str x =>
          have z := q H1 s1
          rw [show (Nd.nested n).has (.str x) = false from hf] at z
          exact iteF z
        | @lst va xs es2 hS hA =>
          refine iteT ?_
          have dl0 : (PyData.list es2).depth = 1 + PyData.depthAll es2 := by simp only [PyData.depth]; omega
          refine ⟨_, rfl, va, rfl, ⟨_, s1.seq hS⟩, fun D nD => lc_list (K := K) (a := va) (xs := xs) (fun j H2 => H2 D = some (.lst ((es2.take j).map fun e => V.bl ((Nd.nested n).has e))) ∧ Same H1 H2) ⟨upd_same, same_upd nD⟩ (fun j H2 hj ⟨_, sm⟩ => (s1.trans sm).seq hS) ?_ ?_⟩
          · rintro j x H2 hx ⟨hD, sm⟩
            obtain ⟨e, he, hxe⟩ := DpAll.at_ hA hx
            have hm := List.mem_of_getElem? he
            have dl := dep_mem hm
            have smH := s1.trans sm
            refine ⟨rfl, ⟨⟨M', rfl⟩, _, rfl, _, rfl, _, (Nd.nested n), x, e, rfl, dp_same smH _ _ hn, dp_same smH _ _ hxe, hk.item hm, by rw [dl0] at hN; show n.nested.deep + e.depth ≤ M'; simp only [Nd.deep]; omega, fun H3 s3 => ⟨_, s3 _ _ hD, ?_, ?_, same_fresh nD (sm.trans s3)⟩⟩⟩
            · rw [List.length_map, List.length_take]
              exact Nat.lt_of_le_of_lt (show min j es2.length ≤ 50000 by have := hk.nd; have := ndAll_len es2; simp only [nd] at *; omega) (by decide)
            · rw [upd_same, List.take_add_one, he]
              simp only [List.map_append, Option.toList_some, List.map_cons, List.map_nil]
          rintro H2 ⟨hD, sm⟩
          rw [DpAll.length hA, List.take_length] at hD
          refine ⟨D, es2.map (Nd.nested n).has, rfl, ?_, ?_⟩
          · rw [List.map_map]
            exact SqL.of hD
          have e : (Nd.nested n).has (.list es2) = (es2.map (Nd.nested n).has).all id := by
            simp only [Nd.has, nestP, hf, Bool.false_or, nestAll_all, List.all_map]
            rfl
          have z := q H2 (s1.trans sm)
          rw [e] at z
          exact z
        | _ => exact vd.elim
    | not_ n =>
      cases edat
      cases hes with
      | @cons v1 _ _ _ h1 h2 =>
      cases h2
      simp only [Nd.deep] at hN
      obtain ⟨M', rfl⟩ : ∃ M', N = M' + 1 := ⟨N - 1, by omega⟩
      refine ⟨_, rfl, rfl, _, rfl, sF (by simp only [Nd.word]; decide +kernel) ⟨_, rfl, rfl, _, rfl, sF (by simp only [Nd.word]; decide +kernel) ⟨_, rfl, rfl, _, rfl, sF (by simp only [Nd.word]; decide +kernel) ⟨_, rfl, rfl, _, rfl, sT rfl ⟨⟨M', rfl⟩, _, rfl, a, _, 1, v1, rfl, rfl, ha, atI_nat (j := 1) rfl, _, rfl, v1, n, v, d, rfl, h1, hd, hk, by show _ ≤ M'; omega, fun H1 s1 => ⟨_, rfl, q H1 s1⟩⟩⟩⟩⟩⟩
    | not3 n m =>
      cases edat
      cases hes with
      | @cons v1 _ _ _ h1 h2 =>
      cases h2 with
      | @cons v2 _ _ _ h3 h4 =>
      cases h4
      simp only [Nd.deep] at hN
      obtain ⟨M', rfl⟩ : ∃ M', N = M' + 1 := ⟨N - 1, by omega⟩
      refine ⟨_, rfl, rfl, _, rfl, sF (by simp only [Nd.word]; decide +kernel) ⟨_, rfl, rfl, _, rfl, sF (by simp only [Nd.word]; decide +kernel) ⟨_, rfl, rfl, _, rfl, sF (by simp only [Nd.word]; decide +kernel) ⟨_, rfl, rfl, _, rfl, sT rfl ⟨⟨M', rfl⟩, _, rfl, a, _, 1, v1, rfl, rfl, ha, atI_nat (j := 1) rfl, _, rfl, v1, n, v, d, rfl, h1, hd, hk, by show _ ≤ M'; omega, fun H1 s1 => ⟨_, rfl, q H1 s1⟩⟩⟩⟩⟩⟩
    | or_ n m =>
      cases edat
      cases hes with
      | @cons v1 _ _ _ h1 h2 =>
      cases h2 with
      | @cons v2 _ _ _ h3 h4 =>
      cases h4
      simp only [Nd.deep] at hN
      obtain ⟨M', rfl⟩ : ∃ M', N = M' + 1 := ⟨N - 1, by omega⟩
      refine ⟨_, rfl, rfl, _, rfl, sF (by simp only [Nd.word]; decide +kernel) ⟨_, rfl, rfl, _, rfl, sF (by simp only [Nd.word]; decide +kernel) ⟨_, rfl, rfl, _, rfl, sF (by simp only [Nd.word]; decide +kernel) ⟨_, rfl, rfl, _, rfl, sF (by simp only [Nd.word]; decide +kernel) ⟨_, rfl, rfl, _, rfl, sT rfl ⟨⟨M', rfl⟩, _, rfl, a, _, 1, v1, rfl, rfl, ha, atI_nat (j := 1) rfl, _, rfl, v1, n, v, d, rfl, h1, hd, hk, by show _ ≤ M'; omega, fun H1 s1 => ⟨_, rfl, ?_⟩⟩⟩⟩⟩⟩⟩
      simp only [Nd.has] at q
      cases hh : n.has d with
      | true =>
        rw [hh] at q
        exact iteT (q H1 s1)
      | false =>
        rw [hh] at q
        exact iteF ⟨⟨M', rfl⟩, _, rfl, a, _, 2, v2, rfl, rfl, same_sqt s1 ha, atI_nat (j := 2) rfl, _, rfl, v2, m, v, d, rfl, dp_same s1 _ _ h3, dp_same s1 _ _ hd, hk, by show _ ≤ M'; omega, fun H2 s2 => q H2 (s1.trans s2)⟩
    | and_ n m =>
      cases edat
      cases hes with
      | @cons v1 _ _ _ h1 h2 =>
      cases h2 with
      | @cons v2 _ _ _ h3 h4 =>
      cases h4
      simp only [Nd.deep] at hN
      obtain ⟨M', rfl⟩ : ∃ M', N = M' + 1 := ⟨N - 1, by omega⟩
      refine ⟨_, rfl, rfl, _, rfl, sF (by simp only [Nd.word]; decide +kernel) ⟨_, rfl, rfl, _, rfl, sF (by simp only [Nd.word]; decide +kernel) ⟨_, rfl, rfl, _, rfl, sF (by simp only [Nd.word]; decide +kernel) ⟨_, rfl, rfl, _, rfl, sF (by simp only [Nd.word]; decide +kernel) ⟨_, rfl, rfl, _, rfl, sF (by simp only [Nd.word]; decide +kernel) ⟨_, rfl, rfl, _, rfl, sT rfl ⟨⟨M', rfl⟩, _, rfl, a, _, 1, v1, rfl, rfl, ha, atI_nat (j := 1) rfl, _, rfl, v1, n, v, d, rfl, h1, hd, hk, by show _ ≤ M'; omega, fun H1 s1 => ⟨_, rfl, ?_⟩⟩⟩⟩⟩⟩⟩⟩
      simp only [Nd.has] at q
      cases hh : n.has d with
      | false =>
        rw [hh] at q
        exact iteF (q H1 s1)
      | true =>
        rw [hh] at q
        exact iteT ⟨⟨M', rfl⟩, _, rfl, a, _, 2, v2, rfl, rfl, same_sqt s1 ha, atI_nat (j := 2) rfl, _, rfl, v2, m, v, d, rfl, dp_same s1 _ _ h3, dp_same s1 _ _ hd, hk, by show _ ≤ M'; omega, fun H2 s2 => q H2 (s1.trans s2)⟩
    | less n m =>
      cases edat
      cases hes with
      | @cons v1 _ _ _ h1 h2 =>
      cases h2 with
      | @cons v2 _ _ _ h3 h4 =>
      cases h4
      simp only [Nd.deep] at hN
      obtain ⟨M', rfl⟩ : ∃ M', N = M' + 1 := ⟨N - 1, by omega⟩
      refine ⟨_, rfl, rfl, _, rfl, sF (by simp only [Nd.word]; decide +kernel) ⟨_, rfl, rfl, _, rfl, sF (by simp only [Nd.word]; decide +kernel) ⟨_, rfl, rfl, _, rfl, sF (by simp only [Nd.word]; decide +kernel) ⟨_, rfl, rfl, _, rfl, sF (by simp only [Nd.word]; decide +kernel) ⟨_, rfl, rfl, _, rfl, sF (by simp only [Nd.word]; decide +kernel) ⟨_, rfl, rfl, _, rfl, sF (by simp only [Nd.word]; decide +kernel) ⟨_, rfl, rfl, _, rfl, sT rfl ⟨⟨M', rfl⟩, _, rfl, a, _, 1, v1, rfl, rfl, ha, atI_nat (j := 1) rfl, _, rfl, v1, n, v, d, rfl, h1, hd, hk, by show _ ≤ M'; omega, fun H1 s1 => ⟨_, rfl, ?_⟩⟩⟩⟩⟩⟩⟩⟩⟩
      simp only [Nd.has] at q
      cases hh : n.has d with
      | false =>
        rw [hh] at q
        exact iteF (q H1 s1)
      | true =>
        rw [hh] at q
        exact iteT ⟨⟨M', rfl⟩, _, rfl, a, _, 2, v2, rfl, rfl, same_sqt s1 ha, atI_nat (j := 2) rfl, _, rfl, v2, m, v, d, rfl, dp_same s1 _ _ h3, dp_same s1 _ _ hd, hk, by show _ ≤ M'; omega, fun H2 s2 => ⟨_, rfl, q H2 (s1.trans s2)⟩⟩
theorem ok_has {f : Addr} {fd : FuncData} (F : Fun K "_law_has" "_law_has" s__law_has f fd) (b : Binds K fd ["_law_node", "_law_value"] []) (g : mg "_law_has" = some (.ref f)) (T : Nm mg) (k : Nk mg) (B : Nb mg) (M : Mh mg) : ∀ N : Nat, FnOk P w K mg base CX0 (N + 1) f fd ["_law_node", "_law_value"] (spHas K N)
  | 0 => ok_has1 F b g T k B M 0 fun j => absurd j.2 (Nat.succ_ne_zero _)
  | N + 1 => ok_has1 F b g T k B M (N + 1) fun ⟨M', e⟩ => by
    cases Nat.succ.inj e
    exact ok_has F b g T k B M N
end
end TX
namespace TX
open PySem PySem.Spec PyProof.Rows L2
/-! ### list(text) -/
def signV (z : Str) : List V := z.cps.toList.map fun c => V.str ⟨#[c]⟩
theorem vals_get : ∀ (l : List V) (m : List Value), l.length = m.length → (∀ (j : Nat) v u, l[j]? = some v → m[j]? = some u → RelV v u) → Vals l m
  | [], [], _, _ => .nil
  | v :: l, u :: m, e, h => .cons (h 0 v u rfl rfl) (vals_get l m (by simpa using e) fun j a b ha hb => h (j + 1) a b (by simpa using ha) (by simpa using hb))
theorem call_list_s {X : Cx} (hc : X.calm = true) : CallR X (.type "list") (fun xs H Q => ∃ z : Str, xs = [.str z] ∧ z.length ≤ sizeLine ∧ ∀ l, H l = none → Q (.ref l) (upd H l (.lst (signV z)))) := by
  intro pins s σ H xs us Q I r h
  obtain ⟨z, rfl, hz, q⟩ := h
  obtain ⟨u, rfl, t, rfl⟩ := vals1 r
  have nf : H s.heap.objs.size = none := I.hok.fresh (Nat.le_refl _)
  refine call_list_str (I.ok.hd hc) z t (hn := hz) fun h' tk acc c' hk hS hacc => ⟨.ref _, _, I.laid (t' := tk) (o := .lst (signV z)) hk (Nat.le_refl _) ⟨?_, acc.toList, c', ?_, ?_⟩, rfl, q _ nf⟩
  · unfold signV
    rw [List.length_map]
    exact hz
  · refine vals_get _ _ ?_ fun j v u hv hu => ?_
    · unfold signV
      rw [List.length_map]
      have e := hacc.1
      simp only [Array.length_toList]
      omega
    · obtain ⟨c, t2, hc2, rfl⟩ := hacc.2 j u (by simpa using hu)
      have e : (signV z)[j]? = some (V.str ⟨#[c]⟩) := by
        unfold signV
        rw [List.getElem?_map]
        have e2 : z.cps.toList[j]? = some c := by simpa using hc2
        rw [e2]
        rfl
      rw [e] at hv
      cases hv
      exact ⟨t2, rfl⟩
  · simpa using hS
end TX
namespace TX
open PySem PySem.Spec PyProof.Rows L2
/-! ### the heap without the bag -/
theorem del_mono {A B : Hp} {p : Addr} (s : Same A B) : Same (L2.del A p) (L2.del B p) := fun b o e => by
  have bp : b ≠ p := fun z => by
    rw [z, del_same] at e
    cases e
  rw [del_ne bp] at e ⊢
  exact s _ _ e
theorem del_sub {G : Hp} {p : Addr} : Same (L2.del G p) G := fun b o e => by
  have bp : b ≠ p := fun z => by
    rw [z, del_same] at e
    cases e
  rw [del_ne bp] at e
  exact e
theorem del_bag {G : Hp} {p : Addr} {o : HO} : L2.del (upd G p o) p = L2.del G p := by
  funext b
  by_cases e : b = p
  · rw [e, del_same, del_same]
  · rw [del_ne e, del_ne e, upd_ne e]
theorem bag_some {G : Hp} {p : Addr} (b : BagAt G p) : ∃ o, G p = some o := let ⟨_, _, e⟩ := b; ⟨_, e⟩
theorem bag_ne {G : Hp} {p q : Addr} (b : BagAt G p) (h : G q = none) : q ≠ p := fun z => by
  obtain ⟨x, y, e⟩ := b
  rw [z, e] at h
  cases h
/-- new data are data without the bag -/
theorem ov_del {G G' : Hp} {p : Addr} (b : BagAt G p) (s : Same G G') : Same (ov G (L2.del G p) G') (L2.del G' p) := fun c o e => by
  cases h : G c with
  | none =>
    rw [ov_new h] at e
    rw [del_ne (bag_ne b h)]
    exact e
  | some u =>
    rw [ov_old h] at e
    exact del_mono s _ _ e
theorem newp_del {G G' : Hp} {p : Addr} (b : BagAt G p) : Same (newp G G') (L2.del G' p) := fun c o e => by
  cases h : G c with
  | some u =>
    rw [newp_old h] at e
    cases e
  | none =>
    rw [newp_at h] at e
    rw [del_ne (bag_ne b h)]
    exact e
theorem kept_del {G G' : Hp} {p : Addr} (k : ∀ b o, b ≠ p → G b = some o → G' b = some o) : Same (L2.del G p) (L2.del G' p) := fun b o e => by
  have bp : b ≠ p := fun z => by
    rw [z, del_same] at e
    cases e
  rw [del_ne bp] at e ⊢
  exact k _ _ bp e
theorem del_kept {G G' : Hp} {p : Addr} (s : Same (L2.del G p) (L2.del G' p)) : ∀ b o, b ≠ p → G b = some o → G' b = some o := fun b o h e => by
  have z := s b o (by rw [del_ne h]; exact e)
  rw [del_ne h] at z
  exact z
/-- the heap under way: the bag may have changed -/
structure Kb (H G : Hp) (p : Addr) : Prop where
  k : ∀ b o, b ≠ p → H b = some o → G b = some o
  b : BagAt G p
theorem Kb.draw {H G : Hp} {p : Addr} (h : Kb H G p) (x y : Int) : Kb H (upd G p (.lst [.int x, .int y])) p := ⟨fun b o hb e => by rw [upd_ne hb]; exact h.k b o hb e, ⟨_, _, upd_same⟩⟩
theorem Kb.up {H G G' : Hp} {p : Addr} (h : Kb H G p) (s : Same G G') : Kb H G' p := ⟨fun b o hb e => s _ _ (h.k b o hb e), TX.bag_same h.b s⟩
theorem Kb.del {H G : Hp} {p : Addr} (h : Kb H G p) : Same (L2.del H p) (L2.del G p) := kept_del h.k
theorem Kb.sub {H G : Hp} {p : Addr} (h : Kb H G p) : Same (L2.del H p) G := h.del.trans del_sub
theorem Kb.there {H G : Hp} {p : Addr} (h : Kb H G p) : ∀ b, H b ≠ none → G b ≠ none := TX.there h.k h.b
theorem Kb.fresh {H G : Hp} {p b : Addr} (h : Kb H G p) (e : G b = none) : H b = none := Classical.byContradiction fun z => h.there b z e
theorem ov_kb {H Hv G1 G2 G3 : Hp} {p : Addr} (kb : Kb H G1 p) (sv : Same Hv H) (s : Same G2 G3) : Same (ov G1 Hv G2) (ov H Hv G3) := fun b o e => by
  cases h : G1 b with
  | none =>
    rw [ov_new h] at e
    rw [ov_new (kb.fresh h)]
    exact s _ _ e
  | some u =>
    rw [ov_old h] at e
    rw [ov_old (sv _ _ e)]
    exact e
/-! ### _law_leaf -/
def ShNd (gs : List Sg) (n : Nd) : Prop := ∃ g0 g, gs = g0 ++ [g] ∧ ∀ d, valD d → bdD d → g.pred (predsOf [] g0) d = n.has d
/-- the numbers of a node's texts are small -/
def Nd.fit : Nd → Prop
  | .texts lo hi => lo ≤ 3 ∧ hi ≤ 10 ^ 9
  | .lists n => n.fit
  | .nested n => n.fit
  | .not_ n => n.fit
  | .not3 n m => n.fit ∧ m.fit
  | .or_ n m => n.fit ∧ m.fit
  | .and_ n m => n.fit ∧ m.fit
  | .less n m => n.fit ∧ m.fit
  | _ => True
def Nd.many : Nd → Nat
  | .lists n => 1 + n.many
  | .nested n => 1 + n.many
  | .not_ n => 1 + n.many
  | .not3 n m => 1 + (n.many + m.many)
  | .or_ n m => 1 + (n.many + m.many)
  | .and_ n m => 1 + (n.many + m.many)
  | .less n m => 1 + (n.many + m.many)
  | _ => 1
def Nd.nests : Nd → Nat
  | .lists n => n.nests + 1
  | .nested n => n.nests + 1
  | .not_ n => n.nests
  | .not3 n m => n.nests + m.nests
  | .or_ n m => n.nests + m.nests
  | .and_ n m => n.nests + m.nests
  | .less n m => n.nests + m.nests
  | _ => 0
/-- a shape's steps are no more than the calls of its node -/
def Few (gs : List Sg) (n : Nd) : Prop := gs.length ≤ n.many ∧ asksN gs ≤ n.nests
theorem many_pos (n : Nd) : 1 ≤ n.many := by cases n <;> simp only [Nd.many] <;> omega
def LeafQ (K : PySem.W.Frag) (C : Addr) (H Hv : Hp) (p : Addr) (Q : VK) : Prop := ∀ (G : Hp) (t x : Addr) (u : V) (gs : List Sg) (n : Nd), Kb H G p → (ov H Hv G) t = some (.tup [.ref x, u]) → ShAt K (ov H Hv G) C x gs → Dp K (ov H Hv G) u n.dat → ShNd gs n → (n.deep = 0 ∧ Few gs n) → asksN gs = 0 → gs.length = 1 → Q (.ref t) G
def spLeafS (K : PySem.W.Frag) (C : Addr) : Sp := fun vs H Q _ => ∃ (p : Addr) (Hv : Hp), vs = [.ref p] ∧ BagAt H p ∧ Same Hv (L2.del H p) ∧ LeafQ K C H Hv p Q
theorem text_hi {lo : Nat} {z : Str} (h : z.length ≤ 90000) : textP lo none (.str z) = textQ lo (10 ^ 9) (.str z) := by
  simp only [textP, textQ]
  rw [decide_eq_true (show z.length ≤ 10 ^ 9 by omega)]
theorem leaf_texts {lo : Nat} {hi : Option Nat} {n : Nat} (h : n = match hi with | .none => 10 ^ 9 | some h => h) : ∀ d, valD d → bdD d → (Sg.texts lo hi).pred [] d = (Nd.texts lo n).has d := by
  intro d _ hb
  cases hi with
  | none =>
    subst h
    cases d with
    | str z => exact text_hi hb
    | _ => rfl
  | some h0 =>
    subst h
    cases d <;> rfl
section
variable {P : Program} {w : World} {K : PySem.W.Frag} {mg : Str → Option Value} {base : Heap} {C : Addr}
theorem leaf_end {H Hv : Hp} {p : Addr} {Q : VK} (sv : Same Hv (L2.del H p)) (q : LeafQ K C H Hv p Q)
    (n : Nd) (g : Sg) {us : List V} {es : List PyData} (hn : n.dat = .tuple es) (hu : ∀ G, DpAll K G us es) (hp : ∀ d, valD d → bdD d → g.pred [] d = n.has d) (ha : asksN [g] = 0) (h0 : n.deep = 0) {G1 : Hp} (kb : Kb H G1 p) {G2 : Hp} {x : Addr} (s1 : Same G1 G2)
    (sh : ShAt K (ov G1 Hv G2) C x [g]) {tn : Addr} (ntn : G2 tn = none) {t : Addr} (nt : (upd G2 tn (.tup us)) t = none) : Q (.ref t) (upd (upd G2 tn (.tup us)) t (.tup [.ref x, .ref tn])) := by
  have s2 := same_upd (o := .tup us) ntn
  have s3 := same_upd (o := .tup [.ref x, .ref tn]) nt
  have k2 := kb.up s1
  refine q _ t x (.ref tn) [g] n (k2.up (s2.trans s3)) ?_ (sh.up (ov_kb kb (sv.trans del_sub) (s2.trans s3))) ?_ ⟨[], g, rfl, hp⟩ ⟨h0, many_pos n, by rw [ha]; exact Nat.zero_le _⟩ ha rfl
  · rw [ov_new ((k2.up s2).fresh nt), upd_same]
  · rw [hn]
    refine .tup (SqT.of ?_) (hu _)
    rw [ov_new (k2.fresh ntn)]
    exact s3 _ _ upd_same
structure Lf (P : Program) (w : World) (K : PySem.W.Frag) (mg : Str → Option Value) (base : Heap) (C : Addr) (mc : Value) (fT f1 f2 f3 f4 p1 p2 p3 p4 : Addr) (dT : FuncData) : Prop where
  GT : FnOk P w K mg base CX0 1 fT dT ["_law_bag_here", "_law_many"] spTake
  bT : Binds K dT ["_law_bag_here", "_law_many"] []
  gT : mg "_law_take" = some (.ref fT)
  kT : PySem.W.keepIn K (.ref fT) = true
  r : ClX.CRead K C mc
  c1 : ClX.CMet K C mc "every" p1 f1
  c2 : ClX.CMet K C mc "never" p2 f2
  c3 : ClX.CMet K C mc "nothing" p3 f3
  c4 : ClX.CMet K C mc "texts" p4 f4
  G1 : FnR P w K mg base CX0 6 f1 (spOne K C .every)
  G2 : FnR P w K mg base CX0 6 f2 (spOne K C .never)
  G3 : FnR P w K mg base CX0 6 f3 (spOne K C .nothing)
  G40 : FnR P w K mg base CX0 6 f4 (fun vs H Q E => spTexts K C (vs ++ [.int ((0 : Nat) : Int), hiV none]) H Q E)
  G41 : FnR P w K mg base CX0 6 f4 (fun vs H Q E => spTexts K C (vs ++ [hiV none]) H Q E)
  G42 : FnR P w K mg base CX0 6 f4 (spTexts K C)
theorem scLeafS : FnScope ["_law_bag_here", "_law_pick", "_law_low", "_law_high"] ["_law_bag_here"] (defScope s__law_leaf) := ⟨rfl, rfl, rfl, by decide +kernel, rfl, by decide +kernel, by decide +kernel⟩
theorem ok_leafS {f : Addr} {fd : FuncData} {mc : Value} {fT f1 f2 f3 f4 p1 p2 p3 p4 : Addr} {dT : FuncData} (F : Fun K "_law_leaf" "_law_leaf" s__law_leaf f fd) (T : Ek K mg C) (L : Lf P w K mg base C mc fT f1 f2 f3 f4 p1 p2 p3 p4 dT) : FnOk P w K mg base CX0 7 f fd ["_law_bag_here"] (spLeafS K C) := by
  refine F.ok scLeafS (fun vs H Q E h => ?_) (fun cdv A outer s H vs Q E hr h => ?_)
  · obtain ⟨p, Hv, rfl, _⟩ := h
    rfl
  · obtain ⟨p, Hv, rfl, bag, sv, q⟩ := h
    have r1 : Room 1 _ := hr.mono (by decide)
    have lq := fun n g us es hn hu hp ha h0 G1 kb G2 x s1 sh tn ntn t nt => leaf_end (K := K) (C := C) (H := H) (p := p) (Q := Q) sv q n g (us := us) (es := es) hn hu hp ha h0 (G1 := G1) kb (G2 := G2) (x := x) s1 sh (tn := tn) ntn (t := t) nt
    have k0 : Kb H H p := ⟨fun _ _ _ e => e, bag⟩
    have vsub : ∀ {G : Hp}, Kb H G p → Same Hv G := fun kb => sv.trans (kb.del.trans del_sub)
    refine ⟨_, pss_cons (ps_set (i := 1) scLeafS.nd rfl (.inl rfl) (pe_call L.GT r1 (by rfl) L.gT L.kT L.bT .nil pass0 (pa_cons (pv 0) (pa_cons pe_int pa_nil)))) <|
      pss_cons (ps_if (pt_cmpR op_eq (pv 1) pe_int (nomark _)) (pss_one (ps_ret (pe_tup (pa_cons (pe_cmeth0 (E := E0) (pe_glob (v := .ref C) (by rfl) T.mgC rfl) L.r L.c1 L.G1 hr pass0) (pa_cons (pe_tup (pa_cons pe_str pa_nil)) pa_nil))))) pss_nil) <|
      pss_cons (ps_if (pt_cmpR op_eq (pv 1) pe_int (nomark _)) (pss_one (ps_ret (pe_tup (pa_cons (pe_cmeth0 (E := E0) (pe_glob (v := .ref C) (by rfl) T.mgC rfl) L.r L.c2 L.G2 hr pass0) (pa_cons (pe_tup (pa_cons pe_str pa_nil)) pa_nil))))) pss_nil) <|
      pss_cons (ps_if (pt_cmpR op_eq (pv 1) pe_int (nomark _)) (pss_one (ps_ret (pe_tup (pa_cons (pe_cmeth0 (E := E0) (pe_glob (v := .ref C) (by rfl) T.mgC rfl) L.r L.c3 L.G3 hr pass0) (pa_cons (pe_tup (pa_cons pe_str pa_nil)) pa_nil))))) pss_nil) <|
      pss_cons (ps_if (pt_cmpR op_eq (pv 1) pe_int (nomark _)) (pss_one (ps_ret (pe_tup (pa_cons (pe_cmeth0 (E := E0) (pe_glob (v := .ref C) (by rfl) T.mgC rfl) L.r L.c4 L.G40 hr pass0) (pa_cons (pe_tup (pa_cons pe_str (pa_cons pe_int (pa_cons (pe_op op_pow pe_int pe_int) pa_nil)))) pa_nil))))) pss_nil) <|
      pss_cons (ps_par (i := 2) (j := 3) rfl scLeafS.nd rfl rfl (by decide) rfl rfl (pa_cons (pe_call L.GT r1 (by rfl) L.gT L.kT L.bT .nil pass0 (pa_cons (pv 0) (pa_cons pe_int pa_nil))) (pa_cons (pe_call L.GT r1 (by rfl) L.gT L.kT L.bT .nil pass0 (pa_cons (pv 0) (pa_cons pe_int pa_nil))) pa_nil)) (by rfl)) <|
      pss_cons (ps_if (pt_cmpR op_eq (pv 1) pe_int (nomark _)) (pss_one (ps_ret (pe_tup (pa_cons (ClX.pe_cmeth (E := E0) (pe_glob (v := .ref C) (by rfl) T.mgC rfl) L.r L.c4 L.G41 hr pass0 (pa_cons (pv 2) pa_nil)) (pa_cons (pe_tup (pa_cons pe_str (pa_cons (pv 2) (pa_cons (pe_op op_pow pe_int pe_int) pa_nil)))) pa_nil))))) pss_nil) <|
      (pss_one (ps_ret (pe_tup (pa_cons (ClX.pe_cmeth (E := E0) (pe_glob (v := .ref C) (by rfl) T.mgC rfl) L.r L.c4 L.G42 hr pass0 (pa_cons (pv 2) (pa_cons (pv 3) pa_nil))) (pa_cons (pe_tup (pa_cons pe_str (pa_cons (pv 2) (pa_cons (pv 3) pa_nil)))) pa_nil))))), ?_⟩
    refine ⟨_, rfl, p, 8, rfl, bag, by decide, by decide, fun x1 y1 k hk0 hk1 => ?_⟩
    have k1 := k0.draw x1 y1
    generalize upd H p (.lst [.int x1, .int y1]) = G1 at k1
    obtain ⟨k, rfl⟩ := Int.eq_ofNat_of_zero_le hk0
    have hk8 : k < 8 := by omega
    have one : ∀ (z : Str) (G : Hp), DpAll K G [.str z] [.str z] := fun z G => .cons (.str _) .nil
    have three : ∀ (lo hi : Nat) (G : Hp), DpAll K G [.str "texts", .int (lo : Nat), .int (hi : Nat)] [.str "texts", .int (lo : Nat), .int (hi : Nat)] := fun lo hi G => .cons (.str _) (.cons (.int _) (.cons (.int _) .nil))
    refine ⟨_, rfl, rfl, _, rfl, ?_⟩
    by_cases h0 : k = 0
    · subst h0
      exact eqT rfl ⟨rfl, Hv, rfl, vsub k1, fun G2 x s2 nx sh => ⟨(by show 1 ≤ sizeLine; decide), fun tn ntn => ⟨(by show 2 ≤ sizeLine; decide), fun t nt => lq .every .every _ _ rfl (one _) (fun _ _ _ => rfl) rfl rfl _ k1 _ _ s2 sh _ ntn _ nt⟩⟩⟩
    refine eqF (by omega) ⟨_, rfl, rfl, _, rfl, ?_⟩
    by_cases h1 : k = 1
    · subst h1
      exact eqT rfl ⟨rfl, Hv, rfl, vsub k1, fun G2 x s2 nx sh => ⟨(by show 1 ≤ sizeLine; decide), fun tn ntn => ⟨(by show 2 ≤ sizeLine; decide), fun t nt => lq .never .never _ _ rfl (one _) (fun _ _ _ => rfl) rfl rfl _ k1 _ _ s2 sh _ ntn _ nt⟩⟩⟩
    refine eqF (by omega) ⟨_, rfl, rfl, _, rfl, ?_⟩
    by_cases h2 : k = 2
    · subst h2
      exact eqT rfl ⟨rfl, Hv, rfl, vsub k1, fun G2 x s2 nx sh => ⟨(by show 1 ≤ sizeLine; decide), fun tn ntn => ⟨(by show 2 ≤ sizeLine; decide), fun t nt => lq .nothing .nothing _ _ rfl (one _) (fun _ _ _ => rfl) rfl rfl _ k1 _ _ s2 sh _ ntn _ nt⟩⟩⟩
    refine eqF (by omega) ⟨_, rfl, rfl, _, rfl, ?_⟩
    by_cases h3 : k = 3
    · subst h3
      exact eqT rfl ⟨rfl, 0, none, Hv, rfl, vsub k1, by decide, fun h z => (nomatch z), fun G2 x s2 nx sh => ⟨_, _, rfl, rfl, ⟨by decide, by decide, by decide⟩, (by show 3 ≤ sizeLine; decide), fun tn ntn => ⟨(by show 2 ≤ sizeLine; decide), fun t nt => lq (.texts 0 (10 ^ 9)) (.texts 0 none) _ _ rfl (three 0 (10 ^ 9)) (leaf_texts rfl) rfl rfl _ k1 _ _ s2 sh _ ntn _ nt⟩⟩⟩
    refine eqF (by omega) ⟨_, rfl, p, 4, rfl, k1.b, by decide, by decide, fun x2 y2 lo hlo0 hlo1 => ?_⟩
    have k2 := k1.draw x2 y2
    refine ⟨_, rfl, p, 4, rfl, k2.b, by decide, by decide, fun x3 y3 hi hhi0 hhi1 => ?_⟩
    have k3 := k2.draw x3 y3
    generalize upd (upd G1 p (.lst [.int x2, .int y2])) p (.lst [.int x3, .int y3]) = G3 at k3
    obtain ⟨lo, rfl⟩ := Int.eq_ofNat_of_zero_le hlo0
    obtain ⟨hi, rfl⟩ := Int.eq_ofNat_of_zero_le hhi0
    refine ⟨_, _, rfl, _, rfl, rfl, _, rfl, ?_⟩
    by_cases h4 : k = 4
    · subst h4
      exact eqT rfl ⟨rfl, _, rfl, lo, none, Hv, rfl, vsub k3, by omega, fun h z => (nomatch z), fun G2 x s2 nx sh => ⟨_, rfl, _, _, rfl, rfl, ⟨by decide, by decide, by decide⟩, (by show 3 ≤ sizeLine; decide), fun tn ntn => ⟨(by show 2 ≤ sizeLine; decide), fun t nt => lq (.texts lo (10 ^ 9)) (.texts lo none) _ _ rfl (three lo (10 ^ 9)) (leaf_texts rfl) rfl rfl _ k3 _ _ s2 sh _ ntn _ nt⟩⟩⟩
    exact eqF (by omega) ⟨rfl, _, rfl, _, rfl, lo, some hi, Hv, rfl, vsub k3, by omega, fun h z => (by cases z; omega), fun G2 x s2 nx sh => ⟨_, rfl, _, rfl, (by show 3 ≤ sizeLine; decide), fun tn ntn => ⟨(by show 2 ≤ sizeLine; decide), fun t nt => lq (.texts lo hi) (.texts lo (some hi)) _ _ rfl (three lo hi) (leaf_texts rfl) rfl rfl _ k3 _ _ s2 sh _ ntn _ nt⟩⟩⟩
end
end TX
namespace TX
open PySem PySem.Spec PyProof.Rows L2
/-! ### dicts whose keys are tuples of texts, ints, None and such tuples; their values are ints -/
mutual
def keyD : NestedKey → PyData
  | .none => .none
  | .num i => .int i
  | .text x => .str x
  | .tup ks => .tuple (keyDs ks)
def keyDs : List NestedKey → List PyData
  | [] => []
  | k :: ks => keyD k :: keyDs ks
end
section
variable {X : Cx} {pins : List (Addr × Obj)} {σ : L2.St} {H : Hp} {s : Shared}
mutual
theorem nested_of (I : Inv X pins σ H s) : ∀ (k : NestedKey) (v : V) (u : Value), Dp X.K H v (keyD k) → RelV v u → NestedIs s.heap k u
  | .none, v, u, h, r => by
    cases h
    cases r
    exact .none
  | .num i, v, u, h, r => by
    cases h
    obtain ⟨t, rfl⟩ := r
    exact .int i t
  | .text x, v, u, h, r => by
    cases h
    obtain ⟨t, rfl⟩ := r
    exact .text x t
  | .tup ks, v, u, h, r => by
    simp only [keyD] at h
    cases h with
    | tup h1 h2 =>
      cases r
      obtain ⟨its, rv, p, _⟩ := I.tuple h1
      obtain ⟨o, g1, g2, n, g3⟩ := p
      exact .tup g1 g2 g3 (by simpa using nested_all I ks _ _ h2 rv)
theorem nested_all (I : Inv X pins σ H s) : ∀ (ks : List NestedKey) (vs : List V) (us : List Value), DpAll X.K H vs (keyDs ks) → Vals vs us → NestedAll s.heap ks us
  | [], vs, us, h, r => by
    simp only [keyDs] at h
    cases h
    cases r
    exact .nil
  | k :: ks, vs, us, h, r => by
    simp only [keyDs] at h
    cases h with
    | cons h1 h2 =>
      cases r with
      | cons r1 r2 => exact .cons (nested_of I k _ _ h1 r1) (nested_all I ks _ _ h2 r2)
end
end
/-- rows: a key, where it stands, the value -/
abbrev NRow := NestedKey × Addr × Int
def nfind (xs : List NRow) (k : NestedKey) : Option Int := (xs.find? fun x => decide (x.1 = k)).map (·.2.2)
def nput (xs : List NRow) (k : NestedKey) (b : Addr) (n : Int) : List NRow := if (nfind xs k).isSome then xs.map (fun x => if x.1 = k then (x.1, x.2.1, n) else x) else xs ++ [(k, b, n)]
abbrev NRel : List NRow → List (NestedKey × Addr × Value) → Prop := Paired fun p q => p.1 = q.1 ∧ p.2.1 = q.2.1 ∧ ∃ t, q.2.2 = .int p.2.2 t
def dNO (P : Program) (w : World) (a : Addr) (xs : List NRow) : HO := .ext fun h => xs.length ≤ sizeLine ∧ (a == sysModules) = false ∧ ∃ ys, NRel xs ys ∧ ∃ o es ep, h.get? a = some o ∧ o.ExactDict ∧ o.data = .dict es ep ∧ es.toList = ys.map (entryOfKey (nestedKind P w)) ∧ (ys.map (·.1)).Nodup
/-- the keys as they stand -/
def NKeys (K : PySem.W.Frag) (H : Hp) (xs : List NRow) : Prop := ∀ x ∈ xs, Dp K H (.ref x.2.1) (keyD x.1) ∧ x.1.depth ≤ 8
theorem NRel.find {xs : List NRow} {ys : List (NestedKey × Addr × Value)} (r : NRel xs ys) (k : NestedKey) : (nfind xs k = none ∧ atKey ys k = none) ∨ ∃ n b t, nfind xs k = some n ∧ atKey ys k = some (b, .int n t) := by
  induction r with
  | nil => exact .inl ⟨rfl, rfl⟩
  | @cons p q ps qs h t ih =>
    obtain ⟨h1, h2, tk, h3⟩ := h
    by_cases e : p.1 = k
    · refine .inr ⟨p.2.2, q.2.1, tk, ?_, ?_⟩
      · simp [nfind, List.find?_cons, e]
      · have e' : q.1 = k := h1.symm.trans e
        simp only [atKey, List.find?_cons, decide_eq_true e', Option.map_some]
        rw [show q.2 = (q.2.1, q.2.2) from rfl, h3]
    · have e' : ¬ q.1 = k := fun z => e (h1.trans z)
      have a1 : nfind (p :: ps) k = nfind ps k := by simp [nfind, List.find?_cons, e]
      have a2 : atKey (q :: qs) k = atKey qs k := by simp [atKey, List.find?_cons, e']
      rw [a1, a2]
      exact ih
theorem NRel.repl {xs : List NRow} {ys : List (NestedKey × Addr × Value)} (r : NRel xs ys) (k : NestedKey) (n : Int) (t : Tok) : NRel (xs.map (fun x => if x.1 = k then (x.1, x.2.1, n) else x)) (ys.map (putAt k (.int n t))) := by
  induction r with
  | nil => exact .nil
  | @cons p q ps qs h tl ih =>
    rw [List.map_cons, List.map_cons]
    refine .cons ?_ ih
    obtain ⟨h1, h2, tk, h3⟩ := h
    unfold putAt
    by_cases e : p.1 = k
    · rw [if_pos e, if_pos (h1.symm.trans e)]
      exact ⟨h1, h2, t, rfl⟩
    · rw [if_neg e, if_neg (fun z => e (h1.trans z))]
      exact ⟨h1, h2, tk, h3⟩
theorem NRel.put {xs : List NRow} {ys : List (NestedKey × Addr × Value)} (r : NRel xs ys) (k : NestedKey) (b : Addr) (n : Int) (t : Tok) : NRel (nput xs k b n) (storedH ys k b (.int n t)) := by
  unfold nput storedH
  rcases r.find k with ⟨h1, h2⟩ | ⟨m, c, u, h1, h2⟩
  · simp only [h1, h2, Option.isSome_none, Bool.false_eq_true, if_false]
    exact Paired.snoc r ⟨rfl, rfl, t, rfl⟩
  · simp only [h1, h2, Option.isSome_some, if_true]
    exact r.repl k n t
theorem nput_len (xs : List NRow) (k : NestedKey) (b : Addr) (n : Int) : (nput xs k b n).length ≤ xs.length + 1 := by
  unfold nput
  split <;> simp
theorem nfind_put {xs : List NRow} {k j : NestedKey} {b : Addr} {n m : Int} (h : nfind (nput xs k b n) j = some m) : (j = k ∧ m = n) ∨ nfind xs j = some m := by
  unfold nput at h
  by_cases hs : (nfind xs k).isSome = true
  · rw [if_pos hs] at h
    clear hs
    induction xs with
    | nil => simp [nfind] at h
    | cons x xs ih =>
      rw [List.map_cons] at h
      by_cases e : x.1 = k
      · rw [if_pos e] at h
        by_cases ej : x.1 = j
        · have e2 : n = m := by simpa [nfind, List.find?_cons, ej] using h
          exact .inl ⟨ej.symm.trans e, e2.symm⟩
        · have h2 : nfind (xs.map fun x => if x.1 = k then (x.1, x.2.1, n) else x) j = some m := by simpa [nfind, List.find?_cons, ej] using h
          rcases ih h2 with z | z
          · exact .inl z
          · exact .inr (by simpa [nfind, List.find?_cons, ej] using z)
      · rw [if_neg e] at h
        by_cases ej : x.1 = j
        · exact .inr (by simpa [nfind, List.find?_cons, ej] using h)
        · have h2 : nfind (xs.map fun x => if x.1 = k then (x.1, x.2.1, n) else x) j = some m := by simpa [nfind, List.find?_cons, ej] using h
          rcases ih h2 with z | z
          · exact .inl z
          · exact .inr (by simpa [nfind, List.find?_cons, ej] using z)
  · rw [if_neg hs] at h
    cases hj : nfind xs j with
    | some m' =>
      refine .inr ?_
      have e : nfind (xs ++ [(k, b, n)]) j = some m' := by
        unfold nfind at hj ⊢
        rw [List.find?_append]
        obtain ⟨q, hq, hq2⟩ := Option.map_eq_some_iff.mp hj
        rw [hq]
        simpa using hq2
      rw [e] at h
      exact h
    | none =>
      have hn : xs.find? (fun x => decide (x.1 = j)) = none := by
        unfold nfind at hj
        cases q : xs.find? (fun x => decide (x.1 = j)) with
        | none => rfl
        | some y => rw [q] at hj; cases hj
      unfold nfind at h
      rw [List.find?_append, hn] at h
      by_cases ej : k = j
      · have e2 : n = m := by simpa [List.find?_cons, ej] using h
        exact .inl ⟨ej.symm, e2.symm⟩
      · simp [List.find?_cons, ej] at h
theorem NKeys.put {K : PySem.W.Frag} {H : Hp} {xs : List NRow} (h : NKeys K H xs) {k : NestedKey} {b : Addr} (n : Int) (hb : Dp K H (.ref b) (keyD k)) (hd : k.depth ≤ 8) : NKeys K H (nput xs k b n) := by
  intro x hx
  unfold nput at hx
  by_cases hs : (nfind xs k).isSome = true
  · rw [if_pos hs] at hx
    obtain ⟨y, hy, e⟩ := List.mem_map.mp hx
    by_cases ek : y.1 = k
    · rw [if_pos ek] at e
      rw [← e]
      exact h y hy
    · rw [if_neg ek] at e
      rw [← e]
      exact h y hy
  · rw [if_neg hs] at hx
    rcases List.mem_append.mp hx with z | z
    · exact h x z
    · rw [List.mem_singleton.mp z]
      exact ⟨hb, hd⟩
theorem NKeys.up {K : PySem.W.Frag} {H G : Hp} {xs : List NRow} (h : NKeys K H xs) (s : Same H G) : NKeys K G xs := fun x hx => ⟨dp_same s _ _ (h x hx).1, (h x hx).2⟩
section
variable {X : Cx} {pins : List (Addr × Obj)} {σ : L2.St} {H : Hp} {s : Shared} {a : Addr} {xs : List NRow}
theorem dn_of (I : Inv X pins σ H s) (e : H a = some (dNO X.prog X.w a xs)) (hk : NKeys X.K H xs) : xs.length ≤ sizeLine ∧ (a == sysModules) = false ∧ ∃ ys, NRel xs ys ∧ s.heap.DictOfH (nestedKind X.prog X.w) a ys := by
  obtain ⟨⟨hz, hs, ys, r, o, es, ep, h1, h2, h3, h4, h5⟩, _, _⟩ := (show ObjOk X.prog X.w H s.heap a (dNO X.prog X.w a xs) from I.hok a _ e)
  refine ⟨hz, hs, ys, r, o, es, ep, h1, h2, h3, h4, ?_, h5⟩
  have all : ∀ {l : List NRow} {m : List (NestedKey × Addr × Value)}, NRel l m → (∀ x ∈ l, Dp X.K H (.ref x.2.1) (keyD x.1) ∧ x.1.depth ≤ 8) → ∀ y ∈ m, (nestedKind X.prog X.w).is s.heap y.1 y.2.1 := by
    intro l m q
    induction q with
    | nil => exact fun _ y hy => nomatch hy
    | @cons p q ps qs hq t ih =>
      intro hl y hy
      rcases List.mem_cons.mp hy with z | z
      · subst z
        obtain ⟨c1, c2⟩ := hl p List.mem_cons_self
        obtain ⟨e1, e2, _⟩ := hq
        refine ⟨?_, by rw [← e1]; exact c2⟩
        have := nested_of I p.1 (.ref p.2.1) (.ref p.2.1) c1 rfl
        rw [← e1, ← e2]
        exact this
      · exact ih (fun x hx => hl x (List.mem_cons_of_mem _ hx)) y z
  exact all r hk
end
/-- {} -/
def tDNewN (P : Program) (w : World) : TE := fun _ H Q => ∀ p, H p = none → Q (.ref p) (upd H p (dNO P w p []))
/-- d[y], there -/
def tDGetN (P : Program) (w : World) (K : PySem.W.Frag) (td ty : TE) : TE := fun σ H Q => td σ H fun x H1 => ty σ H1 fun y H2 => ∃ a b xs k n, x = .ref a ∧ y = .ref b ∧ H2 a = some (dNO P w a xs) ∧ NKeys K H2 xs ∧ Dp K H2 (.ref b) (keyD k) ∧ k.depth ≤ 8 ∧ nfind xs k = some n ∧ Q (.int n) H2
def tDNotInN (P : Program) (w : World) (K : PySem.W.Frag) (ty td : TE) : TE := fun σ H Q => ty σ H fun y H1 => td σ H1 fun x H2 => ∃ a b xs k, x = .ref a ∧ y = .ref b ∧ H2 a = some (dNO P w a xs) ∧ NKeys K H2 xs ∧ Dp K H2 (.ref b) (keyD k) ∧ k.depth ≤ 8 ∧ Q (.bl (!(nfind xs k).isSome)) H2
/-- d[y] = n -/
def sDPutN (P : Program) (w : World) (K : PySem.W.Frag) (td ty tv : TE) : TS := fun D σ H => tv σ H fun v H1 => td σ H1 fun x H2 => ty σ H2 fun y H3 => ∃ a b xs k n, v = .int n ∧ x = .ref a ∧ y = .ref b ∧ H3 a = some (dNO P w a xs) ∧ NKeys K H3 xs ∧ Dp K H3 (.ref b) (keyD k) ∧ k.depth ≤ 8 ∧ xs.length < sizeLine ∧ D.nx σ (upd H3 a (dNO P w a (nput xs k b n)))
section
variable {X : Cx} {o i value : Expr} {pos pos' : Pos} {td ty tv : TE}
theorem dn_ok {P : Program} {w : World} {H : Hp} {h : Heap} {a : Addr} {xs : List NRow} (hz : xs.length ≤ sizeLine) (hs : (a == sysModules) = false) {ys : List (NestedKey × Addr × Value)} (r : NRel xs ys) (dd : h.DictOfH (nestedKind P w) a ys) : ObjOk P w H h a (dNO P w a xs) := by
  obtain ⟨o, es, ep, h1, h2, h3, h4, _, h5⟩ := dd
  exact ⟨⟨hz, hs, ys, r, o, es, ep, h1, h2, h3, h4, h5⟩, ⟨o, h1⟩, fun g1 g2 ⟨z, y, vs, q, ob, es', ep', e, c⟩ kp => ⟨z, y, vs, q, ob, es', ep', kp _ e, c⟩⟩
theorem pe_dnewN : PE X (.Dict [] [] pos) (tDNewN X.prog X.w) := ⟨fun pins s σ H Q I h =>
  wpAny_Dict_empty ⟨.ref s.heap.objs.size, _, I.laid (a := s.heap.objs.size) (o := dNO X.prog X.w s.heap.objs.size []) (t' := s.toks) (fun _ _ q => Heap.get?_push_of_some _ q) (Nat.le_refl _)
    (dn_ok (Nat.zero_le _) (beq_eq_false_iff_ne.mpr (Ne.symm (Nat.ne_of_lt I.big))) .nil ⟨_, #[], 0, Heap.get?_push_size _ rfl, ⟨rfl, rfl, rfl⟩, rfl, rfl, (fun x hx => nomatch hx), List.nodup_nil⟩), rfl, h _ (I.hok.fresh (Nat.le_refl _))⟩⟩
theorem room8 {A : Around} (hu : A.units + 64 < cLine) : (nestedKind X.prog X.w).room A.in1 := by
  show A.in1.units + 8 < cLine
  have : A.in1.units ≤ A.units + 1 := by
    first
      | exact Nat.le_refl _
      | (show _ ≤ _; simp [Around.in1])
  omega
theorem pe_dgetN (hu : X.A.units + 64 < cLine) (ho : PE X o td) (hi : PE X i ty) (hs : NoSl i) : PE X (.Subscript o i pos) (tDGetN X.prog X.w X.K td ty) := by
  refine ⟨fun pins s σ H Q I h => ?_⟩
  refine subD_of PySem.F.slot_dict_getitem.lookup hs (thn (ho.run pins s σ H _ I h) fun u s1 ⟨x, H1, I1, rx, q1⟩ => thn (hi.run pins s1 σ H1 _ I1 q1) fun iv s2 ⟨y, H2, I2, ry, a, b, xs, k, n, ex, ey, e, hk, hd, h8, hf, q2⟩ => ?_)
  subst ex ey
  cases rx
  cases ry
  obtain ⟨hz, hm, ys, r, dd⟩ := dn_of I2 e hk
  rcases r.find k with ⟨z, _⟩ | ⟨m, c, t, z1, z2⟩
  · rw [z] at hf
    cases hf
  · rw [z1] at hf
    have em : m = n := Option.some.inj hf
    subst em
    exact ⟨dd.typeIs, wpAny_getItem_heap (room8 hu) ⟨nested_of I2 k _ _ hd rfl, h8⟩ dd z2 ⟨.int m, H2, I2.tok _, ⟨t, rfl⟩, q2⟩⟩
theorem pc_dnotinN2 (hu : X.A.units + 64 < cLine) (hi : PE X i ty) (ho : PE X o td) : PC X .NotIn i o (tDNotInN X.prog X.w X.K ty td) := by
  refine ⟨fun pins s σ H Q I h => ?_⟩
  refine thn (hi.run pins s σ H _ I h) fun iv s1 ⟨y, H1, I1, ry, q1⟩ => thn (ho.run pins s1 σ H1 _ I1 q1) fun u s2 ⟨x, H2, I2, rx, a, b, xs, k, ex, ey, e, hk, hd, h8, q2⟩ => ?_
  subst ex ey
  cases rx
  cases ry
  obtain ⟨hz, hm, ys, r, dd⟩ := dn_of I2 e hk
  refine wpAny_notIn_heap (room8 hu) ⟨nested_of I2 k _ _ hd rfl, h8⟩ hm dd ?_
  have es : (atKey ys k).isSome = (nfind xs k).isSome := by
    rcases r.find k with ⟨z1, z2⟩ | ⟨m, c, t, z1, z2⟩ <;> rw [z1, z2] <;> rfl
  rw [es]
  exact ⟨.bl _, H2, I2.tok _, rfl, q2⟩
theorem ps_dputN (hu : X.A.units + 64 < cLine) (ho : PE X o td) (hi : PE X i ty) (hv : PE X value tv) (hs : swapsWith value (some (.Subscript o i pos')) pos.line X.env = pure false) : PS X (.Assign [.Subscript o i pos'] value pos) (sDPutN X.prog X.w X.K td ty tv) := by
  refine ⟨fun pins s σ H D I h => ?_⟩
  refine wpAny_Assign_Subscript (thn (hv.run pins s σ H _ I h) fun rr s1 ⟨v, H1, I1, rv, q1⟩ => thn (ho.run pins s1 σ H1 _ I1 q1) fun u s2 ⟨x, H2, I2, rx, q2⟩ => thn (hi.run pins s2 σ H2 _ I2 q2) fun iv s3 ⟨y, H3, I3, ry, a, b, xs, k, n, ev, ex, ey, e, hk, hd, h8, hl, q3⟩ => ?_) hs
  subst ev ex ey
  cases rx
  cases ry
  obtain ⟨t, rfl⟩ := rv
  obtain ⟨hz, hm, ys, r, dd⟩ := dn_of I3 e hk
  have hzy : ys.length ≤ sizeLine := by rw [← Paired.length r]; exact hz
  refine wpAny_setItem_heap (hsz := hzy) (room8 hu) ⟨nested_of I3 k _ _ hd rfl, h8⟩ dd fun h' dd' hsb => ?_
  have he : ∃ q, h'.get? a = some q := let ⟨q, _, _, hq, _⟩ := dd'; ⟨q, hq⟩
  exact ⟨σ, _, d_write I3 (by rw [e]; exact True.intro) hsb he (dn_ok (Nat.le_trans (nput_len xs k b n) hl) hm (r.put k b n t) dd'), q3⟩
end
end TX
namespace TX
open PySem PySem.Spec PyProof.Rows L2
/-! ### enumerate(tuple) -/
theorem enum_meets {v : Value} {o : Obj} {L : Heap → Prop} (B : Begins v o L) :
    Meets (Builtin.«enumerate.__new__» ⟨[.type "enumerate", v], []⟩) (fun _ R s => L s.heap ∧ R (.ok (.ret (.ref (s.heap.push o).objs.size)))
        { s with heap := (s.heap.push o).push { cls := .type "enumerate", data := .fields #[.none, .bool false, .ref s.heap.objs.size, rawInt 0, .none, .none] } }) := .of_wp fun pr ww Aa Rr st hst => by
    obtain ⟨hp, gg, dd, tk, oo⟩ := st; obtain ⟨h1, h2⟩ := hst; have hsub := sub_enumerate
    have qb : ∀ {A' : Around} {E' : Value → Shared → Prop} {Q' : Value → Shared → Prop}, Q' (.ref hp.objs.size) ⟨hp.push o, gg, dd, tk, oo⟩ → wpAny (model pr ww) A' (pyIter v) Q' E' ⟨hp, gg, dd, tk, oo⟩ := fun q => B.iter pr ww _ _ ⟨hp, gg, dd, tk, oo⟩ _ h1 q
    wp_walk using qb
    refine wpAny_stack_any fun _ => wpAny_pure ?_; split
    · rename_i c _ _ _ _ _; cases (c == Value.type "enumerate") <;> · wp_walk using qb
                                                                      exact ⟨_, rfl, h2⟩
    · wp_walk using qb; exact ⟨_, rfl, h2⟩
theorem enum_call {prog : Program} {w : World} {A : Around} {E : Value → Shared → Prop} {s : Shared} {v : Value} {o : Obj} {L : Heap → Prop} {Q : Value → Shared → Prop} (B : Begins v o L) (h1 : L s.heap)
    (h : ∀ h', IsEnum h' (s.heap.objs.size + 1) s.heap.objs.size 0 .none → h'.get? s.heap.objs.size = some o → (∀ b u, s.heap.get? b = some u → h'.get? b = some u) → Q (.ref (s.heap.objs.size + 1)) { s with heap := h' }) :
    wpAny (model prog w) A (call (.type "enumerate") [v]) Q E s := by
  refine callType_new F.called_enumerate (by decide) (F.typeCall_enumerate_1 _) (F.newCall_enumerate_1 _) (fun ob => F.args_object_init_2 ob _) F.entry_enumerate_new (enum_meets B) ⟨h1, ?_⟩
  have hz : (s.heap.push o).objs.size = s.heap.objs.size + 1 := Heap.size_push _ _
  show _ ∧ _
  rw [hz]
  have he : IsEnum ((s.heap.push o).push { cls := .type "enumerate", data := .fields #[.none, .bool false, .ref s.heap.objs.size, rawInt 0, .none, .none] }) (s.heap.objs.size + 1) s.heap.objs.size 0 .none := by have q := Heap.get?_push_size (s.heap.push o) (o := { cls := .type "enumerate", data := .fields #[.none, .bool false, .ref s.heap.objs.size, rawInt 0, .none, .none] }) rfl; rw [hz] at q; exact q
  exact ⟨⟨_, he, rfl⟩, h _ he (Heap.get?_push_of_some _ (Heap.get?_push_size _ B.free)) fun b u x => Heap.get?_push_of_some _ (Heap.get?_push_of_some _ x)⟩
def Itet (K : PySem.W.Frag) (a : Addr) (xs : List V) : It :=
  ⟨fun i H => SqT K H a xs ∧ i < xs.length, fun i H v H' => ∃ T x, v = .ref T ∧ H T = none ∧ H' = upd H T (.tup [.int (i : Nat), x]) ∧ xs[i]? = some x, fun i H => SqT K H a xs ∧ xs.length ≤ i⟩
theorem turn_enumT {P : Program} {w : World} {K : PySem.W.Frag} {elts : List Expr} {kk : Nat} {tpos : Pos} (a e it : Addr) (xs : List V) :
    Turn P w K (.Tuple elts kk tpos) (Itet K a xs) [e, it] e (fun i h => (∃ old, IsEnum h e it ((i : Nat) : Int) old) ∧ h.IsTupleIter it a i ∧ e ≠ it ∧ i ≤ xs.length) where
  mem := by simp
  obj := fun i h st b hb => by
    obtain ⟨⟨_, he⟩, ⟨ob, ho, _, hd⟩, _⟩ := st
    rcases (show b = e ∨ b = it by simpa using hb) with z | z
    · rw [z]; exact ⟨_, he, fun v q => nomatch q⟩
    · rw [z]; exact ⟨ob, ho, fun v q => by rw [hd] at q; cases q⟩
  keep := fun i h h' st k => let ⟨⟨old, he⟩, ti, hne, hl⟩ := st; ⟨⟨old, k e (by simp) _ he⟩, ti.at fun o q => k it (by simp) o q, hne, hl⟩
  item := by
    intro X hP hw hK hc i pins s σ H E I hf st hg; subst hP hw hK
    obtain ⟨⟨old, he⟩, ti, hne, hle⟩ := st; obtain ⟨hq, hx0⟩ := hg; have hx := List.getElem?_eq_getElem hx0; obtain ⟨x, ex⟩ : ∃ x, xs[i] = x := ⟨_, rfl⟩; rw [ex] at hx; obtain ⟨its, rv, p, hz⟩ := I.tuple hq; obtain ⟨u, hu, ru⟩ := rv.get hx
    have hel : e < s.heap.objs.size := Heap.lt_size he
    have hil : it < s.heap.objs.size := let ⟨_, q, _⟩ := ti; Heap.lt_size q
    have pt : s.heap.IsTuple a its.toArray := p
    have ait : a ≠ it := fun z => by
      obtain ⟨o1, g1, c1, _⟩ := p
      obtain ⟨o2, g2, c2, _⟩ := ti
      rw [z, g2] at g1
      cases g1
      rw [c2] at c1
      exact absurd c1 (by decide)
    have ae : e ≠ a := fun z => by
      obtain ⟨o1, g1, c1, _⟩ := p
      have e2 : s.heap.get? e = some _ := he
      rw [z, g1] at e2
      cases e2
      exact absurd (show Value.type "enumerate" = Value.type "tuple" from c1) (by decide)
    have hi : i < its.toArray.size := by
      have := (List.getElem?_eq_some_iff.mp hu).1
      rw [List.size_toArray]
      exact this
    refine wpAny_pyNext_enum_itemD (Draws.tuple (A := X.A.in1) (show X.A.in1.handled = none from I.ok.hd hc) it a ait its.toArray) he ⟨ti, pt⟩ hi hne (by simpa using ⟨hne, ae⟩) fun u2 h' tk hu2 ho st' hT hsz hk => ?_
    have eu : u2 = u := by
      have e1 : its[i]? = some u2 := by simpa using hu2
      rw [hu] at e1
      exact (Option.some.inj e1).symm
    subst eu
    refine ⟨_, rfl, wpAny_letOwnedTupleGo_enum (s := { s with heap := h', toks := tk + 1 }) ho fun h'' he' sb => ?_⟩
    have hT2 : h''.get? s.heap.objs.size = some { cls := .type "tuple", data := .seq #[.int i tk, u2] } := (sb.2 _ (Nat.ne_of_gt hel)).trans hT
    have new : ObjOk X.prog X.w (upd H s.heap.objs.size (.tup [.int (i : Nat), x])) h'' s.heap.objs.size (.tup [.int (i : Nat), x]) := ⟨by show 2 ≤ sizeLine; decide, [.int i tk, u2], .cons ⟨_, rfl⟩ (.cons ru .nil), ⟨_, hT2, rfl, _, rfl⟩⟩
    have I1 : Inv X pins σ (upd H s.heap.objs.size (.tup [.int (i : Nat), x])) { s with heap := h'', toks := tk + 1 } := I.turnedNew (ch := [e, it]) (fun b ob hb q => (sb.2 b (fun z => hb (by simp [z]))).trans (hk b ob (fun z => hb (by simp [z])) (fun z => hb (by simp [z])) q)) hf (Nat.le_refl _) new
    refine ⟨.ref s.heap.objs.size, _, I1, rfl, ⟨_, x, rfl, I.hok.fresh (Nat.le_refl _), rfl, hx⟩, ⟨⟨u2, ?_⟩, st'.1.at fun o q => (sb.2 it (Ne.symm hne)).trans q, hne, hx0⟩, fun b hb => ?_⟩
    · rw [show ((i + 1 : Nat) : Int) = (i : Int) + 1 by omega]; exact he'
    · have hb' : b < s.heap.objs.size := by
        rcases (show b = e ∨ b = it by simpa using hb) with z | z
        · rw [z]; exact hel
        · rw [z]; exact hil
      rw [upd_ne (Nat.ne_of_lt hb')]; exact (hf b hb).1
  done := by
    intro X hP hw hK hc i pins s σ H E I hf st hg; subst hP hw hK
    obtain ⟨⟨old, he⟩, ti, hne, hle⟩ := st; obtain ⟨hq, hx⟩ := hg; obtain ⟨its, rv, p, hz⟩ := I.tuple hq
    obtain ⟨f0, f1, f2, f3, f4, f5⟩ := hf it (by simp)
    have pt : s.heap.IsTuple a its.toArray := p
    have ait : a ≠ it := fun z => by
      obtain ⟨o1, g1, c1, _⟩ := p
      obtain ⟨o2, g2, c2, _⟩ := ti
      rw [z, g2] at g1
      cases g1
      rw [c2] at c1
      exact absurd c1 (by decide)
    have ei : i = its.toArray.size := by
      rw [List.size_toArray, ← rv.length]
      omega
    subst ei
    exact wpAny_pyNext_enum_endD (Draws.tuple (A := X.A.in1) (show X.A.in1.handled = none from I.ok.hd hc) it a ait its.toArray) he ⟨ti, pt⟩ fun h' eb => ⟨rfl, I.turned (t' := s.toks) (fun b o hb q => eb b o hb q) f0 f1 f3 f4 f5⟩
  self := fun A i s Q E st h => let ⟨⟨_, he⟩, _⟩ := st; wpAny_pyIter_enum he h
def iEnumT (K : PySem.W.Frag) (ta : TA) : TI := fun σ H R => ta σ H fun vs H1 => ∃ a xs, vs = [.ref a] ∧ SqT K H1 a xs ∧ R (Itet K a xs) H1
theorem pi_enumT {X : Cx} {e : Expr} {ta : TA} {p pos tpos : Pos} {elts : List Expr} {kk : Nat} (hg : Gl X "enumerate") (hm : X.mg "enumerate" = none) (ha : PA X [e] ta) (hs : starEach [e] X.env = [(false, eval e X.env)] := by rfl) : PI X (.Tuple elts kk tpos) (.Call (.Name "enumerate" p) [e] [] pos) (iEnumT X.K ta) := by
  refine ⟨fun pins s σ H R I h => ?_⟩
  refine Call_ (ld_blt I hg hm boot_enumerate (PyProof.Rows.callWith_type1 (thn (ha.run pos pins s σ H _ I h) fun us s1 ⟨vs, H1, I1, r1, q1⟩ => ?_) hs rfl))
  obtain ⟨a, xs, ex, hq, q⟩ := q1
  subst ex
  cases r1 with
  | cons r rr =>
    cases rr; cases r
    obtain ⟨its, rv, p', hz⟩ := I1.tuple hq
    refine enum_call (begins_tuple a its.toArray) (show s1.heap.IsTuple a its.toArray from p') fun h' he hit hk => wpAny_pyIter_enum he ?_
    have I2 : Inv X pins σ H1 { s1 with heap := h' } := I1.kept (t' := s1.toks) hk
    refine ⟨s1.heap.objs.size + 1, [s1.heap.objs.size + 1, s1.heap.objs.size], _, _, H1, rfl, I2, turn_enumT a (s1.heap.objs.size + 1) s1.heap.objs.size xs, ⟨⟨.none, he⟩, ⟨_, hit, rfl, rfl⟩, Nat.succ_ne_self _, Nat.zero_le _⟩, fun b hb => ?_, q⟩
    have hle : s1.heap.objs.size ≤ b := by
      rcases (show b = s1.heap.objs.size + 1 ∨ b = s1.heap.objs.size by simpa using hb) with z | z
      · rw [z]; exact Nat.le_add_right _ _
      · rw [z]; exact Nat.le_refl _
    exact I1.fpOk hle (I1.hok.fresh hle)
theorem walk_enumT {K : PySem.W.Frag} {a : Addr} {xs : List V} : Walk (Itet K a xs) xs.length (fun H => SqT K H a xs) (fun i H v H' => ∃ T x, v = .ref T ∧ H T = none ∧ H' = upd H T (.tup [.int (i : Nat), x]) ∧ xs[i]? = some x) :=
  ⟨fun _ _ hi q => ⟨q, hi⟩, fun _ q => ⟨q, Nat.le_refl _⟩, fun _ _ _ _ _ _ y => y⟩
end TX
namespace TX
open PySem PySem.Spec PyProof.Rows L2
/-! ### steps as keys; two recipes together -/
def optK : Option Nat → NestedKey
  | .none => .none
  | some h => .num (h : Nat)
def Sg.numK : Sg → List NestedKey
  | .texts lo hi => [.num (lo : Nat), optK hi]
  | _ => []
def Sg.key (g : Sg) : NestedKey := .tup [.text g.sign, .tup (g.parts.map fun (n : Nat) => NestedKey.num n), .tup g.numK]
theorem keyDs_nums (ns : List Nat) : keyDs (ns.map fun (n : Nat) => NestedKey.num n) = ns.map fun (n : Nat) => PyData.int n := by
  induction ns with
  | nil => rfl
  | cons n ns ih => simp only [List.map_cons, keyDs, keyD, ih]
theorem dp_nums {K : PySem.W.Frag} {H : Hp} (ns : List Nat) : DpAll K H (ns.map fun (n : Nat) => V.int n) (ns.map fun (n : Nat) => PyData.int n) := by
  induction ns with
  | nil => exact .nil
  | cons n ns ih => exact .cons (.int _) ih
theorem StepAt.dp {K : PySem.W.Frag} {H : Hp} {a : Addr} {g : Sg} (h : StepAt K H a g) : Dp K H (.ref a) (keyD g.key) := by
  obtain ⟨p, q, h1, h2, h3⟩ := h
  have e : keyD g.key = .tuple [.str g.sign, .tuple (g.parts.map fun (n : Nat) => PyData.int n), .tuple (keyDs g.numK)] := by
    simp only [Sg.key, keyD, keyDs, keyDs_nums]
  rw [e]
  refine .tup h1 (.cons (.str _) (.cons (.tup h2 (dp_nums _)) (.cons (.tup h3 ?_) .nil)))
  cases g with
  | texts lo hi =>
    cases hi with
    | none => exact .cons (.int _) (.cons .non .nil)
    | some h => exact .cons (.int _) (.cons (.int _) .nil)
  | _ => exact .nil
theorem nums_dep (ns : List Nat) : NestedKey.depthAll (ns.map fun (n : Nat) => NestedKey.num n) = 0 := by
  induction ns with
  | nil => rfl
  | cons n ns ih => simp only [List.map_cons, NestedKey.depthAll, NestedKey.depth, ih]; rfl
theorem Sg.key_dep (g : Sg) : g.key.depth ≤ 8 := by
  have h : NestedKey.depthAll g.numK = 0 := by
    cases g with
    | texts lo hi => cases hi <;> rfl
    | _ => rfl
  simp only [Sg.key, NestedKey.depth, NestedKey.depthAll, nums_dep, h]
  decide
def tagS (s : Str) : Nat := if s = "every" then 0 else if s = "never" then 1 else if s = "nothing" then 2 else if s = "texts" then 3 else if s = "lists" then 4 else if s = "nested" then 5 else if s = "outside" then 6 else if s = "either" then 7 else if s = "both" then 8 else 9
def Sg.tag : Sg → Nat
  | .every => 0
  | .never => 1
  | .nothing => 2
  | .texts _ _ => 3
  | .lists _ => 4
  | .nested _ => 5
  | .outside _ => 6
  | .either _ _ => 7
  | .both _ _ => 8
  | .minus _ _ => 9
theorem Sg.tag_sign (g : Sg) : tagS g.sign = g.tag := by
  cases g <;> (simp only [Sg.sign, Sg.tag]; decide +kernel)
theorem nums_inj : ∀ {a b : List Nat}, a.map (fun (n : Nat) => NestedKey.num n) = b.map (fun (n : Nat) => NestedKey.num n) → a = b
  | [], [], _ => rfl
  | [], _ :: _, h => by simp at h
  | _ :: _, [], h => by simp at h
  | x :: a, y :: b, h => by
    simp only [List.map_cons, List.cons.injEq, NestedKey.num.injEq] at h
    rw [nums_inj h.2]
    have := h.1
    congr 1
    omega
theorem Sg.key_inj {g g' : Sg} (h : g.key = g'.key) : g = g' := by
  simp only [Sg.key, NestedKey.tup.injEq, List.cons.injEq, NestedKey.text.injEq, and_true] at h
  obtain ⟨h1, h2, h3⟩ := h
  have ht : g.tag = g'.tag := by rw [← g.tag_sign, ← g'.tag_sign, h1]
  have hp := nums_inj h2
  clear h1 h2
  cases g <;> cases g' <;> (first | (simp [Sg.tag] at ht; done) | rfl | (simp only [Sg.parts, List.cons.injEq, and_true] at hp; subst hp; rfl) | (simp only [Sg.parts, List.cons.injEq, and_true] at hp; obtain ⟨e1, e2⟩ := hp; subst e1 e2; rfl) | skip)
  rename_i lo hi lo' hi'
  simp only [Sg.numK, List.cons.injEq, NestedKey.num.injEq, and_true] at h3
  obtain ⟨e1, e2⟩ := h3
  have e1' : lo = lo' := by omega
  subst e1'
  cases hi with
  | none =>
    cases hi' with
    | none => rfl
    | some h => simp [optK] at e2
  | some h =>
    cases hi' with
    | none => simp [optK] at e2
    | some h' =>
      simp only [optK, NestedKey.num.injEq] at e2
      have : h = h' := by omega
      rw [this]
/-- a step with its parts moved -/
def Sg.move (ms : List Nat) : Sg → Sg
  | .lists k => .lists (ms.getD k 0)
  | .nested k => .nested (ms.getD k 0)
  | .outside k => .outside (ms.getD k 0)
  | .either j k => .either (ms.getD j 0) (ms.getD k 0)
  | .both j k => .both (ms.getD j 0) (ms.getD k 0)
  | .minus j k => .minus (ms.getD j 0) (ms.getD k 0)
  | g => g
theorem Sg.move_sign (ms : List Nat) (g : Sg) : (g.move ms).sign = g.sign := by cases g <;> rfl
theorem Sg.move_parts (ms : List Nat) (g : Sg) : (g.move ms).parts = g.parts.map fun k => ms.getD k 0 := by cases g <;> rfl
theorem Sg.move_nums (ms : List Nat) (g : Sg) : (g.move ms).nums = g.nums := by cases g <;> rfl
theorem Sg.move_few (ms : List Nat) (g : Sg) : (g.move ms).few ↔ g.few := by cases g <;> exact Iff.rfl
theorem Sg.move_ask (ms : List Nat) (g : Sg) : (g.move ms).askB = g.askB := by cases g <;> rfl
theorem Sg.pred_congr {g : Sg} {ps qs : List (PyData → Bool)} (h : ∀ k ∈ g.parts, ps.getD k nv = qs.getD k nv) : g.pred ps = g.pred qs := by
  cases g with
  | lists k => simp only [Sg.pred, h k (by simp [Sg.parts])]
  | nested k => simp only [Sg.pred, h k (by simp [Sg.parts])]
  | outside k => simp only [Sg.pred, h k (by simp [Sg.parts])]
  | either j k => simp only [Sg.pred, h j (by simp [Sg.parts]), h k (by simp [Sg.parts])]
  | both j k => simp only [Sg.pred, h j (by simp [Sg.parts]), h k (by simp [Sg.parts])]
  | minus j k => simp only [Sg.pred, h j (by simp [Sg.parts]), h k (by simp [Sg.parts])]
  | _ => rfl
theorem Sg.pred_move {g : Sg} {ms : List Nat} {ps qs : List (PyData → Bool)} (h : ∀ k ∈ g.parts, ps.getD (ms.getD k 0) nv = qs.getD k nv) : (g.move ms).pred ps = g.pred qs := by
  cases g with
  | lists k => simp only [Sg.move, Sg.pred, h k (by simp [Sg.parts])]
  | nested k => simp only [Sg.move, Sg.pred, h k (by simp [Sg.parts])]
  | outside k => simp only [Sg.move, Sg.pred, h k (by simp [Sg.parts])]
  | either j k => simp only [Sg.move, Sg.pred, h j (by simp [Sg.parts]), h k (by simp [Sg.parts])]
  | both j k => simp only [Sg.move, Sg.pred, h j (by simp [Sg.parts]), h k (by simp [Sg.parts])]
  | minus j k => simp only [Sg.move, Sg.pred, h j (by simp [Sg.parts]), h k (by simp [Sg.parts])]
  | _ => rfl
theorem preds_pre : ∀ (hs gs : List Sg) {i : Nat}, i < gs.length → (predsOf [] (gs ++ hs)).getD i nv = (predsOf [] gs).getD i nv := by
  intro hs
  induction hs with
  | nil => intro gs i _; rw [List.append_nil]
  | cons h hs ih =>
    intro gs i hi
    have e : gs ++ h :: hs = (gs ++ [h]) ++ hs := by simp
    rw [e, ih (gs ++ [h]) (by rw [List.length_append, List.length_singleton]; omega), predsOf_snoc]
    exact getD_old (by rw [predsOf_len]; simpa using hi)
theorem preds_at {gs : List Sg} {i : Nat} {g : Sg} (h : gs[i]? = some g) : (predsOf [] gs).getD i nv = g.pred (predsOf [] (gs.take i)) := by
  obtain ⟨hi, e⟩ := List.getElem?_eq_some_iff.mp h
  have e2 : gs = (gs.take i ++ [g]) ++ gs.drop (i + 1) := by
    rw [← e, List.take_append_getElem hi, List.take_append_drop]
  have hl : (gs.take i).length = i := by rw [List.length_take]; omega
  have e3 : (predsOf [] gs).getD i nv = (predsOf [] ((gs.take i ++ [g]) ++ gs.drop (i + 1))).getD i nv := by rw [← e2]
  rw [e3, preds_pre _ _ (by rw [List.length_append, List.length_singleton]; omega), predsOf_snoc]
  have e4 : i = (predsOf [] (gs.take i)).length := by
    rw [predsOf_len]
    simp
    omega
  have e5 := getD_new (ps := predsOf [] (gs.take i)) (q := g.pred (predsOf [] (gs.take i)))
  rw [← e4] at e5
  exact e5
theorem take_pre {gs : List Sg} {i k : Nat} (hk : k < i) (hi : i ≤ gs.length) : (predsOf [] (gs.take i)).getD k nv = (predsOf [] gs).getD k nv := by
  have e := preds_pre (gs.drop i) (gs.take i) (i := k) (by rw [List.length_take]; omega)
  rw [List.take_append_drop] at e
  exact e.symm
/-- the first i steps of the second, put to the first -/
structure Mg (gs1 gs2 : List Sg) (i : Nat) (more : List Sg) (ms : List Nat) : Prop where
  len : ms.length = i
  at_ : ∀ (t m : Nat), ms[t]? = some m → m < (gs1 ++ more).length ∧ (predsOf [] (gs1 ++ more)).getD m nv = (predsOf [] gs2).getD t nv
  few : ∀ g ∈ more, g.few
  part : ∀ (t : Nat) (g : Sg), (gs1 ++ more)[t]? = some g → ∀ k ∈ g.parts, k < t
  asks : asksN more ≤ asksN (gs2.take i)
  mlen : more.length ≤ i
theorem Mg.start {gs1 gs2 : List Sg} (h : ∀ (t : Nat) (g : Sg), gs1[t]? = some g → ∀ k ∈ g.parts, k < t) : Mg gs1 gs2 0 [] [] :=
  ⟨rfl, fun t m e => by simp at e, fun g hg => (nomatch hg), by rw [List.append_nil]; exact h, Nat.zero_le _, Nat.le_refl _⟩
section
variable {gs1 gs2 more : List Sg} {i : Nat} {ms : List Nat} {g : Sg}
theorem Mg.same (h : Mg gs1 gs2 i more ms) (hg : gs2[i]? = some g) (hp : ∀ k ∈ g.parts, k < i) : (g.move ms).pred (predsOf [] (gs1 ++ more)) = (predsOf [] gs2).getD i nv ∧ ∀ k ∈ (g.move ms).parts, k < (gs1 ++ more).length := by
  have il := (List.getElem?_eq_some_iff.mp hg).1
  have at2 : ∀ k, k < i → ms[k]? = some (ms.getD k 0) := fun k hk => by
    have := h.len
    rw [List.getD_eq_getElem?_getD, List.getElem?_eq_getElem (by omega)]
    rfl
  refine ⟨?_, fun k hk => ?_⟩
  · rw [preds_at hg, Sg.pred_move (qs := predsOf [] gs2) fun k hk => (h.at_ k _ (at2 k (hp k hk))).2]
    exact Sg.pred_congr fun k hk => (take_pre (hp k hk) (Nat.le_of_lt il)).symm
  · rw [Sg.move_parts] at hk
    obtain ⟨j, hj, rfl⟩ := List.mem_map.mp hk
    exact (h.at_ j _ (at2 j (hp j hj))).1
theorem Mg.next (h : Mg gs1 gs2 i more ms) (hg : gs2[i]? = some g) (hp : ∀ k ∈ g.parts, k < i) (hf : g.few) : Mg gs1 gs2 (i + 1) (more ++ [g.move ms]) (ms ++ [(gs1 ++ more).length]) := by
  obtain ⟨e1, e2⟩ := h.same hg hp
  have etk : gs2.take (i + 1) = gs2.take i ++ [g] := by
    rw [List.take_add_one, hg]
    rfl
  have eap : gs1 ++ (more ++ [g.move ms]) = (gs1 ++ more) ++ [g.move ms] := by rw [List.append_assoc]
  have hl := h.len
  refine ⟨by rw [List.length_append, h.len]; rfl, fun t m e => ?_, fun g' hg' => ?_, fun t g' e k hk => ?_, ?_, by have := h.mlen; rw [List.length_append, List.length_singleton]; omega⟩
  · by_cases ht : t < i
    · rw [List.getElem?_append_left (by omega)] at e
      obtain ⟨a, b⟩ := h.at_ t m e
      refine ⟨by rw [eap, List.length_append]; omega, ?_⟩
      rw [eap, preds_pre _ _ a, b]
    · have hlt := (List.getElem?_eq_some_iff.mp e).1
      rw [List.length_append, List.length_singleton] at hlt
      have ti : t = i := by omega
      subst ti
      rw [List.getElem?_append_right (by omega), show t - ms.length = 0 by omega] at e
      have em : (gs1 ++ more).length = m := by simpa using e
      subst em
      refine ⟨by simp only [List.length_append, List.length_cons, List.length_nil]; omega, ?_⟩
      rw [eap, predsOf_snoc, ← e1]
      have el : (gs1 ++ more).length = (predsOf [] (gs1 ++ more)).length := by rw [predsOf_len]; simp
      rw [el]
      exact getD_new
  · rcases List.mem_append.mp hg' with z | z
    · exact h.few g' z
    · rw [List.mem_singleton.mp z]
      exact (Sg.move_few ms g).mpr hf
  · rw [eap] at e
    by_cases ht : t < (gs1 ++ more).length
    · rw [List.getElem?_append_left ht] at e
      exact h.part t g' e k hk
    · have hlt := (List.getElem?_eq_some_iff.mp e).1
      rw [List.length_append (as := gs1 ++ more), List.length_singleton] at hlt
      have ti : t = (gs1 ++ more).length := by omega
      subst ti
      rw [List.getElem?_append_right (Nat.le_refl _), Nat.sub_self] at e
      cases e
      exact e2 k hk
  · rw [asksN_snoc, etk, asksN_snoc, Sg.move_ask]
    have := h.asks
    omega
theorem Mg.old (h : Mg gs1 gs2 i more ms) (hg : gs2[i]? = some g) (hp : ∀ k ∈ g.parts, k < i) {t : Nat} (ht : (gs1 ++ more)[t]? = some (g.move ms)) : Mg gs1 gs2 (i + 1) more (ms ++ [t]) := by
  obtain ⟨e1, e2⟩ := h.same hg hp
  have hl := h.len
  have etk : gs2.take (i + 1) = gs2.take i ++ [g] := by
    rw [List.take_add_one, hg]
    rfl
  refine ⟨by rw [List.length_append, h.len]; rfl, fun t' m e => ?_, h.few, h.part, ?_, by have := h.mlen; omega⟩
  · by_cases hti : t' < i
    · rw [List.getElem?_append_left (by omega)] at e
      exact h.at_ t' m e
    · have hlt := (List.getElem?_eq_some_iff.mp e).1
      rw [List.length_append, List.length_singleton] at hlt
      have ti : t' = i := by omega
      subst ti
      rw [List.getElem?_append_right (by omega), show t' - ms.length = 0 by omega] at e
      have em : t = m := by simpa using e
      subst em
      have tl := (List.getElem?_eq_some_iff.mp ht).1
      refine ⟨tl, ?_⟩
      rw [preds_at ht, ← e1]
      exact Sg.pred_congr fun k hk => take_pre (h.part t _ ht k hk) (Nat.le_of_lt tl)
  · rw [etk, asksN_snoc]
    have := h.asks
    omega
end
end TX
namespace TX
open PySem PySem.Spec PyProof.Rows L2
theorem nfind_new {xs : List NRow} {k : NestedKey} {b : Addr} {n : Int} (h : nfind xs k = none) : nfind (nput xs k b n) k = some n := by
  unfold nput
  rw [if_neg (by rw [h]; exact Bool.false_ne_true)]
  have hn : xs.find? (fun x => decide (x.1 = k)) = none := by
    unfold nfind at h
    cases q : xs.find? (fun x => decide (x.1 = k)) with
    | none => rfl
    | some y => rw [q] at h; cases h
  unfold nfind
  rw [List.find?_append, hn]
  simp
/-- the heap without the three that change -/
def W3 (H Hv : Hp) (a b c : Addr) (G : Hp) : Hp := L2.del (L2.del (L2.del (ov H Hv G) a) b) c
section
variable {H Hv G G' : Hp} {a b c : Addr}
theorem w3_at {x : Addr} (ha : x ≠ a) (hb : x ≠ b) (hc : x ≠ c) : W3 H Hv a b c G x = ov H Hv G x := by
  unfold W3
  rw [del_ne hc, del_ne hb, del_ne ha]
theorem w3_ne {x : Addr} {o : HO} (h : W3 H Hv a b c G x = some o) : x ≠ a ∧ x ≠ b ∧ x ≠ c := by
  unfold W3 at h
  have hc : x ≠ c := fun z => by
    rw [z, del_same] at h
    cases h
  rw [del_ne hc] at h
  have hb : x ≠ b := fun z => by
    rw [z, del_same] at h
    cases h
  rw [del_ne hb] at h
  have ha : x ≠ a := fun z => by
    rw [z, del_same] at h
    cases h
  exact ⟨ha, hb, hc⟩
theorem w3_mono (k : ∀ x o, x ≠ a → x ≠ b → x ≠ c → G x = some o → G' x = some o) : Same (W3 H Hv a b c G) (W3 H Hv a b c G') := fun x o e => by
  obtain ⟨h1, h2, h3⟩ := w3_ne e
  rw [w3_at h1 h2 h3] at e ⊢
  cases h : H x with
  | none =>
    rw [ov_new h] at e ⊢
    exact k x o h1 h2 h3 e
  | some u =>
    rw [ov_old h] at e ⊢
    exact e
theorem w3_sub : Same (W3 H Hv a b c G) (ov H Hv G) := fun x o e => by
  obtain ⟨h1, h2, h3⟩ := w3_ne e
  rw [w3_at h1 h2 h3] at e
  exact e
theorem w3_hv (sv : Same Hv H) (na : H a = none) (nb : H b = none) (nc : H c = none) : Same Hv (W3 H Hv a b c G) := fun x o e => by
  have e2 := sv _ _ e
  rw [w3_at (ne_of_none e2 na) (ne_of_none e2 nb) (ne_of_none e2 nc), ov_old e2]
  exact e
theorem w3_new {x : Addr} {o : HO} (hx : H x = none) (ha : x ≠ a) (hb : x ≠ b) (hc : x ≠ c) (e : G x = some o) : W3 H Hv a b c G x = some o := by
  rw [w3_at ha hb hc, ov_new hx]
  exact e
end
theorem recipe_snoc {K : PySem.W.Frag} {H : Hp} {rc a : Addr} {as : List Addr} {gs : List Sg} {g : Sg} (hl : as.length = gs.length) (hst : ∀ (i : Nat) (g : Sg) (a : Addr), gs[i]? = some g → as[i]? = some a → StepAt K H a g) (hfe : ∀ g ∈ gs, g.few) (hpa : ∀ (i : Nat) (g : Sg), gs[i]? = some g → ∀ k ∈ g.parts, k < i)
    (ha : SqT K H rc ((as ++ [a]).map V.ref)) (hs : StepAt K H a g) (hf : g.few) (hp : ∀ k ∈ g.parts, k < gs.length) : Recipe K H rc (as ++ [a]) (gs ++ [g]) := by
  have cs : ∀ {t : Nat} {g' : Sg}, (gs ++ [g])[t]? = some g' → (t < gs.length ∧ gs[t]? = some g') ∨ (t = gs.length ∧ g = g') := by
    intro t g' e
    by_cases ht : t < gs.length
    · rw [List.getElem?_append_left ht] at e
      exact .inl ⟨ht, e⟩
    · have hlt := (List.getElem?_eq_some_iff.mp e).1
      rw [List.length_append, List.length_singleton] at hlt
      have ti : t = gs.length := by omega
      rw [ti, List.getElem?_append_right (Nat.le_refl _), Nat.sub_self] at e
      exact .inr ⟨ti, by simpa using e⟩
  refine ⟨ha, by rw [List.length_append, List.length_append, hl]; rfl, fun t g' a' e1 e2 => ?_, fun g' hg => ?_, fun t g' e1 k hk => ?_⟩
  · rcases cs e1 with ⟨ht, e⟩ | ⟨ti, eg⟩
    · rw [List.getElem?_append_left (by rw [hl]; exact ht)] at e2
      exact hst t g' a' e e2
    · rw [ti, List.getElem?_append_right (by rw [hl]; exact Nat.le_refl _), hl, Nat.sub_self] at e2
      have ea : a = a' := by simpa using e2
      rw [← ea, ← eg]
      exact hs
  · rcases List.mem_append.mp hg with z | z
    · exact hfe g' z
    · rw [List.mem_singleton.mp z]
      exact hf
  · rcases cs e1 with ⟨_, e⟩ | ⟨ti, eg⟩
    · exact hpa t g' e k hk
    · rw [ti]
      rw [← eg] at hk
      exact hp k hk
/-- the second recipe under way: i steps are done -/
structure Lp (P : Program) (w : World) (K : PySem.W.Frag) (H Hv : Hp) (gs1 gs2 : List Sg) (as1 : List Addr) (rS rK rM : Addr) (i : Nat) (G : Hp) (asM : List Addr) (more : List Sg) (ms : List Nat) (xs : List NRow) : Prop where
  s : Same H G
  fS : G rS = some (.lst ((as1 ++ asM).map V.ref))
  fK : G rK = some (dNO P w rK xs)
  nk : NKeys K (W3 H Hv rS rK rM G) xs
  xl : xs.length ≤ gs1.length + i
  fd : ∀ k n, nfind xs k = some n → ∃ (t : Nat) (g : Sg), n = (t : Int) ∧ (gs1 ++ more)[t]? = some g ∧ g.key = k
  mg : Mg gs1 gs2 i more ms
  al : (as1 ++ asM).length = (gs1 ++ more).length
  st : ∀ (t : Nat) (g : Sg) (a : Addr), (gs1 ++ more)[t]? = some g → (as1 ++ asM)[t]? = some a → StepAt K (W3 H Hv rS rK rM G) a g
def spBoth (K : PySem.W.Frag) : Sp := fun vs H Q _ => ∃ (mk : Nat → Nat → Sg) (rc1 rc2 : Addr) (as1 as2 : List Addr) (gs1 gs2 : List Sg) (Hv : Hp), vs = [.str (mk 0 0).sign, .ref rc1, .ref rc2] ∧ Same Hv H ∧ Recipe K Hv rc1 as1 gs1 ∧ Recipe K Hv rc2 as2 gs2 ∧ gs1 ≠ [] ∧ gs2 ≠ [] ∧ gs1.length ≤ 300 ∧ gs2.length ≤ 100 ∧
  (∀ j k, (mk j k).sign = (mk 0 0).sign ∧ (mk j k).parts = [j, k] ∧ (mk j k).nums = [] ∧ (mk j k).few) ∧
  ∀ (H' : Hp) (rc' : Addr) (as' : List Addr) (more : List Sg) (j : Nat), Same H H' → Recipe K (ov H Hv H') rc' as' (gs1 ++ (more ++ [mk (gs1.length - 1) j])) → asksN more ≤ asksN gs2 → more.length ≤ gs2.length → j < (gs1 ++ more).length →
    (predsOf [] (gs1 ++ more)).getD j nv = (predsOf [] gs2).getD (gs2.length - 1) nv → Q (.ref rc') H'
section
variable {P : Program} {w : World} {K : PySem.W.Frag} {mg : Str → Option Value} {base : Heap}
theorem scBoth : FnScope ["sign", "one", "other", "steps", "known", "number", "step", "moved", "name", "parts", "numbers", "part"] ["sign", "one", "other"] (defScope s_step_over_both) := ⟨rfl, rfl, rfl, by decide +kernel, rfl, by decide +kernel, by decide +kernel⟩
theorem ok_both {f : Addr} {fd : FuncData} (F : Fun K "step_over_both" "step_over_both" s_step_over_both f fd) (T : Nm mg) (B : Nb mg) : FnOk P w K mg base CX0 1 f fd ["sign", "one", "other"] (spBoth K) := by
  refine F.ok scBoth (fun vs H Q E h => ?_) (fun cdv A outer s H vs Q E hr h => ?_)
  · obtain ⟨mk, rc1, rc2, as1, as2, gs1, gs2, Hv, rfl, _⟩ := h
    rfl
  · obtain ⟨mk, rc1, rc2, as1, as2, gs1, gs2, Hv, rfl, sv, R1, R2, ne1, ne2, l1, l2, hmk, q⟩ := h
    have hu := hr.units
    refine ⟨_, pss_cons (ps_set (i := 3) scBoth.nd rfl (.inl rfl) (pe_callTy call_list_of (by rfl) T.lst (by decide +kernel) (pa_cons (pv 1) pa_nil))) <|
      pss_cons (ps_set (i := 4) scBoth.nd rfl (.inl rfl) pe_dnewN) <|
      pss_cons (ps_for PassesOwn.never rfl (pi_enumT (by rfl) B.enum (pa_cons (pv 1) pa_nil)) (pg_tup rfl (pgs_cons (pg_name (i := 5) scBoth.nd rfl (.inl rfl)) (pgs_cons (pg_name (i := 6) scBoth.nd rfl (.inl rfl)) pgs_nil)))
        (pss_one (ps_dputN hu (pv 4) (pv 6) (pv 5) (by rfl)))) <|
      pss_cons (ps_set (i := 7) scBoth.nd rfl (.inr rfl) (pe_lst pa_nil)) <|
      pss_cons (ps_for PassesOwn.never rfl (pi_tup (pv 2)) (pg_tup rfl (pgs_cons (pg_name (i := 8) scBoth.nd rfl (.inl rfl)) (pgs_cons (pg_name (i := 9) scBoth.nd rfl (.inl rfl)) (pgs_cons (pg_name (i := 10) scBoth.nd rfl (.inl rfl)) pgs_nil)))) (
        pss_cons (ps_set (i := 6) scBoth.nd rfl (.inl rfl) (pe_tup (pa_cons (pv 8) (pa_cons (pe_callTy call_tuple_of (by rfl) T.tpl (by decide +kernel) (pa_cons (pe_lc (own := [("part", 11)]) (g := gName 11) (tt := tYes) (te := tOp (rIxL K) (tVar 7) (tVar 11)) rfl scBoth.nd (pi_tup (pv 9))
          (blkOk_by (own := [("part", 11)]) (N := ["sign", "one", "other", "steps", "known", "number", "step", "moved", "name", "parts", "numbers", "part"]) (sc := defScope s_step_over_both) (by decide +kernel)) (fun _ _ _ _ _ => pg_name (i := 11) scBoth.nd rfl (Or.inl rfl)) (fun _ _ _ _ _ => pts_nil) (fun _ _ _ _ _ => pe_ix ix_list (pv 7) (pv 11) (fun _ _ => rfl))) pa_nil)) (pa_cons (pv 10) pa_nil))))) <|
        C8.pss_cut (ps_if (pt_cmp (pc_dnotinN2 hu (pv 6) (pv 4))) (pss_cons (ps_dputN hu (pv 4) (pv 6) (pe_callB call_len_seq (by rfl) B.len PySem.boot_len (pa_cons (pv 3) pa_nil)) (by rfl)) <|
          pss_one (ps_expr (pe_bm PySem.F.plainAttrs_list PySem.F.slot_list_append PySem.F.type_list_append mt_append (pv 3) (pa_cons (pv 6) pa_nil)))) pss_nil) <|
        pss_one (ps_expr (pe_bm PySem.F.plainAttrs_list PySem.F.slot_list_append PySem.F.type_list_append mt_append (pv 7) (pa_cons (pe_dgetN hu (pv 4) (pv 6) (fun _ _ => rfl)) pa_nil))))) <|
      pss_one (ps_ret (pe_tup (StX.pa_star (pv 3) (pa_cons (pe_tup (pa_cons (pv 0) (pa_cons (pe_tup (pa_cons (pe_op op_sub (pe_callB call_len_seq (by rfl) B.len PySem.boot_len (pa_cons (pv 1) pa_nil)) pe_int) (pa_cons (pe_ix ix_list (pv 7) (pe_un un_neg pe_int) (fun _ _ => rfl)) pa_nil))) (pa_cons (pe_tup pa_nil) pa_nil)))) pa_nil)))), ?_⟩
    have al1 := R1.len
    have al2 := R2.len
    refine ⟨_, rfl, rc1, _, rfl, .inr (same_sqt sv R1.at_), fun rS nS => ?_⟩
    have s1 := same_upd (o := .lst (as1.map V.ref)) nS
    have fS1 := upd_same (H := H) (a := rS) (o := .lst (as1.map V.ref))
    generalize upd H rS (.lst (as1.map V.ref)) = H1 at s1 fS1
    intro rK nK
    have nK0 : H rK = none := s1.free nK
    have s2 := same_upd (o := dNO P w rK []) nK
    have fS2 := s2 _ _ fS1
    have fK2 := upd_same (H := H1) (a := rK) (o := dNO P w rK [])
    have hSK : rS ≠ rK := ne_of_none fS1 nK
    have sH2 := s1.trans s2
    refine ⟨_, rfl, rc1, as1.map V.ref, rfl, same_sqt (sv.trans sH2) R1.at_, for_it walk_enumT (fun i σ G => ∃ (y5 y6 : Option V) (xs : List NRow), σ = [some (.str (mk 0 0).sign), some (.ref rc1), some (.ref rc2), some (.ref rS), some (.ref rK), y5, y6, none, none, none, none, none] ∧ Same H G ∧ G rS = some (.lst (as1.map V.ref)) ∧ G rK = some (dNO P w rK xs) ∧ NKeys K Hv xs ∧ xs.length ≤ i ∧
      ∀ k n, nfind xs k = some n → ∃ (t : Nat) (g : Sg), n = (t : Int) ∧ gs1[t]? = some g ∧ g.key = k) ⟨none, none, [], rfl, sH2, fS2, fK2, (fun x hx => nomatch hx), Nat.le_refl _, fun k n e => (nomatch e)⟩ (fun i σ G hi ⟨_, _, _, _, sm, _⟩ => same_sqt (sv.trans sm) R1.at_) ?_ ?_⟩
    · rintro i x σ G G' hi ⟨y5, y6, xs, rfl, sG, fS, fK, nk, xl, fd⟩ ⟨T1, v, rfl, nT, rfl, hv⟩
      rw [List.length_map] at hi
      have ea := List.getElem?_eq_getElem hi
      have ev : v = .ref as1[i] := by
        rw [List.getElem?_map, ea] at hv
        exact (Option.some.inj hv).symm
      subst ev
      have hig : i < gs1.length := by omega
      have eg := List.getElem?_eq_getElem hig
      have st := R1.step i _ _ eg ea
      have sT := same_upd (o := .tup [.int (i : Nat), .ref as1[i]]) nT
      have sGT := sG.trans sT
      refine ⟨T1, _, rfl, SqT.of upd_same, rfl, _, _, rfl, _, _, rfl, rfl, ?_⟩
      refine ⟨_, rfl, _, rfl, _, rfl, rK, as1[i], xs, gs1[i].key, (i : Nat), rfl, rfl, rfl, sT _ _ fK, nk.up (sv.trans sGT), (st.up (sv.trans sGT)).dp, Sg.key_dep _, Nat.lt_of_le_of_lt (show xs.length ≤ 1000 by omega) (by decide), ?_⟩
      refine ⟨_, _, nput xs gs1[i].key as1[i] (i : Nat), rfl, same_fresh nK0 sGT, ?_, upd_same, nk.put _ st.dp (Sg.key_dep _), Nat.le_trans (nput_len _ _ _ _) (Nat.succ_le_succ xl), fun k n e => ?_⟩
      · rw [upd_ne hSK]
        exact sT _ _ fS
      · rcases nfind_put e with ⟨e1, e2⟩ | z
        · exact ⟨i, gs1[i], e2, eg, e1.symm⟩
        · exact fd k n z
    rintro σ G0 ⟨y5, y6, xs, rfl, sG0, fS, fK, nk, xl, fd⟩
    refine ⟨Nat.zero_le _, fun rM nM => ?_⟩
    have nM0 : H rM = none := sG0.free nM
    have hSM : rS ≠ rM := ne_of_none fS nM
    have hKM : rK ≠ rM := ne_of_none fK nM
    have s3 := same_upd (o := .lst []) nM
    have nSH : H rS = none := nS
    refine ⟨_, rfl, rc2, rfl, ⟨_, same_sqt (sv.trans (sG0.trans s3)) R2.at_⟩, for_tup (K := K) (a := rc2) (xs := as2.map V.ref) (fun i σ G => ∃ (y5 y6 y8 y9 y10 : Option V) (asM : List Addr) (more : List Sg) (ms : List Nat) (xs : List NRow), σ = [some (.str (mk 0 0).sign), some (.ref rc1), some (.ref rc2), some (.ref rS), some (.ref rK), y5, y6, some (.ref rM), y8, y9, y10, none] ∧
      Lp P w K H Hv gs1 gs2 as1 rS rK rM i G asM more ms xs ∧ G rM = some (.lst (ms.map fun (n : Nat) => V.int n))) ?_ ?_ ?_ ?_⟩
    · refine ⟨_, _, none, none, none, [], [], [], xs, rfl, ⟨sG0.trans s3, by rw [List.append_nil]; exact s3 _ _ fS, s3 _ _ fK, nk.up (w3_hv sv nSH nK0 nM0), by rw [List.length_map] at xl; omega, by rw [List.append_nil]; exact fd, Mg.start R1.part, by rw [List.append_nil, List.append_nil]; exact al1, fun t g a e1 e2 => ?_⟩, upd_same⟩
      rw [List.append_nil] at e1 e2
      exact (R1.step t g a e1 e2).up (w3_hv sv nSH nK0 nM0)
    · rintro i σ G hi ⟨_, _, _, _, _, _, _, _, _, _, lp, _⟩
      exact same_sqt (sv.trans lp.s) R2.at_
    · rintro i x σ G hx ⟨y5, y6, y8, y9, y10, asM, more, ms, xs, rfl, lp, fM⟩
      have il : i < as2.length := by
        have := (List.getElem?_eq_some_iff.mp hx).1
        rw [List.length_map] at this
        exact this
      have ea := List.getElem?_eq_getElem il
      have ex : x = .ref as2[i] := by
        rw [List.getElem?_map, ea] at hx
        exact (Option.some.inj hx).symm
      subst ex
      have hig : i < gs2.length := by omega
      have eg := List.getElem?_eq_getElem hig
      obtain ⟨g, hg⟩ : ∃ g, gs2[i] = g := ⟨_, rfl⟩
      rw [hg] at eg
      have st := R2.step i _ _ eg ea
      have hpart := R2.part i g eg
      have hfew := R2.few g (List.mem_of_getElem? eg)
      obtain ⟨p, qn, h1, h2, h3⟩ := st
      have sHG : Same Hv G := sv.trans lp.s
      have msl := lp.mg.len
      refine ⟨as2[i], _, rfl, same_sqt sHG h1, rfl, _, _, rfl, _, _, rfl, _, _, rfl, rfl, ?_⟩
      refine ⟨_, rfl, _, rfl, p, rfl, ⟨_, same_sqt sHG h2⟩, fun D nD => lc_tup (K := K) (a := p) (xs := g.parts.map fun (n : Nat) => V.int n) (fun j G' => G' D = some (.lst ((g.parts.take j).map fun k => V.int ((ms.getD k 0 : Nat) : Int))) ∧ Same G G') ⟨upd_same, same_upd nD⟩ (fun j G' hj ⟨_, sm⟩ => same_sqt (sHG.trans sm) h2) ?_ ?_⟩
      · rintro j x G' hx2 ⟨hD, sm⟩
        have jl : j < g.parts.length := by
          have := (List.getElem?_eq_some_iff.mp hx2).1
          rw [List.length_map] at this
          exact this
        have ex2 : x = .int ((g.parts[j] : Nat) : Int) := by
          rw [List.getElem?_map, List.getElem?_eq_getElem jl] at hx2
          exact (Option.some.inj hx2).symm
        subst ex2
        have kl := hpart _ (List.getElem_mem jl)
        have pl2 : g.parts.length ≤ 2 := by cases g <;> simp [Sg.parts]
        refine ⟨rfl, _, rfl, _, rfl, rM, _, _, .int ((ms.getD g.parts[j] 0 : Nat) : Int), rfl, rfl, SqL.of (sm _ _ fM), atI_nat ?_, _, hD, ?_, ?_, same_fresh nD sm⟩
        · rw [List.getElem?_map, List.getElem?_eq_getElem (by omega), List.getD_eq_getElem?_getD, List.getElem?_eq_getElem (by omega)]
          rfl
        · rw [List.length_map, List.length_take]
          exact Nat.lt_of_le_of_lt (show min j g.parts.length ≤ 100 by omega) (by decide)
        · rw [upd_same, List.take_add_one, List.getElem?_eq_getElem jl]
          simp only [List.map_append, Option.toList_some, List.map_cons, List.map_nil]
      rintro G1 ⟨hD, sm⟩
      rw [List.length_map, List.take_length] at hD
      refine ⟨D, _, rfl, .inl ⟨SqL.of hD, fun pt npt => ⟨_, rfl, (by show 3 ≤ sizeLine; decide), fun a na => ?_⟩⟩⟩
      have s4 := same_upd (o := .tup (g.parts.map fun k => V.int ((ms.getD k 0 : Nat) : Int))) npt
      have f4 := upd_same (H := G1) (a := pt) (o := .tup (g.parts.map fun k => V.int ((ms.getD k 0 : Nat) : Int)))
      have s5 := same_upd (o := .tup [.str g.sign, .ref pt, .ref qn]) na
      have f5 := upd_same (H := upd G1 pt (.tup (g.parts.map fun k => V.int ((ms.getD k 0 : Nat) : Int)))) (a := a) (o := .tup [.str g.sign, .ref pt, .ref qn])
      have npt0 : H pt = none := (lp.s.trans sm).free npt
      have na0 : H a = none := (lp.s.trans (sm.trans s4)).free na
      have sG2 := sm.trans (s4.trans s5)
      have f4' := s5 _ _ f4
      have nee : ∀ {y : Addr} {o : HO}, G y = some o → y ≠ pt ∧ y ≠ a := fun e => ⟨ne_of_none (sm _ _ e) npt, ne_of_none (s4 _ _ (sm _ _ e)) na⟩
      generalize upd (upd G1 pt (.tup (g.parts.map fun k => V.int ((ms.getD k 0 : Nat) : Int)))) a (.tup [.str g.sign, .ref pt, .ref qn]) = G2 at sG2 f4' f5
      obtain ⟨nSp, nSa⟩ := nee lp.fS
      obtain ⟨nKp, nKa⟩ := nee lp.fK
      obtain ⟨nMp, nMa⟩ := nee fM
      have sW : Same (W3 H Hv rS rK rM G) (W3 H Hv rS rK rM G2) := w3_mono fun x o _ _ _ e => sG2 _ _ e
      have stA : StepAt K (W3 H Hv rS rK rM G2) a (g.move ms) := by
        refine ⟨pt, qn, ?_, ?_, ?_⟩
        · rw [Sg.move_sign]
          exact SqT.of (w3_new na0 nSa.symm nKa.symm nMa.symm f5)
        · rw [Sg.move_parts, List.map_map]
          exact SqT.of (w3_new npt0 nSp.symm nKp.symm nMp.symm f4')
        · rw [Sg.move_nums]
          exact same_sqt (w3_hv sv nSH nK0 nM0) h3
      have s02 : Same H G2 := lp.s.trans sG2
      have wsub : Same (W3 H Hv rS rK rM G2) G2 := w3_sub.trans (ov_same sv s02)
      refine ⟨fun σ' G' => ∃ (asM' : List Addr) (more' : List Sg) (xs' : List NRow) (t : Nat), σ' = [some (.str (mk 0 0).sign), some (.ref rc1), some (.ref rc2), some (.ref rS), some (.ref rK), y5, some (.ref a), some (.ref rM), some (.str g.sign), some (.ref p), some (.ref qn), none] ∧
        Lp P w K H Hv gs1 gs2 as1 rS rK rM (i + 1) G' asM' more' (ms ++ [t]) xs' ∧ G' rM = some (.lst (ms.map fun (n : Nat) => V.int n)) ∧ StepAt K (W3 H Hv rS rK rM G') a (g.move ms) ∧ nfind xs' (g.move ms).key = some (t : Int), ?_, ?_⟩
      · refine ⟨_, rfl, _, rfl, rK, a, xs, (g.move ms).key, rfl, rfl, sG2 _ _ lp.fK, lp.nk.up (sW.trans wsub), (stA.up wsub).dp, Sg.key_dep _, _, rfl, ?_⟩
        cases hf : nfind xs (g.move ms).key with
        | some n =>
          obtain ⟨t, g', en, et, ek⟩ := lp.fd _ _ hf
          have eg' := Sg.key_inj ek
          subst eg' en
          refine iteF ⟨asM, more, xs, t, rfl, ⟨s02, sG2 _ _ lp.fS, sG2 _ _ lp.fK, lp.nk.up sW, by have := lp.xl; omega, lp.fd, lp.mg.old eg hpart et, lp.al, fun t g a e1 e2 => (lp.st t g a e1 e2).up sW⟩, sG2 _ _ fM, stA, hf⟩
        | none =>
          have tl := lp.al
          have xl := lp.xl
          have ml := lp.mg.mlen
          have gl : (gs1 ++ more).length ≤ 500 := by rw [List.length_append]; omega
          refine iteT ⟨_, rfl, rS, _, rfl, .inl (SqL.of (sG2 _ _ lp.fS)), _, rfl, _, rfl, rK, a, xs, (g.move ms).key, _, rfl, rfl, rfl, sG2 _ _ lp.fK, lp.nk.up (sW.trans wsub), (stA.up wsub).dp, Sg.key_dep _, Nat.lt_of_le_of_lt (show xs.length ≤ 1000 by omega) (by decide), ?_⟩
          have fS3 : (upd G2 rK (dNO P w rK (nput xs (g.move ms).key a (((as1 ++ asM).map V.ref).length : Nat)))) rS = some (.lst ((as1 ++ asM).map V.ref)) := by
            rw [upd_ne hSK]
            exact sG2 _ _ lp.fS
          refine ⟨_, rfl, .inl ⟨rfl, _, SqL.of fS3⟩, _, rfl, rS, _, _, rfl, rfl, fS3, Nat.lt_of_le_of_lt (show ((as1 ++ asM).map V.ref).length ≤ 1000 by rw [List.length_map]; omega) (by decide), ?_⟩
          have sW2 : Same (W3 H Hv rS rK rM G2) (W3 H Hv rS rK rM (upd (upd G2 rK (dNO P w rK (nput xs (g.move ms).key a (((as1 ++ asM).map V.ref).length : Nat)))) rS (.lst ((as1 ++ asM).map V.ref ++ [.ref a])))) := w3_mono fun x o h1 h2 _ e => by
            rw [upd_ne h1, upd_ne h2]
            exact e
          have eap : as1 ++ (asM ++ [a]) = (as1 ++ asM) ++ [a] := by rw [List.append_assoc]
          have egp : gs1 ++ (more ++ [g.move ms]) = (gs1 ++ more) ++ [g.move ms] := by rw [List.append_assoc]
          refine ⟨asM ++ [a], more ++ [g.move ms], nput xs (g.move ms).key a (((as1 ++ asM).map V.ref).length : Nat), (gs1 ++ more).length, rfl, ⟨same_fresh nSH (same_fresh nK0 s02), ?_, ?_, (lp.nk.up (sW.trans sW2)).put _ (stA.up sW2).dp (Sg.key_dep _), Nat.le_trans (nput_len _ _ _ _) (by omega), fun k n e => ?_, lp.mg.next eg hpart hfew, ?_, fun t g' a' e1 e2 => ?_⟩, ?_, stA.up sW2, ?_⟩
          · rw [upd_same, eap, List.map_append (l₁ := as1 ++ asM)]
            rfl
          · rw [upd_ne hSK.symm, upd_same]
            rfl
          · rw [egp]
            rcases nfind_put e with ⟨z1, z2⟩ | z
            · refine ⟨(gs1 ++ more).length, g.move ms, ?_, ?_, z1.symm⟩
              · rw [z2, List.length_map, lp.al]
              · rw [List.getElem?_append_right (Nat.le_refl _), Nat.sub_self]
                rfl
            · obtain ⟨t, g', e1, e2, e3⟩ := lp.fd k n z
              exact ⟨t, g', e1, by rw [List.getElem?_append_left (List.getElem?_eq_some_iff.mp e2).1]; exact e2, e3⟩
          · rw [eap, egp, List.length_append, List.length_append (as := gs1 ++ more), lp.al]
            rfl
          · rw [egp] at e1
            rw [eap] at e2
            by_cases ht : t < (gs1 ++ more).length
            · rw [List.getElem?_append_left ht] at e1
              rw [List.getElem?_append_left (by rw [lp.al]; exact ht)] at e2
              exact (lp.st t g' a' e1 e2).up (sW.trans sW2)
            · have hlt := (List.getElem?_eq_some_iff.mp e1).1
              rw [List.length_append (as := gs1 ++ more), List.length_singleton] at hlt
              have ti : t = (gs1 ++ more).length := by omega
              subst ti
              rw [List.getElem?_append_right (Nat.le_refl _), Nat.sub_self] at e1
              rw [List.getElem?_append_right (by rw [lp.al]; exact Nat.le_refl _), lp.al, Nat.sub_self] at e2
              cases e1
              cases e2
              exact stA.up sW2
          · rw [upd_ne hSM.symm, upd_ne hKM.symm]
            exact sG2 _ _ fM
          · rw [nfind_new hf, List.length_map, lp.al]
      rintro σ G3 ⟨asM', more', xs', t, rfl, lp', fM', stA', hf'⟩
      have wsub3 : Same (W3 H Hv rS rK rM G3) G3 := w3_sub.trans (ov_same sv lp'.s)
      refine ⟨_, rfl, .inl ⟨rfl, _, SqL.of fM'⟩, _, rfl, _, rfl, rK, a, xs', (g.move ms).key, (t : Nat), rfl, rfl, lp'.fK, lp'.nk.up wsub3, (stA'.up wsub3).dp, Sg.key_dep _, hf', rM, _, _, rfl, rfl, fM', Nat.lt_of_le_of_lt (show (ms.map fun (n : Nat) => V.int n).length ≤ 1000 by rw [List.length_map]; omega) (by decide), ?_⟩
      have sW3 : Same (W3 H Hv rS rK rM G3) (W3 H Hv rS rK rM (upd G3 rM (.lst ((ms.map fun (n : Nat) => V.int n) ++ [.int (t : Nat)])))) := w3_mono fun x o _ _ h3 e => by
        rw [upd_ne h3]
        exact e
      refine ⟨_, _, _, _, _, asM', more', ms ++ [t], xs', rfl, ⟨same_fresh nM0 lp'.s, ?_, ?_, lp'.nk.up sW3, lp'.xl, lp'.fd, lp'.mg, lp'.al, fun t g a e1 e2 => (lp'.st t g a e1 e2).up sW3⟩, ?_⟩
      · rw [upd_ne hSM]
        exact lp'.fS
      · rw [upd_ne hKM]
        exact lp'.fK
      · rw [upd_same, List.map_append]
        rfl
    rintro σ G ⟨y5, y6, y8, y9, y10, asM, more, ms, xs, rfl, lp, fM⟩
    rw [List.length_map, al2] at lp
    have al := lp.al
    have ml := lp.mg.mlen
    have msl := lp.mg.len
    have p1 : 0 < gs1.length := List.length_pos_iff.mpr ne1
    have p2 : 0 < gs2.length := List.length_pos_iff.mpr ne2
    have hl : ms[gs2.length - 1]? = some (ms.getD (gs2.length - 1) 0) := by
      rw [List.getD_eq_getElem?_getD, List.getElem?_eq_getElem (by omega)]
      rfl
    obtain ⟨j, ej⟩ : ∃ j, ms.getD (gs2.length - 1) 0 = j := ⟨_, rfl⟩
    rw [ej] at hl
    obtain ⟨jl, jp⟩ := lp.mg.at_ _ _ hl
    have gl : (gs1 ++ more).length ≤ 500 := by rw [List.length_append]; omega
    have hat : atI (ms.map fun (n : Nat) => V.int n) (-1) = some (.int (j : Nat)) := by
      have e : ms = ms.dropLast ++ [j] := by
        have hne : ms ≠ [] := fun z => by
          rw [z] at msl
          simp at msl
          omega
        rw [List.getElem?_eq_getElem (by omega)] at hl
        have e1 := Option.some.inj hl
        have e2 : ms.getLast hne = j := by
          rw [List.getLast_eq_getElem]
          simp only [msl]
          exact e1
        rw [← e2]
        exact (List.dropLast_concat_getLast hne).symm
      rw [e, List.map_append]
      exact atI_last _ _
    refine ⟨_, rfl, rS, _, rfl, .inr (SqL.of lp.fS), _, rfl, _, rfl, rc1, _, rfl, .inr (same_sqt (sv.trans lp.s) R1.at_), _, _, rfl, rfl, _, rfl, 1, rfl, rM, _, -1, _, rfl, rfl, SqL.of fM, hat, (by show 2 ≤ sizeLine; decide), fun p np => ⟨Nat.zero_le _, fun n nn => ⟨(by show 3 ≤ sizeLine; decide), fun a na => ⟨?_, fun rc' nc => ?_⟩⟩⟩⟩
    · rw [List.length_append, List.length_map, al]
      exact Nat.le_trans (show (gs1 ++ more).length + 1 ≤ 1000 by omega) (by decide)
    · have e1 : ((as1.map V.ref).length : Int) - 1 = ((gs1.length - 1 : Nat) : Int) := by
        rw [List.length_map]
        omega
      have e0 : (HO.tup [(fun i j : Int => V.int (i - j)) (((as1.map V.ref).length : Nat) : Int) 1, .int (j : Nat)]) = HO.tup [.int ((gs1.length - 1 : Nat) : Int), .int (j : Nat)] := by
        show HO.tup [.int ((((as1.map V.ref).length : Nat) : Int) - 1), .int (j : Nat)] = _
        rw [e1]
      rw [e0] at nn na nc ⊢
      have s1 := same_upd (o := .tup [.int ((gs1.length - 1 : Nat) : Int), .int (j : Nat)]) np
      have s2 := same_upd (o := .tup []) nn
      have s3 := same_upd (o := .tup [.str (mk 0 0).sign, .ref p, .ref n]) na
      have s4 := same_upd (o := .tup ((as1 ++ asM).map V.ref ++ [.ref a])) nc
      have sA := s1.trans (s2.trans (s3.trans s4))
      have sW : Same (W3 H Hv rS rK rM G) (ov H Hv (upd (upd (upd (upd G p (.tup [.int ((gs1.length - 1 : Nat) : Int), .int (j : Nat)])) n (.tup [])) a (.tup [.str (mk 0 0).sign, .ref p, .ref n])) rc' (.tup ((as1 ++ asM).map V.ref ++ [.ref a])))) := w3_sub.trans (ov_more sA)
      have np0 : H p = none := lp.s.free np
      have nn0 : H n = none := (lp.s.trans s1).free nn
      have na0 : H a = none := (lp.s.trans (s1.trans s2)).free na
      have nc0 : H rc' = none := (lp.s.trans (s1.trans (s2.trans s3))).free nc
      have ask := lp.mg.asks
      rw [← al2, R2.len, List.take_length] at ask
      obtain ⟨k1, k2, k3, k4⟩ := hmk (gs1.length - 1) j
      have st : StepAt K (ov H Hv (upd (upd (upd (upd G p (.tup [.int ((gs1.length - 1 : Nat) : Int), .int (j : Nat)])) n (.tup [])) a (.tup [.str (mk 0 0).sign, .ref p, .ref n])) rc' (.tup ((as1 ++ asM).map V.ref ++ [.ref a])))) a (mk (gs1.length - 1) j) := by
        refine ⟨p, n, ?_, ?_, ?_⟩
        · rw [k1]
          exact SqT.of (by rw [ov_new na0]; exact s4 _ _ upd_same)
        · rw [k2]
          exact SqT.of (by rw [ov_new np0]; exact (s2.trans (s3.trans s4)) _ _ upd_same)
        · rw [k3]
          exact SqT.of (by rw [ov_new nn0]; exact (s3.trans s4) _ _ upd_same)
      refine q _ rc' ((as1 ++ asM) ++ [a]) more j (lp.s.trans sA) ?_ ask ml jl jp
      rw [← List.append_assoc]
      refine recipe_snoc al (fun t g a e1 e2 => (lp.st t g a e1 e2).up sW) (fun g hg => ?_) lp.mg.part ?_ st k4 fun k hk => ?_
      · rcases List.mem_append.mp hg with z | z
        · exact R1.few g z
        · exact lp.mg.few g z
      · rw [List.map_append (l₁ := as1 ++ asM)]
        exact SqT.of (by rw [ov_new nc0, upd_same]; rfl)
      · rw [k2] at hk
        simp only [List.mem_cons, List.not_mem_nil, or_false] at hk
        rcases hk with rfl | rfl
        · rw [List.length_append]
          omega
        · exact jl
end
end TX
namespace TX
open PySem PySem.Spec PySem.Calls PyProof.Rows L2
open PySem.W (Frag InstAt findIn subIn Looks looks_findIn looks_subIn CmpBack BoolBack LenBack)
/-! ### the signs of own classes, at the library's level -/
section
variable {prog : Program} {w : World} {A : Around} {E : Value → Shared → Prop} {s : Shared} {K : Frag} {x C L f : Addr} {h₀ : Heap} {m : Str → Option Value} {ox : Obj} {od : Option Obj} {b : Value}
theorem isInst_K {C : Addr} {T : String} (X : K.In s.heap) (I : InstAt s.heap x ox C od) (ho : subIn K (.ref C) (.type T) = some true) : Looks (model prog w) s.heap (isInstance (.ref x) (.type T)) true := I.type.andThen (looks_subIn X ho)
/-- x != b of own objects, by the own == -/
theorem ne_K {Q : Value → Shared → Prop} (hu : A.units + 1 < cLine) (F : Fr h₀ L s.heap m) (X₀ : K.In h₀) (I : InstAt s.heap x ox C od) (hb : Looks (model prog w) s.heap (typeOf b) (.ref C)) (hn : findIn K (.ref C) "__ne__" = some (some (.builtin "object.__ne__")))
    (hs : findIn K (.ref C) "__eq__" = some (some (.ref f))) (hf : PySem.W.isFn K (.ref f) = true) (ho : subIn K (.ref C) (.type "object") = some true)
    (h : wpAny (model prog w) A.in1 (call (.ref f) [.ref x, b]) (fun v s' => ∃ c, v = .bool c ∧ Q (.bool (!c)) s') E s) : wpAny (model prog w) A (richCompare .NotEq (.ref x) b) Q E s := by
  have X := X₀.keeps F.keep
  have one : wpAny (model prog w) A (tryCompare (.ref x) "__ne__" b) (fun r s' => ∃ v, r = some v ∧ Q v s') E s := by
    have S := PySem.F.cmp_object.ne
    have hcall : wpAny (model prog w) A (call (.builtin "object.__ne__") [.ref x, b]) (fun v s' => v ≠ .notImplemented ∧ Q v s') E s := by
      refine wpAny_call (codeAny_call_builtin S.plain PySem.F.cmpEntry_ne ?_)
      refine PySem.W.check_slot PySem.F.cmpKind_ne PySem.F.cmpSplit_ne (isInst_K X I ho) (PySem.F.cmpArgs_ne _ _) ?_
      unfold Builtin.«object.__ne__»
      obtain ⟨hh, g, d, tt, os⟩ := s
      repeat (first
        | with_reducible refine wpAny_cRoomFor hu ?_
        | (refine wpAny_bind (m := callSpecialIfBound? (.ref x) (Str.ofString "__eq__") [b])
            (PySem.W.ifBound_K X I hs hf (wpAny_mono h (fun r s' hr => by
              obtain ⟨c, rfl, hq⟩ := hr
              repeat (first | exact ⟨(fun z => nomatch z), hq⟩ | exact wpAny_pure ⟨(fun z => nomatch z), hq⟩ | exact wpAny_truthy_bool ⟨(fun z => nomatch z), hq⟩ | (refine wpAny_bind (m := truthy (.bool _)) (wpAny_truthy_bool ?_)) | wp_step)) fun _ _ e => e)))
        | wp_step)
    unfold tryCompare
    refine wpAny_bind (m := callSpecialIfBound? (.ref x) (Str.ofString "__ne__") [b]) ?_
    simp only [callSpecialIfBound?, bindSpecialIfBound?]
    refine wpAny_holding (wpAny_bind (wpAny_bind (wpAny_bind (I.type.here ((looks_findIn X hn).here ?_)))))
    simp only [S.bind]
    refine wpAny_bind (wpAny_askSetting (wpAny_ite ?_))
    have fin : ∀ v s', (v ≠ .notImplemented ∧ Q v s') → wpAny (model prog w) A (match (some v : Option Value) with
        | some .notImplemented => pure none
        | none => pure none
        | some u => pure (some u)) (fun r s' => ∃ v, r = some v ∧ Q v s') E s' := by
      rintro v s' ⟨h1, h2⟩
      cases v <;> first | exact absurd rfl h1 | exact wpAny_pure ⟨_, rfl, h2⟩
    split
    · refine wpAny_bind (wpAny_pure (wpAny_pure ?_))
      refine wpAny_bind (m := call (.builtin "object.__ne__") ([.ref x] ++ [b])) (wpAny_mono hcall (fun v s' h' => ?_) fun _ _ h' => h')
      exact wpAny_pure (fin v s' h')
    · refine wpAny_tryCatch (wpAny_bind (wpAny_pure (wpAny_pure ?_)))
      refine wpAny_bind (m := call (.builtin "object.__ne__") ([.ref x] ++ [b])) (wpAny_mono hcall (fun v s' h' => ?_) fun _ _ h' => h')
      exact wpAny_pure (fin v s' h')
  unfold richCompare
  simp only [oneThing_ref]
  refine wpAny_holding (wpAny_bind (wpAny_cRoomFor (Nat.lt_of_succ_lt hu) ?_))
  rw [cmpInfo_NotEq]
  dsimp only
  refine wpAny_bind (I.type.here (wpAny_bind (hb.here ?_)))
  rw [show (Value.ref C != Value.ref C) = false from by simp]
  simp only [Bool.false_eq_true, if_false]
  refine wpAny_bind (wpAny_pure ?_)
  simp only [Bool.false_eq_true, if_false]
  refine wpAny_bind (wpAny_mono one (fun r s' z => ?_) fun _ _ e => e)
  obtain ⟨v, rfl, hq⟩ := z
  exact wpAny_pure hq
/-- bool(x) of an own object -/
theorem boolK {Q : Value → Shared → Prop} (F : Fr h₀ L s.heap m) (X₀ : K.In h₀) (I : InstAt s.heap x ox C od) (hs : findIn K (.ref C) "__bool__" = some (some (.ref f))) (hf : PySem.W.isFn K (.ref f) = true)
    (h : wpAny (model prog w) A.in1.in1 (call (.ref f) [.ref x]) (fun v s' => ∃ c, v = .bool c ∧ Q (.bool c) s') E s) : wpAny (model prog w) A (call (.type "bool") [.ref x]) Q E s := by
  refine callType_newIn (S := fun A R s => wpAny (model prog w) A.in1 (truthy (.ref x)) (fun b s' => R (.ok (.ret (.bool b))) s') (fun e s' => R (.error e) s') s) PySem.F.called_bool PySem.F.newNe_bool (PySem.F.typeCall_bool_1 _) (PySem.F.newCall_bool_1 _) (fun obj => PySem.F.args_object_init_2 obj _) PySem.F.entry_bool_new ?_ ?_
  · refine .of_wp fun A R s hs => ?_
    obtain ⟨hp, g, d, tk, os⟩ := s
    have f1 := PySem.F.conv_sub_bool
    repeat (any_goals (first | assumption | (with_reducible refine wpAny_bind (m := truthy (.ref x)) (wpAny_mono hs (fun b s' hb => ?_) fun _ _ e => e)) | wp_step))
    all_goals first | exact ⟨_, rfl, hs⟩ | exact hs | skip
    all_goals exact ⟨_, rfl, hb⟩
  · exact PySem.W.truthy_K F X₀ I hs hf (wpAny_mono h (fun v s' hv => by
      obtain ⟨c, rfl, q⟩ := hv
      exact ⟨rfl, q⟩) fun _ _ e => e)
end
/-! ### the signs of own classes -/
section
variable {X : Cx} {CX : CXT} {C f : Addr} {k : Nat} {fd : FuncData} {ps : List Str} {sp : Sp} {E : XK}
theorem ep_back {pins : List (Addr × Obj)} {σ : L2.St} {Q : VK} {v : Value} {s' : Shared} (h : EP X pins σ Q v s') : PySem.W.CmpBack (EP X pins σ Q) v s' := by
  obtain ⟨x, H', I, r, q⟩ := h
  cases v <;> first
    | exact ⟨x, H', I, r, q⟩
    | (cases x <;> first | (cases (show Value.notImplemented = _ from r)) | (obtain ⟨t, z⟩ := (show ∃ t, Value.notImplemented = _ from r); cases z))
/-- a def run below the running body -/
theorem run_below {pins : List (Addr × Obj)} {σ : L2.St} {H : Hp} {s : Shared} {Q : VK} {us : List Value} {vs : List V} {A : Around} (F : FnOk X.prog X.w X.K X.mg X.base CX k f fd ps sp) (sb : Sub X k A) (hb : Binds X.K fd ps []) (hx : Passes CX X E)
    (I : Inv X pins σ H s) (r : Vals vs us) (h : sp vs H Q E) : wpAny (model X.prog X.w) A (call (.ref f) us) (EP X pins σ Q) X.xe s := by
  have e0 : Env0 X.prog X.w X.K X.mg X.base A X.stack s H := by
    have e := I.env0
    exact ⟨by rw [sb.fr]; exact e.frames, e.mod, e.bs, e.bsz, e.funs, e.frf, e.hok, e.bare⟩
  have hl := F.len _ _ _ _ h
  refine wpAny_call (codeAny_mono (F.run A X.stack s H ⟨us, []⟩ us vs Q E sb.room e0 (by
    have := hb s us I.kIn (by rw [List.append_nil, ← r.length]; exact hl)
    simpa using this) r h) fun r s' hq => ?_)
  cases r with
  | error e => exact hx pins σ H s e s' I hq
  | ok fl =>
    cases fl with
    | ret w => exact I.after hq
    | next => exact False.elim hq
    | brk => exact False.elim hq
    | cont => exact False.elim hq
theorem inst_at {pins : List (Addr × Obj)} {σ : L2.St} {H : Hp} {s : Shared} {p dx : Addr} {fs : List (Str × V)} (I : Inv X pins σ H s) (h : H p = some (.ins C dx fs)) : ∃ ox od, InstAt s.heap p ox C od := by
  obtain ⟨mA, J, _⟩ := ins_get I.hok h
  obtain ⟨od, J, _⟩ := J.look
  exact ⟨_, _, J⟩
/-- x + None -/
def rOwn (C : Addr) (sp : Sp) (E : XK) : V → V → Hp → VK → Prop := fun x y H Q => ∃ p dx fs, x = .ref p ∧ H p = some (.ins C dx fs) ∧ sp [x, y] H Q E
theorem op_own_non {fo ro rc : Option Value} (hm : Meth X.K C "__add__" f) (hc : PySem.W.selfFirst X.K C = true) (hr' : findIn X.K (.ref C) "__radd__" = some rc) (hp : rc = none ∨ ∃ g : Addr, rc = some (.ref g))
    (h1 : findIn X.K (.type "NoneType") "__add__" = some fo) (h2 : findIn X.K (.type "NoneType") "__radd__" = some ro) (hsub : subIn X.K (.type "NoneType") (.ref C) = some false)
    (F : FnOk X.prog X.w X.K X.mg X.base CX k f fd ps sp) (hr : Room k X.A) (hb : Binds X.K fd ps []) (hx : Passes CX X E) : OpR X (binaryOp .Add) (fun x y H Q => y = .non ∧ rOwn C sp E x y H Q) := by
  intro pins s σ H x y v u Q I rx ry h
  obtain ⟨rfl, p, dx, fs, rfl, hp', q⟩ := h
  cases rx
  cases ry
  obtain ⟨ox, od, J⟩ := inst_at I hp'
  obtain ⟨m, hF⟩ := I.fr
  refine PySem.W.ksp_binT (T := "NoneType") hF I.ok.mod.kin J rfl hc hm.at_ hm.fn hr' hp h1 h2 hsub ?_
  exact wpAny_mono (run_below (vs := [.ref p, .non]) F ⟨hr, rfl⟩ hb hx I (.cons rfl (.cons rfl .nil)) q) (fun _ _ h => ep_back h) fun _ _ e => e
/-- x += y -/
theorem ip_own (hm : Meth X.K C "__iadd__" f) (hc : PySem.W.selfFirst X.K C = true) (F : FnOk X.prog X.w X.K X.mg X.base CX k f fd ps sp) (hr : Room k X.A) (hb : Binds X.K fd ps []) (hx : Passes CX X E) : PIp X .Add (rOwn C sp E) := by
  intro pins s σ H x y v u Q I rx ry h
  obtain ⟨p, dx, fs, rfl, hp', q⟩ := h
  cases rx
  obtain ⟨ox, od, J⟩ := inst_at I hp'
  obtain ⟨m, hF⟩ := I.fr
  refine PySem.W.ksp_inplace hF I.ok.mod.kin J hc hm.at_ hm.fn ?_
  exact wpAny_mono (run_below (vs := [.ref p, y]) F ⟨hr, rfl⟩ hb hx I (.cons rfl (.cons ry .nil)) q) (fun _ _ h => ep_back h) fun _ _ e => e
/-- x[i] = y -/
theorem set_own (hm : Meth X.K C "__setitem__" f) (hq : PySem.W.noSeq X.K C = true) (F : FnOk X.prog X.w X.K X.mg X.base CX k f fd ps sp) (hr : Room k X.A) (hb : Binds X.K fd ps []) (hx : Passes CX X E) :
    PSet X (fun o i y H Q => ∃ p dx fs, o = .ref p ∧ H p = some (.ins C dx fs) ∧ sp [o, i, y] H (fun _ H' => Q H') E) := by
  intro pins s σ H o i y ov iv u Q I ro ri ry h
  obtain ⟨p, dx, fs, rfl, hp', q⟩ := h
  cases ro
  obtain ⟨ox, od, J⟩ := inst_at I hp'
  obtain ⟨m, hF⟩ := I.fr
  refine PySem.W.ksp_setItem hF I.ok.mod.kin J hq hm.at_ hm.fn ?_
  refine wpAny_mono (run_below (vs := [.ref p, i, y]) F ⟨hr, rfl⟩ hb hx I (.cons rfl (.cons ri (.cons ry .nil))) q) (fun _ _ h => ?_) fun _ _ e => e
  obtain ⟨x, H', I', _, q'⟩ := h
  exact ⟨H', I', q'⟩
/-- len(x) -/
theorem call_lenO (hm : Meth X.K C "__len__" f) (F : FnOk X.prog X.w X.K X.mg X.base CX k f fd ps sp) (hr : Room (k + 1) X.A) (hb : Binds X.K fd ps []) (hx : Passes CX X E) :
    CallR X (.builtin "len") (fun xs H Q => ∃ p dx fs, xs = [.ref p] ∧ H p = some (.ins C dx fs) ∧ sp xs H (fun v H' => ∃ n : Nat, v = .int (n : Nat) ∧ n < 2 ^ 62 ∧ Q v H') E) := by
  intro pins s σ H xs us Q I r h
  obtain ⟨p, dx, fs, rfl, hp', q⟩ := h
  obtain rfl := Vals.ref1 r
  obtain ⟨ox, od, J⟩ := inst_at I hp'
  obtain ⟨m, hF⟩ := I.fr
  refine PySem.W.len_K hF I.ok.mod.kin J hm.at_ hm.fn ?_
  refine wpAny_mono (run_below F (Sub.in1 ⟨hr, rfl⟩) hb hx I r q) (fun v s' h => ?_) fun _ _ e => e
  obtain ⟨x, H', I', rv, n, rfl, hn, q'⟩ := h
  obtain ⟨t, rfl⟩ := rv
  exact ⟨⟨by omega, by omega⟩, .int n, H', I'.tok _, ⟨_, rfl⟩, q'⟩
/-- bool(x) -/
theorem call_boolO (hm : Meth X.K C "__bool__" f) (F : FnOk X.prog X.w X.K X.mg X.base CX k f fd ps sp) (hr : Room (k + 2) X.A) (hb : Binds X.K fd ps []) (hx : Passes CX X E) :
    CallR X (.type "bool") (fun xs H Q => ∃ p dx fs, xs = [.ref p] ∧ H p = some (.ins C dx fs) ∧ sp xs H (fun v H' => ∃ c, v = .bl c ∧ Q v H') E) := by
  intro pins s σ H xs us Q I r h
  obtain ⟨p, dx, fs, rfl, hp', q⟩ := h
  obtain rfl := Vals.ref1 r
  obtain ⟨ox, od, J⟩ := inst_at I hp'
  obtain ⟨m, hF⟩ := I.fr
  refine boolK hF I.ok.mod.kin J hm.at_ hm.fn ?_
  refine wpAny_mono (run_below F (Sub.in1 (Sub.in1 ⟨hr, rfl⟩)) hb hx I r q) (fun v s' h => ?_) fun _ _ e => e
  obtain ⟨x, H', I', rv, c, rfl, q'⟩ := h
  cases rv
  exact ⟨c, rfl, .bl c, H', I', rfl, q'⟩
/-- x != y, by the own == -/
theorem op_ne_own (hm : Meth X.K C "__eq__" f) (hn : findIn X.K (.ref C) "__ne__" = some (some (.builtin "object.__ne__"))) (ho : subIn X.K (.ref C) (.type "object") = some true) (F : FnOk X.prog X.w X.K X.mg X.base CX k f fd ps sp) (hr : Room (k + 1) X.A) (hb : Binds X.K fd ps []) (hx : Passes CX X E) :
    OpR X (compareOp .NotEq) (fun x y H Q => ∃ p q dx dy fs gs, x = .ref p ∧ y = .ref q ∧ H p = some (.ins C dx fs) ∧ H q = some (.ins C dy gs) ∧ sp [x, y] H (fun v H' => ∃ c, v = .bl c ∧ Q (.bl (!c)) H') E) := by
  intro pins s σ H x y v u Q I rx ry h
  obtain ⟨p, q, dx, dy, fs, gs, rfl, rfl, hp', hq', h⟩ := h
  cases rx
  cases ry
  obtain ⟨ox, od, J⟩ := inst_at I hp'
  obtain ⟨oy, ody, J2⟩ := inst_at I hq'
  obtain ⟨m, hF⟩ := I.fr
  show wpAny (model X.prog X.w) X.A (richCompare .NotEq _ _) _ _ _
  refine ne_K (by have := hr.un; omega) hF I.ok.mod.kin J J2.type hn hm.at_ hm.fn ho ?_
  refine wpAny_mono (run_below (vs := [.ref p, .ref q]) F (Sub.in1 ⟨hr, rfl⟩) hb hx I (.cons rfl (.cons rfl .nil)) h) (fun v s' h => ?_) fun _ _ e => e
  obtain ⟨x, H', I', rv, c, rfl, q'⟩ := h
  cases rv
  exact ⟨c, rfl, .bl _, H', I', rfl, q'⟩
end
end TX
namespace TX
open PySem PySem.Spec PySem.Calls PyProof.Rows L2
open PySem.W (Frag InstAt findIn subIn Looks looks_findIn looks_subIn)
/-! ### two own objects, and an own object on the right -/
section
variable {prog : Program} {w : World} {A : Around} {E : Value → Shared → Prop} {s : Shared} {K : Frag} {x C L f g : Addr} {h₀ : Heap} {m : Str → Option Value} {ox : Obj} {od : Option Obj} {b : Value} {T : String}
theorem bin2_K {op : Operator} {Q : Value → Shared → Prop} (F : Fr h₀ L s.heap m) (X₀ : K.In h₀) (I : InstAt s.heap x ox C od) (hb : Looks (model prog w) s.heap (typeOf b) (.ref C)) (hc : PySem.W.selfFirst K C = true)
    (hs : findIn K (.ref C) (PySem.dunder op.info.2) = some (some (.ref f))) (hf : PySem.W.isFn K (.ref f) = true)
    (h : wpAny (model prog w) A (call (.ref f) [.ref x, b]) (PySem.W.CmpBack Q) E s) : wpAny (model prog w) A (binaryOp op (.ref x) b) Q E s := by
  have X := X₀.keeps F.keep
  obtain ⟨cd, rest, hcd, hm⟩ := PySem.W.ksp_first hc
  rcases hi : op.info with ⟨sym, nm'⟩
  rw [hi] at hs
  dsimp only at hs
  have one := PySem.W.ksp_try X I hs hf h
  obtain ⟨hh, g, d, tt, os⟩ := s
  have L1 : Looks (model prog w) hh (typeOf (.ref x)) (.ref C) := I.type
  have L2 : Looks (model prog w) hh (typeOf b) (.ref C) := hb
  have L3 : Looks (model prog w) hh (fillsNumberSlot (.ref C) nm') true := PySem.W.fills_K X hcd hm hs
  have heq : (Value.ref C == Value.ref C) = true := beq_self_eq_true _
  simp only [binaryOp, hi]
  refine wpAny_holding (wpAny_bind ?_)
  unfold binaryOp1
  refine wpAny_bind (L1.at (wpAny_bind (L2.at (wpAny_bind (L3.at ?_)))))
  simp only [heq, if_true]
  ksp_lk
  refine wpAny_mono one (fun r s' hr' => ?_) fun _ _ e => e
  obtain ⟨v, rfl, hq⟩ := hr'
  ksp_lk
  exact hq
/-- a op x, by the own reflected method; where the left one's type has a slot of its own, it declines -/
theorem refl_K {op : Operator} {a : Value} {fo ro : Option Value} {Q : Value → Shared → Prop} (F : Fr h₀ L s.heap m) (X₀ : K.In h₀) (I : InstAt s.heap x ox C od) (ha : Looks (model prog w) s.heap (typeOf a) (.type T)) (hc : PySem.W.selfFirst K C = true)
    (hs : findIn K (.ref C) (PySem.dunder op.info.2) = some (some (.ref g))) (hr : findIn K (.ref C) (dunderR op.info.2) = some (some (.ref f))) (hf : PySem.W.isFn K (.ref f) = true)
    (h1 : findIn K (.type T) (PySem.dunder op.info.2) = some fo) (h2 : findIn K (.type T) (dunderR op.info.2) = some ro) (hsub : subIn K (.ref C) (.type T) = some false)
    (hl : ((fo.isSome && !isSeqSlot fo) || (ro.isSome && !isSeqSlot ro)) = true → ∀ Q' : Option Value → Shared → Prop, Q' none s → wpAny (model prog w) A (tryMethod a (PySem.dunder op.info.2) (.ref x)) Q' E s)
    (h : wpAny (model prog w) A (call (.ref f) [.ref x, a]) (PySem.W.CmpBack Q) E s) : wpAny (model prog w) A (binaryOp op a (.ref x)) Q E s := by
  have X := X₀.keeps F.keep
  obtain ⟨cd, rest, hcd, hm⟩ := PySem.W.ksp_first hc
  rcases hi : op.info with ⟨sym, nm'⟩
  rw [hi] at hs hr h1 h2 hl
  dsimp only at hs hr h1 h2 hl
  have one := PySem.W.ksp_try X I hr hf h
  obtain ⟨hh, gg, d, tt, os⟩ := s
  have L1 : Looks (model prog w) hh (typeOf a) (.type T) := ha
  have L2 : Looks (model prog w) hh (typeOf (.ref x)) (.ref C) := I.type
  have L3 : Looks (model prog w) hh (fillsNumberSlot (.type T) nm') ((fo.isSome && !isSeqSlot fo) || (ro.isSome && !isSeqSlot ro)) := PySem.W.ksp_fillsT X h1 h2
  have L4 : Looks (model prog w) hh (fillsNumberSlot (.ref C) nm') true := PySem.W.fills_K X hcd hm hs
  have L5 : Looks (model prog w) hh (isSubtype (.ref C) (.type T)) false := looks_subIn X hsub
  have L7 : Looks (model prog w) hh (numberSlotInPython (.type T) nm') false := Looks.of_pure rfl
  generalize ((fo.isSome && !isSeqSlot fo) || (ro.isSome && !isSeqSlot ro)) = left at L3 hl
  have hne : (Value.type T == Value.ref C) = false := Bool.eq_false_iff.mpr fun q => by cases beq_iff_eq.mp q
  simp only [binaryOp, hi]
  refine wpAny_holding (wpAny_bind ?_)
  unfold binaryOp1
  refine wpAny_bind (L1.at (wpAny_bind (L2.at (wpAny_bind (L3.at ?_)))))
  simp only [hne, Bool.false_eq_true, if_false]
  cases left with
  | false =>
    ksp_lk
    refine wpAny_mono one (fun r s' hr' => ?_) fun _ _ e => e
    obtain ⟨v, rfl, hq⟩ := hr'
    ksp_lk
    exact hq
  | true =>
    ksp_lk
    refine hl rfl _ ?_
    ksp_lk
    refine wpAny_mono one (fun r s' hr' => ?_) fun _ _ e => e
    obtain ⟨v, rfl, hq⟩ := hr'
    ksp_lk
    exact hq
theorem int_mul_ref (a : Int) (t : Tok) (l dx C : Addr) :
    Meets (Builtin.«int.__mul__» ⟨[.int a t, .ref l], []⟩) (fun _ R s => s.heap.get? l = some (PySem.W.instObj C dx) ∧ R (.ok (.ret Value.notImplemented)) s) :=
  .of_wp fun prog w A R s h => by
    obtain ⟨hp, g, d, tk, os⟩ := s
    obtain ⟨hl, h⟩ := h
    wp_walk
    exact ⟨_, rfl, h⟩
theorem try_int_mul {a : Int} {t : Tok} {dx : Addr} (e : s.heap.get? x = some (PySem.W.instObj C dx)) : ∀ Q' : Option Value → Shared → Prop, Q' none s → wpAny (model prog w) A (tryMethod (.int a t) (PySem.dunder "mul") (.ref x)) Q' E s := fun Q' q =>
  wpAny_tryMethod_declines (typeIs_int s a t) F.slot_int_mul (call_meets F.slot_int_mul (typeIs_int s a t) F.entry_int_mul (F.args_int_mul_2 _ _) (int_mul_ref a t x dx C) ⟨e, rfl, q⟩)
/-- x == b, by the own == -/
theorem eq_K {Q : Value → Shared → Prop} (hu : A.units + 1 < cLine) (F : Fr h₀ L s.heap m) (X₀ : K.In h₀) (I : InstAt s.heap x ox C od) (hb : Looks (model prog w) s.heap (typeOf b) (.ref C))
    (hs : findIn K (.ref C) "__eq__" = some (some (.ref f))) (hf : PySem.W.isFn K (.ref f) = true)
    (h : wpAny (model prog w) A (call (.ref f) [.ref x, b]) (PySem.W.CmpBack Q) E s) : wpAny (model prog w) A (richCompare .Eq (.ref x) b) Q E s := by
  have X := X₀.keeps F.keep
  have one : wpAny (model prog w) A (tryCompare (.ref x) "__eq__" b) (fun r s' => ∃ v, r = some v ∧ Q v s') E s := by
    unfold tryCompare
    refine wpAny_bind (m := callSpecialIfBound? (.ref x) (Str.ofString "__eq__") [b]) (PySem.W.ifBound_K X I hs hf (wpAny_mono h (fun v s' hv => ?_) fun _ _ e => e))
    cases v <;> first | exact hv.elim | exact wpAny_pure ⟨_, rfl, hv⟩
  unfold richCompare
  simp only [oneThing_ref]
  refine wpAny_holding (wpAny_bind (wpAny_cRoomFor (Nat.lt_of_succ_lt hu) ?_))
  rw [cmpInfo_Eq]
  dsimp only
  refine wpAny_bind (I.type.here (wpAny_bind (hb.here ?_)))
  rw [show (Value.ref C != Value.ref C) = false from by simp]
  simp only [Bool.false_eq_true, if_false]
  refine wpAny_bind (wpAny_pure ?_)
  simp only [Bool.false_eq_true, if_false]
  refine wpAny_bind (wpAny_mono one (fun r s' z => ?_) fun _ _ e => e)
  obtain ⟨v, rfl, hq⟩ := z
  exact wpAny_pure hq
end
section
variable {X : Cx} {CX : CXT} {C f g : Addr} {k : Nat} {fd : FuncData} {ps : List Str} {sp : Sp} {E : XK}
def rOwn2 (C : Addr) (sp : Sp) (E : XK) : V → V → Hp → VK → Prop := fun x y H Q => ∃ p q dx dy fs gs, x = .ref p ∧ y = .ref q ∧ H p = some (.ins C dx fs) ∧ H q = some (.ins C dy gs) ∧ sp [x, y] H Q E
/-- x op y of two own objects -/
theorem op_own2 {op : Operator} {nm : Str} (hn : nm = PySem.dunder op.info.2) (hm : Meth X.K C nm f) (hc : PySem.W.selfFirst X.K C = true) (F : FnOk X.prog X.w X.K X.mg X.base CX k f fd ps sp) (hr : Room k X.A) (hb : Binds X.K fd ps []) (hx : Passes CX X E) :
    OpR X (binaryOp op) (rOwn2 C sp E) := by
  subst hn
  intro pins s σ H x y v u Q I rx ry h
  obtain ⟨p, q, dx, dy, fs, gs, rfl, rfl, hp', hq', h⟩ := h
  cases rx
  cases ry
  obtain ⟨ox, od, J⟩ := inst_at I hp'
  obtain ⟨oy, ody, J2⟩ := inst_at I hq'
  obtain ⟨m, hF⟩ := I.fr
  refine bin2_K hF I.ok.mod.kin J J2.type hc hm.at_ hm.fn ?_
  exact wpAny_mono (run_below (vs := [.ref p, .ref q]) F ⟨hr, rfl⟩ hb hx I (.cons rfl (.cons rfl .nil)) h) (fun _ _ h => ep_back h) fun _ _ e => e
/-- x == y, by the own == -/
theorem op_eq_own (hm : Meth X.K C "__eq__" f) (F : FnOk X.prog X.w X.K X.mg X.base CX k f fd ps sp) (hr : Room k X.A) (hb : Binds X.K fd ps []) (hx : Passes CX X E) : OpR X (compareOp .Eq) (rOwn2 C sp E) := by
  intro pins s σ H x y v u Q I rx ry h
  obtain ⟨p, q, dx, dy, fs, gs, rfl, rfl, hp', hq', h⟩ := h
  cases rx
  cases ry
  obtain ⟨ox, od, J⟩ := inst_at I hp'
  obtain ⟨oy, ody, J2⟩ := inst_at I hq'
  obtain ⟨m, hF⟩ := I.fr
  show wpAny (model X.prog X.w) X.A (richCompare .Eq _ _) _ _ _
  refine eq_K (by have := hr.un; omega) hF I.ok.mod.kin J J2.type hm.at_ hm.fn ?_
  exact wpAny_mono (run_below (vs := [.ref p, .ref q]) F ⟨hr, rfl⟩ hb hx I (.cons rfl (.cons rfl .nil)) h) (fun _ _ h => ep_back h) fun _ _ e => e
/-- x * n -/
theorem op_mul_int {fo ro rc : Option Value} (hm : Meth X.K C "__mul__" f) (hc : PySem.W.selfFirst X.K C = true) (hr' : findIn X.K (.ref C) "__rmul__" = some rc) (hp : rc = none ∨ ∃ g : Addr, rc = some (.ref g))
    (h1 : findIn X.K (.type "int") "__mul__" = some fo) (h2 : findIn X.K (.type "int") "__rmul__" = some ro) (hsub : subIn X.K (.type "int") (.ref C) = some false)
    (F : FnOk X.prog X.w X.K X.mg X.base CX k f fd ps sp) (hr : Room k X.A) (hb : Binds X.K fd ps []) (hx : Passes CX X E) : OpR X (binaryOp .Mult) (fun x y H Q => (∃ n, y = .int n) ∧ rOwn C sp E x y H Q) := by
  intro pins s σ H x y v u Q I rx ry h
  obtain ⟨⟨n, rfl⟩, p, dx, fs, rfl, hp', q⟩ := h
  cases rx
  obtain ⟨t, rfl⟩ := ry
  obtain ⟨ox, od, J⟩ := inst_at I hp'
  obtain ⟨m, hF⟩ := I.fr
  refine PySem.W.ksp_binT (T := "int") hF I.ok.mod.kin J rfl hc hm.at_ hm.fn hr' hp h1 h2 hsub ?_
  exact wpAny_mono (run_below (vs := [.ref p, .int n]) F ⟨hr, rfl⟩ hb hx I (.cons rfl (.cons ⟨t, rfl⟩ .nil)) q) (fun _ _ h => ep_back h) fun _ _ e => e
/-- n * x -/
theorem op_int_mul {fo ro : Option Value} (ha : findIn X.K (.ref C) "__mul__" = some (some (.ref g))) (hm : Meth X.K C "__rmul__" f) (hc : PySem.W.selfFirst X.K C = true)
    (h1 : findIn X.K (.type "int") "__mul__" = some fo) (h2 : findIn X.K (.type "int") "__rmul__" = some ro) (hsub : subIn X.K (.ref C) (.type "int") = some false)
    (F : FnOk X.prog X.w X.K X.mg X.base CX k f fd ps sp) (hr : Room k X.A) (hb : Binds X.K fd ps []) (hx : Passes CX X E) : OpR X (binaryOp .Mult) (fun x y H Q => (∃ n, x = .int n) ∧ rOwn C sp E y x H Q) := by
  intro pins s σ H x y v u Q I rx ry h
  obtain ⟨⟨n, rfl⟩, p, dx, fs, rfl, hp', q⟩ := h
  cases ry
  obtain ⟨t, rfl⟩ := rx
  obtain ⟨mA, J0, _⟩ := ins_get I.hok hp'
  have ho := J0.obj
  obtain ⟨od, J, _⟩ := J0.look
  obtain ⟨m, hF⟩ := I.fr
  refine refl_K (T := "int") hF I.ok.mod.kin J (Looks.of_pure rfl) hc ha hm.at_ hm.fn h1 h2 hsub (fun _ => try_int_mul ho) ?_
  exact wpAny_mono (run_below (vs := [.ref p, .int n]) F ⟨hr, rfl⟩ hb hx I (.cons rfl (.cons ⟨t, rfl⟩ .nil)) q) (fun _ _ h => ep_back h) fun _ _ e => e
/-- y + x, y nothing, a text, a list -/
theorem op_val_add {fo fs' fl ro rs rl : Option Value} (ha : findIn X.K (.ref C) "__add__" = some (some (.ref g))) (hm : Meth X.K C "__radd__" f) (hc : PySem.W.selfFirst X.K C = true)
    (h1 : findIn X.K (.type "NoneType") "__add__" = some fo) (h2 : findIn X.K (.type "NoneType") "__radd__" = some ro) (n1 : ((fo.isSome && !isSeqSlot fo) || (ro.isSome && !isSeqSlot ro)) = false) (u1 : subIn X.K (.ref C) (.type "NoneType") = some false)
    (h3 : findIn X.K (.type "str") "__add__" = some fs') (h4 : findIn X.K (.type "str") "__radd__" = some rs) (n2 : ((fs'.isSome && !isSeqSlot fs') || (rs.isSome && !isSeqSlot rs)) = false) (u2 : subIn X.K (.ref C) (.type "str") = some false)
    (h5 : findIn X.K (.type "list") "__add__" = some fl) (h6 : findIn X.K (.type "list") "__radd__" = some rl) (n3 : ((fl.isSome && !isSeqSlot fl) || (rl.isSome && !isSeqSlot rl)) = false) (u3 : subIn X.K (.ref C) (.type "list") = some false)
    (F : FnOk X.prog X.w X.K X.mg X.base CX k f fd ps sp) (hr : Room k X.A) (hb : Binds X.K fd ps []) (hx : Passes CX X E) : OpR X (binaryOp .Add) (fun y x H Q => (y = .non ∨ (∃ z, y = .str z) ∨ ∃ a xs, y = .ref a ∧ H a = some (.lst xs)) ∧ rOwn C sp E x y H Q) := by
  intro pins s σ H y x v u Q I ry rx h
  obtain ⟨hy, p, dx, fs, rfl, hp', q⟩ := h
  cases rx
  obtain ⟨ox, od, J⟩ := inst_at I hp'
  obtain ⟨m, hF⟩ := I.fr
  have no : ∀ {b : Bool} {P : Prop}, b = false → b = true → P := fun e1 e2 => by rw [e1] at e2; cases e2
  have fin : wpAny (model X.prog X.w) X.A (call (.ref f) [.ref p, v]) (PySem.W.CmpBack (EP X pins σ Q)) X.xe s :=
    wpAny_mono (run_below (vs := [.ref p, y]) F ⟨hr, rfl⟩ hb hx I (.cons rfl (.cons ry .nil)) q) (fun _ _ h => ep_back h) fun _ _ e => e
  rcases hy with rfl | ⟨z, rfl⟩ | ⟨a, xs, rfl, ha'⟩
  · cases ry
    exact refl_K (T := "NoneType") hF I.ok.mod.kin J (Looks.of_pure rfl) hc ha hm.at_ hm.fn h1 h2 u1 (no n1) fin
  · obtain ⟨t, rfl⟩ := ry
    exact refl_K (T := "str") hF I.ok.mod.kin J (Looks.of_pure rfl) hc ha hm.at_ hm.fn h3 h4 u2 (no n2) fin
  · cases ry
    obtain ⟨z, its, n, r, hl, e⟩ := I.lstM ha'
    exact refl_K (T := "list") hF I.ok.mod.kin J ((Looks.ld e).andThen .now) hc ha hm.at_ hm.fn h5 h6 u3 (no n3) fin
end
/-! ### range(n), n negative and however great -/
section
variable {X : Cx} {tg : Expr}
theorem turn_long {P : Program} {w : World} {K : PySem.W.Frag} {tg : Expr} (it : Addr) (left : Int) (hl : left ≤ 0) : Turn P w K tg (Itr 0 0) [it] it (fun _ h => IsLongIter h it 0 left 1) where
  mem := by simp
  obj := fun i h st b hb => by
    have e : b = it := by simpa using hb
    subst e
    exact ⟨_, st, fun v z => by
      have z' : Data.fields _ = Data.cell v := z
      cases z'⟩
  keep := fun i h h' st k => k it (by simp) _ st
  item := by
    intro X hP hw hK hc i pins s σ H E I hf st hg
    exact absurd (show i < 0 from hg) (Nat.not_lt_zero _)
  done := by
    intro X hP hw hK hc i pins s σ H E I hf st hg
    subst hP hw hK
    obtain ⟨f0, f1, f2, f3, f4, f5⟩ := hf it (by simp)
    exact wpAny_pyNext_long_end (I.ok.hd hc) st hl fun h' eb => ⟨rfl, I.turned (t' := s.toks) (fun b o hb e => eb b o hb e) f0 f1 f3 f4 f5⟩
  self := fun _ _ _ _ _ st h => wpAny_pyIter_longiter st h
theorem small_long {j : Int} (h : j < -(2 ^ 64)) : Builtin.Range.small 0 j 1 = false := by
  unfold Builtin.Range.small Builtin.Range.rangeFitsLong
  simp only [Bool.and_eq_false_iff, decide_eq_false_iff_not, Bool.or_eq_false_iff]
  refine .inl (.inl (.inl (.inr ?_)))
  omega
theorem range_itL {pins : List (Addr × Obj)} {σ : L2.St} {H : Hp} {s : Shared} {R : It → Hp → Prop} {E : Value → Shared → Prop} {hi : Int} {t u v : Tok} {tk : Nat} (I : Inv X pins σ H s) (h : hi < -(2 ^ 64))
    (q : R (Itr 0 0) H) : wpAny (model X.prog X.w) X.A (pyIter (.ref s.heap.objs.size)) (PIE X pins σ tg R) E { s with heap := s.heap.push { cls := .type "range", data := .fields #[.int 0 t, .int hi u, .int 1 v] }, toks := tk } := by
  refine wpAny_pyIter_longrange (IsRange.new ..) (small_long h) ?_
  have I1 : Inv X pins σ H { s with heap := s.heap.push { cls := .type "range", data := .fields #[.int 0 t, .int hi u, .int 1 v] }, toks := tk } := I.kept fun b o e => Heap.get?_push_of_some _ e
  have e2 : Builtin.Range.rangeSize 0 hi 1 ≤ 0 := by
    rw [rangeSize_one]
    split <;> omega
  refine ⟨(s.heap.push { cls := .type "range", data := .fields #[.int 0 t, .int hi u, .int 1 v] }).objs.size, [(s.heap.push { cls := .type "range", data := .fields #[.int 0 t, .int hi u, .int 1 v] }).objs.size], _, _, H, rfl,
    I1.kept (t' := tk) fun b o e => Heap.get?_push_of_some _ e, turn_long _ _ e2, ?_, fun b hb => ?_, q⟩
  · exact Heap.get?_push_size _ rfl
  · have e : b = (s.heap.push { cls := .type "range", data := .fields #[.int 0 t, .int hi u, .int 1 v] }).objs.size := by simpa using hb
    subst e
    exact I1.fpOk (Nat.le_refl _) (I1.hok.fresh (Nat.le_refl _))
def iRngW (ta : TA) : TI := fun σ H R => ta σ H fun vs H1 => ∃ j : Int, vs = [.int j] ∧ (-(2 ^ 62) ≤ j ∨ j < -(2 ^ 64)) ∧ j < 2 ^ 62 ∧ R (Itr 0 j.toNat) H1
theorem pi_range1W {a : Expr} {ta : TA} {p pos : Pos} (hg : Gl X "range") (hm : X.mg "range" = none) (ha : PA X [a] ta) (hs : starEach [a] X.env = [(false, eval a X.env)] := by rfl) : PI X tg (.Call (.Name "range" p) [a] [] pos) (iRngW ta) := by
  refine ⟨fun pins s σ H R I h => ?_⟩
  refine Call_ (ld_blt I hg hm boot_range (PyProof.Rows.callWith_type1 (thn (ha.run pos pins s σ H _ I h) fun us s1 ⟨vs, H1, I1, r1, q1⟩ => ?_) hs rfl))
  obtain ⟨j, e, q1, q2, q⟩ := q1
  subst e
  cases r1 with
  | cons r rr =>
    cases rr
    obtain ⟨t, rfl⟩ := r
    rcases q1 with q1 | q1
    · exact call_range_1 (range_it I1 (by omega) (by omega) q1 q2 (by simpa using q))
    · refine call_range_1 (range_itL I1 q1 ?_)
      have e : j.toNat = 0 := by omega
      rw [e] at q
      exact q
end
end TX
namespace TX
open PySem PySem.Spec PyProof.Rows L2
section
variable {X : Cx} {CX : CXT} {C f : Addr} {k : Nat} {fd : FuncData} {ps : List Str} {sp : Sp} {E : XK}
/-- ~x of an own object -/
theorem un_inv_own (hm : Meth X.K C "__invert__" f) (F : FnOk X.prog X.w X.K X.mg X.base CX k f fd ps sp) (hr : Room k X.A) (hb : Binds X.K fd ps []) (hx : Passes CX X E) :
    UnR X (unaryOp .Invert) (fun x H Q => ∃ p dx fs, x = .ref p ∧ H p = some (.ins C dx fs) ∧ sp [.ref p] H Q E) := by
  intro pins s σ H x v Q I rx h
  obtain ⟨p, dx, fs, rfl, hp, q⟩ := h
  cases rx
  obtain ⟨ox, od, J⟩ := inst_at I hp
  obtain ⟨m, hF⟩ := I.fr
  refine PySem.W.ksp_inv hF I.ok.mod.kin J hm.at_ hm.fn ?_
  exact run_below (vs := [.ref p]) F ⟨hr, rfl⟩ hb hx I (.cons rfl .nil) q
end
end TX
namespace TX
open PySem PySem.Spec PyProof.Rows L2
/-! ### y in x, x an own object -/
section
variable {X : Cx} {CX : CXT} {C f : Addr} {k : Nat} {fd : FuncData} {ps : List Str} {sp : Sp} {E : XK}
/-- y in x, x an own object -/
theorem op_in_own (hm : Meth X.K C "__contains__" f) (F : FnOk X.prog X.w X.K X.mg X.base CX k f fd ps sp) (hr : Room k X.A) (hb : Binds X.K fd ps []) (hx : Passes CX X E) :
    OpR X (compareOp .In) (fun y x H Q => ∃ p dx fs, x = .ref p ∧ H p = some (.ins C dx fs) ∧ sp [.ref p, y] H (fun v H' => ∃ b, v = .bl b ∧ Q (.bl b) H') E) := by
  intro pins s σ H y x v u Q I ry rx h
  obtain ⟨p, dx, fs, rfl, hp, q⟩ := h
  cases rx
  obtain ⟨ox, od, J⟩ := inst_at I hp
  obtain ⟨m, hF⟩ := I.fr
  refine PySem.W.in_K hF I.ok.mod.kin J hm.at_ hm.fn ?_
  refine wpAny_mono (run_below (vs := [.ref p, y]) F ⟨hr, rfl⟩ hb hx I (.cons rfl (.cons ry .nil)) q) (fun z s' h => ?_) fun _ _ e => e
  obtain ⟨w, H', I', rw', b, rfl, q'⟩ := h
  cases rw'
  exact wpAny_pure ⟨.bl b, H', I', rfl, q'⟩
theorem op_notin_own (hm : Meth X.K C "__contains__" f) (F : FnOk X.prog X.w X.K X.mg X.base CX k f fd ps sp) (hr : Room k X.A) (hb : Binds X.K fd ps []) (hx : Passes CX X E) :
    OpR X (compareOp .NotIn) (fun y x H Q => ∃ p dx fs, x = .ref p ∧ H p = some (.ins C dx fs) ∧ sp [.ref p, y] H (fun v H' => ∃ b, v = .bl b ∧ Q (.bl (!b)) H') E) := by
  intro pins s σ H y x v u Q I ry rx h
  obtain ⟨p, dx, fs, rfl, hp, q⟩ := h
  cases rx
  obtain ⟨ox, od, J⟩ := inst_at I hp
  obtain ⟨m, hF⟩ := I.fr
  refine PySem.W.notIn_K hF I.ok.mod.kin J hm.at_ hm.fn ?_
  refine wpAny_mono (run_below (vs := [.ref p, y]) F ⟨hr, rfl⟩ hb hx I (.cons rfl (.cons ry .nil)) q) (fun z s' h => ?_) fun _ _ e => e
  obtain ⟨w, H', I', rw', b, rfl, q'⟩ := h
  cases rw'
  exact wpAny_pure ⟨.bl (!b), H', I', rfl, q'⟩
end
end TX
namespace TX
open PySem PySem.Spec PyProof.Rows L2
/-! ### operators -/
/-- which values a shape has -/
def lastP (gs : List Sg) : PyData → Bool := (predsOf [] gs).getD (gs.length - 1) nv
theorem lastP_snoc (g0 : List Sg) (g : Sg) : lastP (g0 ++ [g]) = g.pred (predsOf [] g0) := by
  unfold lastP
  have hl : (g0 ++ [g]).length - 1 = (predsOf [] g0).length := by
    rw [predsOf_len, List.length_append]
    simp
  rw [predsOf_snoc, hl, getD_new]
theorem asksN_app : ∀ (a b : List Sg), asksN (a ++ b) = asksN a + asksN b
  | [], b => by simp [asksN]
  | g :: a, b => by
    simp only [List.cons_append, asksN, asksN_app a b]
    omega
/-- what an operator's shape is -/
def BinQ (K : PySem.W.Frag) (C : Addr) (H Hv : Hp) (gs1 gs2 : List Sg) (op : Bool → Bool → Bool) (Q : VK) : Prop := ∀ (H' : Hp) (x : Addr) (gs : List Sg), Same H H' → H x = none → ShAt K (ov H Hv H') C x gs → gs ≠ [] → asksN gs ≤ asksN gs1 + asksN gs2 → gs.length ≤ gs1.length + gs2.length + 1 →
  lastP gs = (fun d => op (lastP gs1 d) (lastP gs2 d)) → Q (.ref x) H'
def spBin (K : PySem.W.Frag) (C : Addr) (op : Bool → Bool → Bool) : Sp := fun vs H Q _ => ∃ (x y : Addr) (gs1 gs2 : List Sg) (Hv : Hp), vs = [.ref x, .ref y] ∧ Same Hv H ∧ ShAt K Hv C x gs1 ∧ ShAt K Hv C y gs2 ∧ gs1 ≠ [] ∧ gs2 ≠ [] ∧ gs1.length ≤ 300 ∧ gs2.length ≤ 100 ∧ asksN gs1 + asksN gs2 ≤ 8 ∧ BinQ K C H Hv gs1 gs2 op Q
def spInv (K : PySem.W.Frag) (C : Addr) : Sp := fun vs H Q _ => ∃ (x : Addr) (gs : List Sg) (Hv : Hp), vs = [.ref x] ∧ Same Hv H ∧ ShAt K Hv C x gs ∧ gs ≠ [] ∧ gs.length ≤ 300 ∧ asksN gs ≤ 8 ∧
  ∀ (H' : Hp) (x' : Addr), Same H H' → H x' = none → ShAt K (ov H Hv H') C x' (gs ++ [.outside (gs.length - 1)]) → Q (.ref x') H'
section
variable {P : Program} {w : World} {K : PySem.W.Frag} {mg : Str → Option Value} {base : Heap} {C : Addr}
theorem scOrS : FnScope ["self", "other"] ["self", "other"] (defScope mShape_or) := ⟨rfl, rfl, rfl, by decide +kernel, rfl, by decide +kernel, by decide +kernel⟩
theorem ok_orS {f fI fB : Addr} {fd dI dB : FuncData} (F : Fun K "__or__" "Shape.__or__" mShape_or f fd) (T : Ek K mg C) (M : Mk K C fI) (GI : FnOk P w K mg base CX0 4 fI dI ["self", "recipe", "before"] (spInitS K C)) (bI : Binds K dI ["self", "recipe", "before"] [])
    (GB : FnOk P w K mg base CX0 1 fB dB ["sign", "one", "other"] (spBoth K)) (gB : mg "step_over_both" = some (.ref fB)) (kB : PySem.W.keepIn K (.ref fB) = true) (bB : Binds K dB ["sign", "one", "other"] []) : FnOk P w K mg base CX0 6 f fd ["self", "other"] (spBin K C (fun a b => a || b)) := by
  refine F.ok scOrS (fun vs H Q E h => ?_) (fun cdv A outer s H vs Q E hr h => ?_)
  · obtain ⟨x, y, gs1, gs2, Hv, rfl, _⟩ := h
    rfl
  · obtain ⟨x, y, gs1, gs2, Hv, rfl, sv, ⟨dx, rc, pl, aW, aA, aR, aL, as, ak, ws, ar, lv, hx0, RC, PF, hW, hk⟩, ⟨dy, rc2, pl2, aW2, aA2, aR2, aL2, as2, ak2, ws2, ar2, lv2, hy0, RC2, _⟩, ne1, ne2, l1, l2, h8, q⟩ := h
    have hx := sv _ _ hx0
    have hy := sv _ _ hy0
    refine ⟨_, pss_one (ps_ret (pe_make (E := E0) M GI hr (by rfl) T.mgC bI .nil pass0 (pa_cons (pe_call GB (hr.mono (by decide)) (by rfl) gB kB bB .nil pass0 (pa_cons pe_str (pa_cons (pe_fld (pv 0) rfl) (pa_cons (pe_fld (pv 1) rfl) pa_nil)))) (pa_cons (pe_fld (pv 0) rfl) pa_nil)))), ?_⟩
    refine ⟨_, rfl, x, C, dx, _, _, rfl, hx, T.cl, T.nR, shF_rec rc pl, _, rfl, y, C, dy, _, _, rfl, hy, T.cl, T.nR, shF_rec rc2 pl2, Sg.either, rc, rc2, as, as2, gs1, gs2, Hv, rfl, sv, RC, RC2, ne1, ne2, l1, l2, (fun j k => ⟨rfl, rfl, rfl, trivial⟩), fun H' rc' as' more j s RC' hask hml hj hp => ?_⟩
    refine ⟨_, rfl, x, C, dx, _, _, rfl, s _ _ hx, T.cl, T.nP, shF_plan rc pl, ?_⟩
    have al' := RC'.len
    have e1 : asksN (more ++ [Sg.either (gs1.length - 1) j]) = asksN more := by
      rw [asksN_snoc]
      rfl
    have gl : (gs1 ++ (more ++ [Sg.either (gs1.length - 1) j])).length ≤ gs1.length + gs2.length + 1 := by
      simp only [List.length_append, List.length_cons, List.length_nil]
      omega
    refine mk_shape (g0 := gs1) (gs := more ++ [Sg.either (gs1.length - 1) j]) (ov_same sv s) (PF.up (ov_sub sv)) RC' (by omega) hk (by omega) (asksN_app _ _) fun H2 x' s2 nx sh => ?_
    refine q H2 x' _ (s.trans s2) (s.free nx) (sh.up (ov_step s s2)) (by simp) (by rw [asksN_app, e1]; omega) gl ?_
    rw [← List.append_assoc, lastP_snoc]
    have p1 : 0 < gs1.length := List.length_pos_iff.mpr ne1
    have ea : (predsOf [] (gs1 ++ more)).getD (gs1.length - 1) nv = lastP gs1 := preds_pre more gs1 (by omega)
    have eb : (predsOf [] (gs1 ++ more)).getD j nv = lastP gs2 := hp
    simp only [Sg.pred, ea, eb]
theorem scAndS : FnScope ["self", "other"] ["self", "other"] (defScope mShape_and) := ⟨rfl, rfl, rfl, by decide +kernel, rfl, by decide +kernel, by decide +kernel⟩
theorem ok_andS {f fI fB : Addr} {fd dI dB : FuncData} (F : Fun K "__and__" "Shape.__and__" mShape_and f fd) (T : Ek K mg C) (M : Mk K C fI) (GI : FnOk P w K mg base CX0 4 fI dI ["self", "recipe", "before"] (spInitS K C)) (bI : Binds K dI ["self", "recipe", "before"] [])
    (GB : FnOk P w K mg base CX0 1 fB dB ["sign", "one", "other"] (spBoth K)) (gB : mg "step_over_both" = some (.ref fB)) (kB : PySem.W.keepIn K (.ref fB) = true) (bB : Binds K dB ["sign", "one", "other"] []) : FnOk P w K mg base CX0 6 f fd ["self", "other"] (spBin K C (fun a b => a && b)) := by
  refine F.ok scAndS (fun vs H Q E h => ?_) (fun cdv A outer s H vs Q E hr h => ?_)
  · obtain ⟨x, y, gs1, gs2, Hv, rfl, _⟩ := h
    rfl
  · obtain ⟨x, y, gs1, gs2, Hv, rfl, sv, ⟨dx, rc, pl, aW, aA, aR, aL, as, ak, ws, ar, lv, hx0, RC, PF, hW, hk⟩, ⟨dy, rc2, pl2, aW2, aA2, aR2, aL2, as2, ak2, ws2, ar2, lv2, hy0, RC2, _⟩, ne1, ne2, l1, l2, h8, q⟩ := h
    have hx := sv _ _ hx0
    have hy := sv _ _ hy0
    refine ⟨_, pss_one (ps_ret (pe_make (E := E0) M GI hr (by rfl) T.mgC bI .nil pass0 (pa_cons (pe_call GB (hr.mono (by decide)) (by rfl) gB kB bB .nil pass0 (pa_cons pe_str (pa_cons (pe_fld (pv 0) rfl) (pa_cons (pe_fld (pv 1) rfl) pa_nil)))) (pa_cons (pe_fld (pv 0) rfl) pa_nil)))), ?_⟩
    refine ⟨_, rfl, x, C, dx, _, _, rfl, hx, T.cl, T.nR, shF_rec rc pl, _, rfl, y, C, dy, _, _, rfl, hy, T.cl, T.nR, shF_rec rc2 pl2, Sg.both, rc, rc2, as, as2, gs1, gs2, Hv, rfl, sv, RC, RC2, ne1, ne2, l1, l2, (fun j k => ⟨rfl, rfl, rfl, trivial⟩), fun H' rc' as' more j s RC' hask hml hj hp => ?_⟩
    refine ⟨_, rfl, x, C, dx, _, _, rfl, s _ _ hx, T.cl, T.nP, shF_plan rc pl, ?_⟩
    have al' := RC'.len
    have e1 : asksN (more ++ [Sg.both (gs1.length - 1) j]) = asksN more := by
      rw [asksN_snoc]
      rfl
    have gl : (gs1 ++ (more ++ [Sg.both (gs1.length - 1) j])).length ≤ gs1.length + gs2.length + 1 := by
      simp only [List.length_append, List.length_cons, List.length_nil]
      omega
    refine mk_shape (g0 := gs1) (gs := more ++ [Sg.both (gs1.length - 1) j]) (ov_same sv s) (PF.up (ov_sub sv)) RC' (by omega) hk (by omega) (asksN_app _ _) fun H2 x' s2 nx sh => ?_
    refine q H2 x' _ (s.trans s2) (s.free nx) (sh.up (ov_step s s2)) (by simp) (by rw [asksN_app, e1]; omega) gl ?_
    rw [← List.append_assoc, lastP_snoc]
    have p1 : 0 < gs1.length := List.length_pos_iff.mpr ne1
    have ea : (predsOf [] (gs1 ++ more)).getD (gs1.length - 1) nv = lastP gs1 := preds_pre more gs1 (by omega)
    have eb : (predsOf [] (gs1 ++ more)).getD j nv = lastP gs2 := hp
    simp only [Sg.pred, ea, eb]
theorem scSubS : FnScope ["self", "other"] ["self", "other"] (defScope mShape_sub) := ⟨rfl, rfl, rfl, by decide +kernel, rfl, by decide +kernel, by decide +kernel⟩
theorem ok_subS {f fI fB : Addr} {fd dI dB : FuncData} (F : Fun K "__sub__" "Shape.__sub__" mShape_sub f fd) (T : Ek K mg C) (M : Mk K C fI) (GI : FnOk P w K mg base CX0 4 fI dI ["self", "recipe", "before"] (spInitS K C)) (bI : Binds K dI ["self", "recipe", "before"] [])
    (GB : FnOk P w K mg base CX0 1 fB dB ["sign", "one", "other"] (spBoth K)) (gB : mg "step_over_both" = some (.ref fB)) (kB : PySem.W.keepIn K (.ref fB) = true) (bB : Binds K dB ["sign", "one", "other"] []) : FnOk P w K mg base CX0 6 f fd ["self", "other"] (spBin K C (fun a b => a && !b)) := by
  refine F.ok scSubS (fun vs H Q E h => ?_) (fun cdv A outer s H vs Q E hr h => ?_)
  · obtain ⟨x, y, gs1, gs2, Hv, rfl, _⟩ := h
    rfl
  · obtain ⟨x, y, gs1, gs2, Hv, rfl, sv, ⟨dx, rc, pl, aW, aA, aR, aL, as, ak, ws, ar, lv, hx0, RC, PF, hW, hk⟩, ⟨dy, rc2, pl2, aW2, aA2, aR2, aL2, as2, ak2, ws2, ar2, lv2, hy0, RC2, _⟩, ne1, ne2, l1, l2, h8, q⟩ := h
    have hx := sv _ _ hx0
    have hy := sv _ _ hy0
    refine ⟨_, pss_one (ps_ret (pe_make (E := E0) M GI hr (by rfl) T.mgC bI .nil pass0 (pa_cons (pe_call GB (hr.mono (by decide)) (by rfl) gB kB bB .nil pass0 (pa_cons pe_str (pa_cons (pe_fld (pv 0) rfl) (pa_cons (pe_fld (pv 1) rfl) pa_nil)))) (pa_cons (pe_fld (pv 0) rfl) pa_nil)))), ?_⟩
    refine ⟨_, rfl, x, C, dx, _, _, rfl, hx, T.cl, T.nR, shF_rec rc pl, _, rfl, y, C, dy, _, _, rfl, hy, T.cl, T.nR, shF_rec rc2 pl2, Sg.minus, rc, rc2, as, as2, gs1, gs2, Hv, rfl, sv, RC, RC2, ne1, ne2, l1, l2, (fun j k => ⟨rfl, rfl, rfl, trivial⟩), fun H' rc' as' more j s RC' hask hml hj hp => ?_⟩
    refine ⟨_, rfl, x, C, dx, _, _, rfl, s _ _ hx, T.cl, T.nP, shF_plan rc pl, ?_⟩
    have al' := RC'.len
    have e1 : asksN (more ++ [Sg.minus (gs1.length - 1) j]) = asksN more := by
      rw [asksN_snoc]
      rfl
    have gl : (gs1 ++ (more ++ [Sg.minus (gs1.length - 1) j])).length ≤ gs1.length + gs2.length + 1 := by
      simp only [List.length_append, List.length_cons, List.length_nil]
      omega
    refine mk_shape (g0 := gs1) (gs := more ++ [Sg.minus (gs1.length - 1) j]) (ov_same sv s) (PF.up (ov_sub sv)) RC' (by omega) hk (by omega) (asksN_app _ _) fun H2 x' s2 nx sh => ?_
    refine q H2 x' _ (s.trans s2) (s.free nx) (sh.up (ov_step s s2)) (by simp) (by rw [asksN_app, e1]; omega) gl ?_
    rw [← List.append_assoc, lastP_snoc]
    have p1 : 0 < gs1.length := List.length_pos_iff.mpr ne1
    have ea : (predsOf [] (gs1 ++ more)).getD (gs1.length - 1) nv = lastP gs1 := preds_pre more gs1 (by omega)
    have eb : (predsOf [] (gs1 ++ more)).getD j nv = lastP gs2 := hp
    simp only [Sg.pred, ea, eb]
theorem scInvS : FnScope ["self"] ["self"] (defScope mShape_invert) := ⟨rfl, rfl, rfl, by decide +kernel, rfl, by decide +kernel, by decide +kernel⟩
theorem ok_invS {f fI fA : Addr} {fd dI dA : FuncData} (F : Fun K "__invert__" "Shape.__invert__" mShape_invert f fd) (T : Ek K mg C) (M : Mk K C fI) (GI : FnOk P w K mg base CX0 4 fI dI ["self", "recipe", "before"] (spInitS K C)) (bI : Binds K dI ["self", "recipe", "before"] [])
    (GA : FnOk P w K mg base CX0 1 fA dA ["sign", "recipe"] (spAbove K)) (gA : mg "step_above" = some (.ref fA)) (kA : PySem.W.keepIn K (.ref fA) = true) (bA : Binds K dA ["sign", "recipe"] []) : FnOk P w K mg base CX0 6 f fd ["self"] (spInv K C) := by
  refine F.ok scInvS (fun vs H Q E h => ?_) (fun cdv A outer s H vs Q E hr h => ?_)
  · obtain ⟨x, gs, Hv, rfl, _⟩ := h
    rfl
  · obtain ⟨x, gs, Hv, rfl, sv, ⟨dx, rc, pl, aW, aA, aR, aL, as, ak, ws, ar, lv, hx0, RC, PF, hW, hk⟩, hne, hl, h8, q⟩ := h
    have hx := sv _ _ hx0
    refine ⟨_, pss_one (ps_ret (pe_make (E := E0) M GI hr (by rfl) T.mgC bI .nil pass0 (pa_cons (pe_call GA (hr.mono (by decide)) (by rfl) gA kA bA .nil pass0 (pa_cons pe_str (pa_cons (pe_fld (pv 0) rfl) pa_nil))) (pa_cons (pe_fld (pv 0) rfl) pa_nil)))), ?_⟩
    have al := RC.len
    refine ⟨_, rfl, x, C, dx, _, _, rfl, hx, T.cl, T.nR, shF_rec rc pl, .outside (gs.length - 1), rc, as, gs, Hv, rfl, sv, RC, hne, rfl, rfl, trivial, by omega, fun H' rc' as' s RC' => ?_⟩
    refine ⟨_, rfl, x, C, dx, _, _, rfl, s _ _ hx, T.cl, T.nP, shF_plan rc pl, ?_⟩
    have al' := RC'.len
    rw [List.length_append, List.length_singleton] at al'
    exact mk_shape (g0 := gs) (gs := [.outside (gs.length - 1)]) (ov_same sv s) (PF.up (ov_sub sv)) RC' (by omega) hk (by show asksN gs + 0 ≤ 8; omega) (asksN_snoc gs _) fun H2 x' s2 nx sh => q H2 x' (s.trans s2) (s.free nx) (sh.up (ov_step s s2))
end
end TX
namespace TX
open PySem PySem.Spec PyProof.Rows L2
/-! ### _law_shape -/
mutual
theorem nest_same {p q : PyData → Bool} (h : ∀ d, valD d → bdD d → p d = q d) : ∀ d : PyData, valD d → bdD d → nestP p d = nestP q d
  | .none, v, b => h .none v b
  | .str x, v, b => h (.str x) v b
  | .list es, v, b => by
    simp only [nestP]
    rw [h (.list es) v b, nest_sames h es v b]
  | .bool _, v, _ => v.elim
  | .int _, v, _ => v.elim
  | .tuple _, v, _ => v.elim
  | .dict _, v, _ => v.elim
theorem nest_sames {p q : PyData → Bool} (h : ∀ d, valD d → bdD d → p d = q d) : ∀ ds : List PyData, valAll ds → bdAll ds → nestAll p ds = nestAll q ds
  | [], _, _ => rfl
  | d :: ds, v, b => by
    simp only [nestAll]
    rw [nest_same h d v.1 b.1, nest_sames h ds v.2 b.2]
end
theorem lists_same {p q : PyData → Bool} (h : ∀ d, valD d → bdD d → p d = q d) : ∀ d : PyData, valD d → bdD d → listsP p d = listsP q d := by
  intro d v b
  cases d with
  | list es =>
    simp only [listsP]
    rw [Bool.eq_iff_iff, List.all_eq_true, List.all_eq_true]
    exact ⟨fun z d hd => by rw [← h d (valIn v hd) (bd_mem b hd)]; exact z d hd, fun z d hd => by rw [h d (valIn v hd) (bd_mem b hd)]; exact z d hd⟩
  | _ => rfl
theorem ShNd.ne {gs : List Sg} {n : Nd} (h : ShNd gs n) : gs ≠ [] := by
  obtain ⟨g0, g, rfl, _⟩ := h
  simp
theorem ShNd.last {gs : List Sg} {n : Nd} (h : ShNd gs n) : ∀ d, valD d → bdD d → lastP gs d = n.has d := by
  obtain ⟨g0, g, rfl, hp⟩ := h
  rw [lastP_snoc]
  exact hp
theorem ShNd.of {gs : List Sg} {n : Nd} (hne : gs ≠ []) (h : ∀ d, valD d → bdD d → lastP gs d = n.has d) : ShNd gs n := by
  refine ⟨gs.dropLast, gs.getLast hne, (List.dropLast_concat_getLast hne).symm, ?_⟩
  rw [← lastP_snoc, List.dropLast_concat_getLast hne]
  exact h
theorem ShNd.lists {gs : List Sg} {n : Nd} (h : ShNd gs n) : ShNd (gs ++ [.lists (gs.length - 1)]) (.lists n) := ⟨gs, _, rfl, lists_same h.last⟩
theorem ShNd.nested {gs : List Sg} {n : Nd} (h : ShNd gs n) : ShNd (gs ++ [.nested (gs.length - 1)]) (.nested n) := ⟨gs, _, rfl, nest_same h.last⟩
theorem ShNd.outside {gs : List Sg} {n : Nd} (h : ShNd gs n) : ShNd (gs ++ [.outside (gs.length - 1)]) (.not_ n) := ⟨gs, _, rfl, fun d v b => by
  show (!(lastP gs d)) = !n.has d
  rw [h.last d v b]⟩
/-- the bag and the list of what is left may have changed -/
structure K2 (H G : Hp) (p l : Addr) (left : Nat) : Prop where
  k : ∀ b o, b ≠ p → b ≠ l → H b = some o → G b = some o
  b : BagAt G p
  f : G l = some (.lst [.int (left : Nat)])
section
variable {H Hv G G' G2 G3 : Hp} {p l : Addr} {n m : Nat}
theorem K2.there (h : K2 H G p l n) : ∀ b, H b ≠ none → G b ≠ none := fun b hb => by
  by_cases e1 : b = p
  · rw [e1]
    obtain ⟨x, y, e⟩ := h.b
    rw [e]
    exact fun z => nomatch z
  · by_cases e2 : b = l
    · rw [e2, h.f]
      exact fun z => nomatch z
    · cases e : H b with
      | none => exact absurd e hb
      | some o =>
        rw [h.k b o e1 e2 e]
        exact fun z => nomatch z
theorem K2.fresh {b : Addr} (h : K2 H G p l n) (e : G b = none) : H b = none := Classical.byContradiction fun z => h.there b z e
theorem K2.ne (h : K2 H G p l n) : p ≠ l := fun z => by
  obtain ⟨x, y, e⟩ := h.b
  rw [z, h.f] at e
  injection e with e
  injection e with e
  simp at e
theorem K2.draw (h : K2 H G p l n) (x y : Int) : K2 H (upd G p (.lst [.int x, .int y])) p l n :=
  ⟨fun b o h1 h2 e => by rw [upd_ne h1]; exact h.k b o h1 h2 e, ⟨_, _, upd_same⟩, by rw [upd_ne h.ne.symm]; exact h.f⟩
theorem K2.up (h : K2 H G p l n) (s : Same G G') : K2 H G' p l n := ⟨fun b o h1 h2 e => s _ _ (h.k b o h1 h2 e), TX.bag_same h.b s, s _ _ h.f⟩
theorem K2.kb (h : K2 H G p l n) (k : Kb G G' p) : K2 H G' p l n := ⟨fun b o h1 h2 e => k.k b o h1 (h.k b o h1 h2 e), k.b, k.k _ _ h.ne.symm h.f⟩
theorem K2.then_ (h : K2 H G p l n) (k : K2 G G' p l m) : K2 H G' p l m := ⟨fun b o h1 h2 e => k.k b o h1 h2 (h.k b o h1 h2 e), k.b, k.f⟩
/-- what is seen: new things, and the view -/
structure Vw (H Hv : Hp) (p l : Addr) : Prop where
  s : Same Hv H
  vp : Hv p = none
  vl : Hv l = none
  hp : H p ≠ none
  hl : H l ≠ none
theorem Vw.ovp (v : Vw H Hv p l) : ov H Hv G p = none := by
  cases e : H p with
  | none => exact absurd e v.hp
  | some o => rw [ov_old e, v.vp]
theorem Vw.ovl (v : Vw H Hv p l) : ov H Hv G l = none := by
  cases e : H l with
  | none => exact absurd e v.hl
  | some o => rw [ov_old e, v.vl]
theorem Vw.sub (v : Vw H Hv p l) (k : K2 H G p l n) : Same (ov H Hv G) G := fun b o e => by
  cases h : H b with
  | none =>
    rw [ov_new h] at e
    exact e
  | some u =>
    have z := e
    rw [ov_old h] at e
    refine k.k b o (fun w => ?_) (fun w => ?_) (v.s _ _ e)
    · rw [w, v.vp] at e
      cases e
    · rw [w, v.vl] at e
      cases e
theorem Vw.del (v : Vw H Hv p l) (k : K2 H G p l n) : Same (ov H Hv G) (L2.del G p) := fun b o e => by
  have bp : b ≠ p := fun z => by
    rw [z, v.ovp] at e
    cases e
  rw [del_ne bp]
  exact v.sub k _ _ e
/-- the view one step on -/
theorem Vw.next (v : Vw H Hv p l) (k : K2 H G p l n) : Vw G (ov H Hv G) p l := ⟨v.sub k, v.ovp, v.ovl, k.there _ v.hp, k.there _ v.hl⟩
theorem Vw.fr (v : Vw H Hv p l) (k : ∀ b o, b ≠ p → b ≠ l → G b = some o → G' b = some o) : Same (ov H Hv G) (ov H Hv G') := fun b o e => by
  cases h : H b with
  | none =>
    rw [ov_new h] at e ⊢
    exact k b o (fun z => v.hp (z ▸ h)) (fun z => v.hl (z ▸ h)) e
  | some u =>
    rw [ov_old h] at e ⊢
    exact e
theorem Vw.step (v : Vw H Hv p l) (k : K2 H G p l n) (k2 : ∀ b o, b ≠ p → b ≠ l → G b = some o → G' b = some o) : Same (ov G (ov H Hv G) G') (ov H Hv G') := fun b o e => by
  cases h : G b with
  | none =>
    rw [ov_new h] at e
    rw [ov_new (k.fresh h)]
    exact e
  | some u =>
    rw [ov_old h] at e
    exact v.fr k2 b o e
end
theorem ShAt.obj {K : PySem.W.Frag} {C : Addr} {W : Hp} {x : Addr} {gs : List Sg} (h : ShAt K W C x gs) : ∃ dx fs, W x = some (.ins C dx fs) := by
  obtain ⟨dx, rc, pl, aW, aA, aR, aL, as, ak, ws, ar, lv, hx, _⟩ := h
  exact ⟨dx, _, hx⟩
def ShapeQ (K : PySem.W.Frag) (C : Addr) (H Hv : Hp) (p l : Addr) (left deep : Nat) (Q : VK) : Prop := ∀ (G : Hp) (t x : Addr) (u : V) (gs : List Sg) (n : Nd) (left' : Nat), K2 H G p l left' → (ov H Hv G) t = some (.tup [.ref x, u]) → ShAt K (ov H Hv G) C x gs → Dp K (ov H Hv G) u n.dat → ShNd gs n → (n.deep ≤ deep ∧ Few gs n) → gs.length + 1 ≤ 2 ^ (deep + 1) → asksN gs + left' ≤ left → Q (.ref t) G
def spShape (K : PySem.W.Frag) (C : Addr) (N : Nat) : Sp := fun vs H Q _ => ∃ (p l : Addr) (Hv : Hp) (deep left : Nat), vs = [.ref p, .int (deep : Nat), .ref l] ∧ K2 H H p l left ∧ Vw H Hv p l ∧ deep ≤ N ∧ deep ≤ 5 ∧ left ≤ 6 ∧ ShapeQ K C H Hv p l left deep Q
structure Lh (P : Program) (w : World) (K : PySem.W.Frag) (mg : Str → Option Value) (base : Heap) (C : Addr) (mc : Value) (fT fL f1 f2 p1 p2 i1 i2 i3 i4 : Addr) (dT dL e1 e2 e3 e4 : FuncData) : Prop where
  GT : FnOk P w K mg base CX0 1 fT dT ["_law_bag_here", "_law_many"] spTake
  bT : Binds K dT ["_law_bag_here", "_law_many"] []
  gT : mg "_law_take" = some (.ref fT)
  kT : PySem.W.keepIn K (.ref fT) = true
  GL : FnOk P w K mg base CX0 7 fL dL ["_law_bag_here"] (spLeafS K C)
  bL : Binds K dL ["_law_bag_here"] []
  gL : mg "_law_leaf" = some (.ref fL)
  kL : PySem.W.keepIn K (.ref fL) = true
  r : ClX.CRead K C mc
  c1 : ClX.CMet K C mc "lists" p1 f1
  c2 : ClX.CMet K C mc "nested" p2 f2
  M1 : FnR P w K mg base CX0 6 f1 (spOver K C .lists)
  M2 : FnR P w K mg base CX0 6 f2 (spOver K C .nested)
  I1 : FnOk P w K mg base CX0 6 i1 e1 ["self"] (spInv K C)
  I2 : FnOk P w K mg base CX0 6 i2 e2 ["self", "other"] (spBin K C (fun a b => a || b))
  I3 : FnOk P w K mg base CX0 6 i3 e3 ["self", "other"] (spBin K C (fun a b => a && b))
  I4 : FnOk P w K mg base CX0 6 i4 e4 ["self", "other"] (spBin K C (fun a b => a && !b))
  m1 : Meth K C "__invert__" i1
  m2 : Meth K C "__or__" i2
  m3 : Meth K C "__and__" i3
  m4 : Meth K C "__sub__" i4
  d1 : Binds K e1 ["self"] []
  d2 : Binds K e2 ["self", "other"] []
  d3 : Binds K e3 ["self", "other"] []
  d4 : Binds K e4 ["self", "other"] []
  sf : PySem.W.selfFirst K C = true
section
variable {P : Program} {w : World} {K : PySem.W.Frag} {mg : Str → Option Value} {base : Heap} {C : Addr}
theorem scShape : FnScope ["_law_bag_here", "_law_deep", "_law_left", "_law_pick", "_law_one", "_law_node", "_law_two", "_law_beside"] ["_law_bag_here", "_law_deep", "_law_left"] (defScope s__law_shape) := ⟨rfl, rfl, rfl, by decide +kernel, rfl, by decide +kernel, by decide +kernel⟩
theorem ok_shape1 {f : Addr} {fd : FuncData} {mc : Value} {fT fL f1 f2 p1 p2 i1 i2 i3 i4 : Addr} {dT dL e1 e2 e3 e4 : FuncData} (F : Fun K "_law_shape" "_law_shape" s__law_shape f fd) (b : Binds K fd ["_law_bag_here", "_law_deep", "_law_left"] []) (g : mg "_law_shape" = some (.ref f)) (T : Ek K mg C) (L : Lh P w K mg base C mc fT fL f1 f2 p1 p2 i1 i2 i3 i4 dT dL e1 e2 e3 e4) (N : Nat)
    (G : ∀ j : { M : Nat // M + 1 = N }, FnOk P w K mg base CX0 (j.1 + 8) f fd ["_law_bag_here", "_law_deep", "_law_left"] (spShape K C j.1)) : FnOk P w K mg base CX0 (N + 8) f fd ["_law_bag_here", "_law_deep", "_law_left"] (spShape K C N) := by
  refine F.ok scShape (fun vs H Q E h => ?_) (fun cdv A outer s H vs Q E hr h => ?_)
  · obtain ⟨p, l, Hv, deep, left, rfl, _⟩ := h
    rfl
  · obtain ⟨p, l, Hv, deep, left, rfl, k0, vw, hN, h5, h6, q⟩ := h
    have hrR : ∀ j : { M : Nat // M + 1 = N }, Room (j.1 + 8) _ := fun j => hr.mono (by have := j.2; omega)
    have r1 : Room 1 _ := hr.mono (by omega)
    have r6 : Room 6 _ := hr.mono (by omega)
    have r7 : Room 7 _ := hr.mono (by omega)
    refine ⟨_, pss_cons (ps_set (i := 3) scShape.nd rfl (.inl rfl) (pe_call L.GT r1 (by rfl) L.gT L.kT L.bT .nil pass0 (pa_cons (pv 0) (pa_cons pe_int pa_nil)))) <|
      pss_cons (ps_if (PW.pt (pw_or (pt_cmpR op_eq (pv 1) pe_int (nomark _)) (pw_or1 (pt_cmpR op_lt (pv 3) pe_int (nomark _))))) (pss_one (ps_ret (pe_call L.GL r7 (by rfl) L.gL L.kL L.bL .nil pass0 (pa_cons (pv 0) pa_nil)))) pss_nil) <|
      C8.pss_cut (ps_if (PW.pt (pw_and (pt_cmpR op_lt (pv 3) pe_int (nomark _)) (pw_and1 (pt_cmpR op_gt (pe_ix ix_list (pv 2) pe_int (fun _ _ => rfl)) pe_int (nomark _)))))
        (pss_cons (ps_asg (pe_op op_sub (pe_ix ix_list (pv 2) pe_int (fun _ _ => rfl)) pe_int) (pg_sub (pv 2) pe_int set_list)) <|
         pss_cons (ps_asg (pe_ex fun j => pe_call (G j) (hrR j) (by rfl) g F.kp b .nil pass0 (pa_cons (pv 0) (pa_cons (pe_op op_sub (pv 1) pe_int) (pa_cons (pv 2) pa_nil)))) (pg_tup rfl (pgs_cons (pg_name (i := 4) scShape.nd rfl (.inl rfl)) (pgs_cons (pg_name (i := 5) scShape.nd rfl (.inl rfl)) pgs_nil)))) <|
         pss_one (ps_ret (pe_ifExp (pt_cmpR op_lt (pv 3) pe_int (nomark _)) (pe_tup (pa_cons (ClX.pe_cmeth (E := E0) (pe_glob (v := .ref C) (by rfl) T.mgC rfl) L.r L.c1 L.M1 r6 pass0 (pa_cons (pv 4) pa_nil)) (pa_cons (pe_tup (pa_cons pe_str (pa_cons (pv 5) pa_nil))) pa_nil))) (pe_tup (pa_cons (ClX.pe_cmeth (E := E0) (pe_glob (v := .ref C) (by rfl) T.mgC rfl) L.r L.c2 L.M2 r6 pass0 (pa_cons (pv 4) pa_nil)) (pa_cons (pe_tup (pa_cons pe_str (pa_cons (pv 5) pa_nil))) pa_nil)))))) pss_nil) <|
      pss_cons (ps_asg (pe_ex fun j => pe_call (G j) (hrR j) (by rfl) g F.kp b .nil pass0 (pa_cons (pv 0) (pa_cons (pe_op op_sub (pv 1) pe_int) (pa_cons (pv 2) pa_nil)))) (pg_tup rfl (pgs_cons (pg_name (i := 4) scShape.nd rfl (.inl rfl)) (pgs_cons (pg_name (i := 5) scShape.nd rfl (.inl rfl)) pgs_nil)))) <|
      pss_cons (ps_if (pt_cmpR op_lt (pv 3) pe_int (nomark _)) (pss_one (ps_ret (pe_tup (pa_cons (pe_un (un_inv_own (E := E0) L.m1 L.I1 r6 L.d1 pass0) (pv 4)) (pa_cons (pe_tup (pa_cons pe_str (pa_cons (pv 5) pa_nil))) pa_nil))))) pss_nil) <|
      pss_cons (ps_asg (pe_ex fun j => pe_call (G j) (hrR j) (by rfl) g F.kp b .nil pass0 (pa_cons (pv 0) (pa_cons (pe_op op_sub (pv 1) pe_int) (pa_cons (pv 2) pa_nil)))) (pg_tup rfl (pgs_cons (pg_name (i := 6) scShape.nd rfl (.inl rfl)) (pgs_cons (pg_name (i := 7) scShape.nd rfl (.inl rfl)) pgs_nil)))) <|
      pss_cons (ps_if (pt_cmpR op_lt (pv 3) pe_int (nomark _)) (pss_one (ps_ret (pe_tup (pa_cons (pe_op (op_own2 (E := E0) (nm := "__or__") rfl L.m2 L.sf L.I2 r6 L.d2 pass0) (pv 4) (pv 6)) (pa_cons (pe_tup (pa_cons pe_str (pa_cons (pv 5) (pa_cons (pv 7) pa_nil)))) pa_nil))))) pss_nil) <|
      pss_one (ps_ret (pe_ifExp (pt_cmpR op_lt (pv 3) pe_int (nomark _)) (pe_tup (pa_cons (pe_op (op_own2 (E := E0) (nm := "__and__") rfl L.m3 L.sf L.I3 r6 L.d3 pass0) (pv 4) (pv 6)) (pa_cons (pe_tup (pa_cons pe_str (pa_cons (pv 5) (pa_cons (pv 7) pa_nil)))) pa_nil))) (pe_tup (pa_cons (pe_op (op_own2 (E := E0) (nm := "__sub__") rfl L.m4 L.sf L.I4 r6 L.d4 pass0) (pv 4) (pv 6)) (pa_cons (pe_tup (pa_cons pe_str (pa_cons (pv 5) (pa_cons (pv 7) pa_nil)))) pa_nil))))), ?_⟩
    refine ⟨_, rfl, p, 12, rfl, k0.b, by decide, by decide, fun x1 y1 pk hpk0 hpk1 => ?_⟩
    have k1 := k0.draw x1 y1
    generalize upd H p (.lst [.int x1, .int y1]) = G1 at k1
    have two1 : ∀ d : Nat, 2 ≤ 2 ^ (d + 1) := fun d => Nat.le_trans (show 2 ≤ 2 ^ 1 by decide) (Nat.pow_le_pow_right (by decide) (by omega))
    have fin : ∀ {G3 G4 : Hp} {left' : Nat} {x' tn t : Addr} {gs' : List Sg} {n' : Nd} {es : List PyData} {us : List V}, K2 H G3 p l left' → Same G3 G4 → ShAt K (ov G3 (ov H Hv G3) G4) C x' gs' → n'.dat = .tuple es → DpAll K (ov H Hv G3) us es → ShNd gs' n' → (n'.deep ≤ deep ∧ Few gs' n') → gs'.length + 1 ≤ 2 ^ (deep + 1) → asksN gs' + left' ≤ left → G4 tn = none → (upd G4 tn (.tup us)) t = none →
        Q (.ref t) (upd (upd G4 tn (.tup us)) t (.tup [.ref x', .ref tn])) := by
      intro G3 G4 left' x' tn t gs' n' es us k3 s4 sh hdat hus heq hdp hlen hask ntn nt
      have s5 := same_upd (o := .tup us) ntn
      have s6 := same_upd (o := .tup [.ref x', .ref tn]) nt
      have k5 := (k3.up s4).up s5
      have S := vw.step k3 (G' := upd (upd G4 tn (.tup us)) t (.tup [.ref x', .ref tn])) (fun b o _ _ e => (s4.trans (s5.trans s6)) _ _ e)
      refine q _ t x' (.ref tn) gs' n' left' (k5.up s6) ?_ ((sh.up (ov_more (s5.trans s6))).up S) ?_ heq hdp hlen hask
      · rw [ov_new (k5.fresh nt), upd_same]
      · rw [hdat]
        refine .tup (SqT.of ?_) (dpAll_same (vw.fr fun b o _ _ e => (s4.trans (s5.trans s6)) _ _ e) _ _ hus)
        rw [ov_new ((k3.up s4).fresh ntn)]
        exact s6 _ _ upd_same
    have leafq : LeafQ K C G1 (ov H Hv G1) p Q := fun G t x u gs n kb ht sh hd heq h0 ha hl => by
      have S := vw.step k1 (G' := G) (fun b o h1 _ e => kb.k b o h1 e)
      refine q G t x u gs n left (k1.kb kb) (S _ _ ht) (sh.up S) (dp_same S _ _ hd) heq ⟨by have := h0.1; omega, h0.2⟩ ?_ (by omega)
      have := two1 deep
      omega
    refine ⟨_, rfl, rfl, _, rfl, ?_⟩
    by_cases hd0 : deep = 0
    · subst hd0
      exact eqT rfl (iteT ⟨_, rfl, p, ov H Hv G1, rfl, k1.b, vw.del k1, leafq⟩)
    refine eqF (by omega) ⟨_, rfl, _, _, rfl, rfl, _, rfl, ?_⟩
    by_cases hp2 : pk < 2
    · exact ltT hp2 ⟨_, rfl, p, ov H Hv G1, rfl, k1.b, vw.del k1, leafq⟩
    refine ltF hp2 ?_
    obtain ⟨D', rfl⟩ : ∃ D', deep = D' + 1 := ⟨deep - 1, by omega⟩
    obtain ⟨M', rfl⟩ : ∃ M', N = M' + 1 := ⟨N - 1, by omega⟩
    have ed : ((D' + 1 : Nat) : Int) - 1 = ((D' : Nat) : Int) := by omega
    have pw : (2 : Nat) ^ (D' + 1 + 1) = 2 ^ (D' + 1) * 2 := Nat.pow_succ _ _
    have pw5 : (2 : Nat) ^ (D' + 1) ≤ 2 ^ 5 := Nat.pow_le_pow_right (by decide) (by omega)
    have e32 : (2 : Nat) ^ 5 = 32 := by decide
    refine ⟨fun σ' G' => σ' = [some (.ref p), some (.int ((D' + 1 : Nat) : Int)), some (.ref l), some (.int pk), none, none, none, none] ∧ G' = G1, ?_, ?_⟩
    · refine ⟨_, rfl, _, _, rfl, rfl, _, rfl, ?_⟩
      by_cases hp6 : pk < 6
      · refine ltT hp6 ⟨_, rfl, l, _, 0, _, rfl, rfl, SqL.of k1.f, atI_nat (j := 0) rfl, _, _, rfl, rfl, _, rfl, ?_⟩
        by_cases hl : (0 : Int) < (left : Int)
        · refine ltT hl ?_
          obtain ⟨L', rfl⟩ : ∃ L', left = L' + 1 := ⟨left - 1, by omega⟩
          refine ⟨_, rfl, l, _, 0, _, rfl, rfl, SqL.of k1.f, atI_nat (j := 0) rfl, _, _, rfl, rfl, _, rfl, l, _, 0, 0, rfl, rfl, k1.f, rfl, ?_⟩
          have k2 : K2 H (upd G1 l (.lst [.int (L' : Nat)])) p l L' := ⟨fun b o h1 h2 e => by rw [upd_ne h2]; exact k1.k b o h1 h2 e, let ⟨x, y, e⟩ := k1.b; ⟨x, y, by rw [upd_ne k1.ne]; exact e⟩, upd_same⟩
          have el : (HO.lst (([V.int ((L' + 1 : Nat) : Int)] : List V).set 0 ((fun i j : Int => V.int (i - j)) ((L' + 1 : Nat) : Int) 1))) = .lst [.int (L' : Nat)] := by
            show HO.lst [V.int (((L' + 1 : Nat) : Int) - 1)] = _
            rw [show ((L' + 1 : Nat) : Int) - 1 = (L' : Int) by omega]
          rw [el]
          generalize upd G1 l (.lst [.int (L' : Nat)]) = G2 at k2
          refine ⟨⟨M', rfl⟩, _, rfl, _, rfl, _, _, rfl, rfl, _, rfl, p, l, ov H Hv G2, D', L', ?_, ⟨fun _ _ _ _ e => e, k2.b, k2.f⟩, vw.next k2, (by show D' ≤ M'; omega), by omega, by omega, fun G3 t x u gs n left' k3 ht sh hd heq hdp hlen hask => ?_⟩
          · show [V.ref p, V.int (((D' + 1 : Nat) : Int) - 1), V.ref l] ++ [] = _
            rw [ed]
            rfl
          have S := vw.step k2 k3.k
          have k3' := k2.then_ k3
          have sh' := sh.up S
          have hd' := dp_same S _ _ hd
          refine ⟨t, _, rfl, SqT.of (vw.sub k3' _ _ (S _ _ ht)), rfl, _, _, rfl, _, _, rfl, rfl, _, rfl, _, _, rfl, rfl, _, rfl, ?_⟩
          refine ite2 (fun _ => ?_) (fun _ => ?_)
          · refine ⟨rfl, _, rfl, x, gs, ov H Hv G3, rfl, vw.sub k3', sh', heq.ne, by omega, by omega, fun G4 x' s4 nx sh4 => ⟨_, rfl, (by show 2 ≤ sizeLine; decide), fun tn ntn => ⟨(by show 2 ≤ sizeLine; decide), fun t' nt => ?_⟩⟩⟩
            exact fin (n' := .lists n) k3' s4 sh4 rfl (.cons (.str _) (.cons hd' .nil)) heq.lists ⟨by have := hdp.1; simp only [Nd.deep]; omega, by have := hdp.2.1; rw [List.length_append]; simp only [Nd.many, List.length_singleton]; omega, by have := hdp.2.2; rw [asksN_snoc]; simp only [Nd.nests, Sg.askB]; omega⟩ (by rw [List.length_append, List.length_singleton, pw]; omega) (by rw [asksN_snoc]; show asksN gs + 1 + left' ≤ L' + 1; omega) ntn nt
          · refine ⟨rfl, _, rfl, x, gs, ov H Hv G3, rfl, vw.sub k3', sh', heq.ne, by omega, by omega, fun G4 x' s4 nx sh4 => ⟨_, rfl, (by show 2 ≤ sizeLine; decide), fun tn ntn => ⟨(by show 2 ≤ sizeLine; decide), fun t' nt => ?_⟩⟩⟩
            exact fin (n' := .nested n) k3' s4 sh4 rfl (.cons (.str _) (.cons hd' .nil)) heq.nested ⟨by have := hdp.1; simp only [Nd.deep]; omega, by have := hdp.2.1; rw [List.length_append]; simp only [Nd.many, List.length_singleton]; omega, by have := hdp.2.2; rw [asksN_snoc]; simp only [Nd.nests, Sg.askB]; omega⟩ (by rw [List.length_append, List.length_singleton, pw]; omega) (by rw [asksN_snoc]; show asksN gs + 1 + left' ≤ L' + 1; omega) ntn nt
        · exact ltF hl ⟨rfl, rfl⟩
      · exact ltF hp6 (iteF ⟨rfl, rfl⟩)
    rintro σ G1' ⟨rfl, rfl⟩
    refine ⟨⟨M', rfl⟩, _, rfl, _, rfl, _, _, rfl, rfl, _, rfl, p, l, ov H Hv G1', D', left, ?_, ⟨fun _ _ _ _ e => e, k1.b, k1.f⟩, vw.next k1, (by show D' ≤ M'; omega), by omega, by omega, fun G3 t x u gs n left' k3 ht sh hd heq hdp hlen hask => ?_⟩
    · show [V.ref p, V.int (((D' + 1 : Nat) : Int) - 1), V.ref l] ++ [] = _
      rw [ed]
      rfl
    have S := vw.step k1 k3.k
    have k3' := k1.then_ k3
    have sh' := sh.up S
    have hd' := dp_same S _ _ hd
    obtain ⟨dx, fs, hx⟩ := sh'.obj
    refine ⟨t, _, rfl, SqT.of (vw.sub k3' _ _ (S _ _ ht)), rfl, _, _, rfl, _, _, rfl, rfl, _, rfl, _, _, rfl, rfl, _, rfl, ?_⟩
    by_cases hp7 : pk < 7
    · refine ltT hp7 ⟨_, rfl, x, dx, fs, rfl, vw.sub k3' _ _ hx, x, gs, ov H Hv G3, rfl, vw.sub k3', sh', heq.ne, by omega, by omega, fun G4 x' s4 nx sh4 => ⟨_, rfl, (by show 2 ≤ sizeLine; decide), fun tn ntn => ⟨(by show 2 ≤ sizeLine; decide), fun t' nt => ?_⟩⟩⟩
      exact fin (n' := .not_ n) k3' s4 sh4 rfl (.cons (.str _) (.cons hd' .nil)) heq.outside ⟨by have := hdp.1; simp only [Nd.deep]; omega, by have := hdp.2.1; rw [List.length_append]; simp only [Nd.many, List.length_singleton]; omega, by have := hdp.2.2; rw [asksN_snoc]; simp only [Nd.nests, Sg.askB]; omega⟩ (by rw [List.length_append, List.length_singleton, pw]; omega) (by rw [asksN_snoc]; show asksN gs + 0 + left' ≤ left; omega) ntn nt
    refine ltF hp7 ⟨⟨M', rfl⟩, _, rfl, _, rfl, _, _, rfl, rfl, _, rfl, p, l, ov H Hv G3, D', left', ?_, ⟨fun _ _ _ _ e => e, k3'.b, k3'.f⟩, vw.next k3', (by show D' ≤ M'; omega), by omega, by omega, fun G5 t2 y u2 gs2 n2 left2 k5 ht2 sh2 hd2 heq2 hdp2 hlen2 hask2 => ?_⟩
    · show [V.ref p, V.int (((D' + 1 : Nat) : Int) - 1), V.ref l] ++ [] = _
      rw [ed]
      rfl
    have S2 := vw.step k3' k5.k
    have k5' := k3'.then_ k5
    have S3 : Same (ov H Hv G3) (ov H Hv G5) := vw.fr k5.k
    have shA := sh'.up S3
    have hdA := dp_same S3 _ _ hd'
    have shB := sh2.up S2
    have hdB := dp_same S2 _ _ hd2
    obtain ⟨dy, fs2, hy⟩ := shB.obj
    have hxA := S3 _ _ hx
    have hop : ∀ {gs' : List Sg} {op : Bool → Bool → Bool} {n' : Nd}, gs' ≠ [] → lastP gs' = (fun d => op (lastP gs d) (lastP gs2 d)) → (∀ d, n'.has d = op (n.has d) (n2.has d)) → ShNd gs' n' := fun hne hp hn => ShNd.of hne fun d v b => by
      rw [hp, hn d, ← heq.last d v b, ← heq2.last d v b]
    refine ⟨t2, _, rfl, SqT.of (vw.sub k5' _ _ (S2 _ _ ht2)), rfl, _, _, rfl, _, _, rfl, rfl, _, rfl, _, _, rfl, rfl, _, rfl, ?_⟩
    refine ite2 (fun _ => ?_) (fun _ => ⟨_, rfl, _, _, rfl, rfl, _, rfl, ite2 (fun _ => ?_) (fun _ => ?_)⟩)
    · refine ⟨_, rfl, _, rfl, x, y, dx, dy, fs, fs2, rfl, rfl, vw.sub k5' _ _ hxA, vw.sub k5' _ _ hy, x, y, gs, gs2, ov H Hv G5, rfl, vw.sub k5', shA, shB, heq.ne, heq2.ne, by omega, by omega, by omega, fun G6 x' gs' s6 nx sh6 hne hask6 hlen6 hp6 => ⟨_, rfl, _, rfl, (by show 3 ≤ sizeLine; decide), fun tn ntn => ⟨(by show 2 ≤ sizeLine; decide), fun t' nt => ?_⟩⟩⟩
      exact fin (n' := .or_ n n2) k5' s6 sh6 rfl (.cons (.str _) (.cons hdA (.cons hdB .nil))) (hop hne hp6 fun _ => rfl) ⟨by have := hdp.1; have := hdp2.1; simp only [Nd.deep]; omega, by have := hdp.2.1; have := hdp2.2.1; simp only [Nd.many]; omega, by have := hdp.2.2; have := hdp2.2.2; simp only [Nd.nests]; omega⟩ (by rw [pw]; omega) (by omega) ntn nt
    · refine ⟨_, rfl, _, rfl, x, y, dx, dy, fs, fs2, rfl, rfl, vw.sub k5' _ _ hxA, vw.sub k5' _ _ hy, x, y, gs, gs2, ov H Hv G5, rfl, vw.sub k5', shA, shB, heq.ne, heq2.ne, by omega, by omega, by omega, fun G6 x' gs' s6 nx sh6 hne hask6 hlen6 hp6 => ⟨_, rfl, _, rfl, (by show 3 ≤ sizeLine; decide), fun tn ntn => ⟨(by show 2 ≤ sizeLine; decide), fun t' nt => ?_⟩⟩⟩
      exact fin (n' := .and_ n n2) k5' s6 sh6 rfl (.cons (.str _) (.cons hdA (.cons hdB .nil))) (hop hne hp6 fun _ => rfl) ⟨by have := hdp.1; have := hdp2.1; simp only [Nd.deep]; omega, by have := hdp.2.1; have := hdp2.2.1; simp only [Nd.many]; omega, by have := hdp.2.2; have := hdp2.2.2; simp only [Nd.nests]; omega⟩ (by rw [pw]; omega) (by omega) ntn nt
    · refine ⟨_, rfl, _, rfl, x, y, dx, dy, fs, fs2, rfl, rfl, vw.sub k5' _ _ hxA, vw.sub k5' _ _ hy, x, y, gs, gs2, ov H Hv G5, rfl, vw.sub k5', shA, shB, heq.ne, heq2.ne, by omega, by omega, by omega, fun G6 x' gs' s6 nx sh6 hne hask6 hlen6 hp6 => ⟨_, rfl, _, rfl, (by show 3 ≤ sizeLine; decide), fun tn ntn => ⟨(by show 2 ≤ sizeLine; decide), fun t' nt => ?_⟩⟩⟩
      exact fin (n' := .less n n2) k5' s6 sh6 rfl (.cons (.str _) (.cons hdA (.cons hdB .nil))) (hop (op := fun a b => a && !b) hne hp6 fun _ => rfl) ⟨by have := hdp.1; have := hdp2.1; simp only [Nd.deep]; omega, by have := hdp.2.1; have := hdp2.2.1; simp only [Nd.many]; omega, by have := hdp.2.2; have := hdp2.2.2; simp only [Nd.nests]; omega⟩ (by rw [pw]; omega) (by omega) ntn nt
theorem ok_shape {f : Addr} {fd : FuncData} {mc : Value} {fT fL f1 f2 p1 p2 i1 i2 i3 i4 : Addr} {dT dL e1 e2 e3 e4 : FuncData} (F : Fun K "_law_shape" "_law_shape" s__law_shape f fd) (b : Binds K fd ["_law_bag_here", "_law_deep", "_law_left"] []) (g : mg "_law_shape" = some (.ref f)) (T : Ek K mg C) (L : Lh P w K mg base C mc fT fL f1 f2 p1 p2 i1 i2 i3 i4 dT dL e1 e2 e3 e4) :
    ∀ N : Nat, FnOk P w K mg base CX0 (N + 8) f fd ["_law_bag_here", "_law_deep", "_law_left"] (spShape K C N)
  | 0 => ok_shape1 F b g T L 0 fun j => absurd j.2 (Nat.succ_ne_zero _)
  | N + 1 => ok_shape1 F b g T L (N + 1) fun ⟨M', e⟩ => by
    cases Nat.succ.inj e
    exact ok_shape F b g T L N
end
end TX
namespace TX
open PySem PySem.Spec PyProof.Rows L2
/-! ### _law_all -/
mutual
theorem val_bd : ∀ d : PyData, valD d → sz d ≤ 80000 → bdD d
  | .none, _, _ => trivial
  | .str x, _, h => by
    simp only [sz] at h
    show x.length ≤ 90000
    omega
  | .list es, v, h => by
    simp only [sz] at h
    exact val_bds es v (by omega)
  | .bool _, v, _ => v.elim
  | .int _, v, _ => v.elim
  | .tuple _, v, _ => v.elim
  | .dict _, v, _ => v.elim
theorem val_bds : ∀ ds : List PyData, valAll ds → szAll ds ≤ 80000 → bdAll ds
  | [], _, _ => trivial
  | d :: ds, v, h => by
    simp only [szAll] at h
    exact ⟨val_bd d v.1 (by omega), val_bds ds v.2 (by omega)⟩
end
/-- a value that is drawn -/
structure Vk (d : PyData) : Prop where
  v : valD d
  s : sz d ≤ 500
  z : d.depth ≤ 20
theorem Vk.ask {d : PyData} (h : Vk d) : AskOk d := ⟨h.v, val_bd d h.v (Nat.le_trans h.s (by decide)), Nat.le_trans (nd_sz d h.v) (Nat.le_trans h.s (by decide))⟩
theorem Vk.sh {d : PyData} (h : Vk d) : Sh d := sh_val h.v (Nat.le_trans h.s (by decide)) (Nat.le_trans h.z (by decide))
theorem sz_mem {ds : List PyData} {d : PyData} (h : d ∈ ds) : sz d ≤ szAll ds := by
  induction ds with
  | nil => nomatch h
  | cons e es ih =>
    rcases List.mem_cons.mp h with rfl | h
    · simp only [szAll]
      omega
    · have := ih h
      simp only [szAll]
      omega
theorem Vk.mem {es : List PyData} {d : PyData} (h : Vk (.list es)) (hd : d ∈ es) : Vk d := by
  have h1 := h.s
  have h2 := h.z
  have h3 := sz_mem hd
  have h4 := dep_mem hd
  simp only [sz] at h1
  simp only [PyData.depth] at h2
  exact ⟨valIn h.v hd, by omega, by omega⟩
theorem DpAll.drop {K : PySem.W.Frag} {H : Hp} : ∀ {ds : List PyData} {vs : List V} (n : Nat), DpAll K H vs ds → DpAll K H (vs.drop n) (ds.drop n)
  | _, _, 0, h => h
  | _, _, _ + 1, .nil => .nil
  | _, _, n + 1, .cons _ h => DpAll.drop n h
theorem cut_to (xs : List V) (n : Nat) : cutV xs none (some (n : Int)) = xs.take n := by
  unfold cutV
  have e1 : HT.sIx xs.length 0 none = 0 := rfl
  rw [e1, HT.sIx_nat, Nat.sub_zero, List.drop_zero, ← List.take_eq_take_min]
/-- values at a list that was made since -/
structure La (K : PySem.W.Frag) (H W G : Hp) (L : Addr) (us : List V) (ds : List PyData) (m : Nat) : Prop where
  s : Same H G
  at_ : G L = some (.lst us)
  n : H L = none
  d : DpAll K (ov H W G) us ds
  k : ∀ d ∈ ds, Vk d
  len : us.length ≤ m
section
variable {K : PySem.W.Frag} {H W G G' : Hp} {L p : Addr} {us zs : List V} {ds es : List PyData} {m k : Nat}
theorem La.up (h : La K H W G L us ds m) (s : Same G G') : La K H W G' L us ds m := ⟨h.s.trans s, s _ _ h.at_, h.n, dpAll_same (ov_more s) _ _ h.d, h.k, h.len⟩
theorem fresh_old (s : Same H G) {b : Addr} (h : G b = none) : H b = none := by
  cases e : H b with
  | none => rfl
  | some o => rw [s _ _ e] at h; cases h
theorem La.cat (h : La K H W G L us ds m) (hz : DpAll K (ov H W G) zs es) (hk : ∀ d ∈ es, Vk d) (hl : zs.length ≤ k) (np : G p = none) : La K H W (upd G p (.lst (us ++ zs))) p (us ++ zs) (ds ++ es) (m + k) := by
  have s := same_upd (o := .lst (us ++ zs)) np
  refine ⟨h.s.trans s, upd_same, fresh_old h.s np, dpAll_same (ov_more s) _ _ (DpAll.append h.d hz), fun d hd => ?_, by have := h.len; rw [List.length_append]; omega⟩
  rcases List.mem_append.mp hd with hd | hd
  · exact h.k d hd
  · exact hk d hd
end
def spAll (K : PySem.W.Frag) : Sp := fun vs H Q _ => ∃ (v : V) (d : PyData) (W : Hp), vs = [v] ∧ Same W H ∧ Dp K W v d ∧ Vk d ∧ ∀ (G : Hp) (L : Addr) (us : List V) (ds : List PyData), La K H W G L us ds 44 → Q (.ref L) G
def litA : List PyData := [.none, .str "", .str "a", .str "ab", .str "abc", .str "abcd", .list [], .list [.none], .list [.str ""], .list [.str "a", .none], .list [.list [], .list [.str "ab"]]]
theorem litA_k : ∀ d ∈ litA, Vk d := by
  have la : ∀ {z : Str}, Lt z → z.length ≤ 400 → Vk (.str z) := fun h h2 => ⟨h, by simp only [sz]; omega, by simp [PyData.depth]⟩
  have l1 : Lt "" := by unfold Lt; decide +kernel
  have l2 : Lt "a" := by unfold Lt; decide +kernel
  have l3 : Lt "ab" := by unfold Lt; decide +kernel
  have l4 : Lt "abc" := by unfold Lt; decide +kernel
  have l5 : Lt "abcd" := by unfold Lt; decide +kernel
  have n1 : Str.length "" = 0 := by decide +kernel
  have n2 : Str.length "a" = 1 := by decide +kernel
  have n3 : Str.length "ab" = 2 := by decide +kernel
  intro d hd
  simp only [litA, List.mem_cons, List.not_mem_nil, or_false] at hd
  rcases hd with rfl | rfl | rfl | rfl | rfl | rfl | rfl | rfl | rfl | rfl | rfl
  · exact ⟨trivial, by simp [sz], by simp [PyData.depth]⟩
  · exact la l1 (by decide +kernel)
  · exact la l2 (by decide +kernel)
  · exact la l3 (by decide +kernel)
  · exact la l4 (by decide +kernel)
  · exact la l5 (by decide +kernel)
  · exact ⟨trivial, by simp [sz, szAll], by simp [PyData.depth, PyData.depthAll]⟩
  · exact ⟨⟨trivial, trivial⟩, by simp [sz, szAll], by simp [PyData.depth, PyData.depthAll]⟩
  · exact ⟨⟨l1, trivial⟩, by simp [sz, szAll, n1], by simp [PyData.depth, PyData.depthAll]⟩
  · exact ⟨⟨l2, trivial, trivial⟩, by simp [sz, szAll, n2], by simp [PyData.depth, PyData.depthAll]⟩
  · exact ⟨⟨trivial, ⟨l3, trivial⟩, trivial⟩, by simp [sz, szAll, n3], by simp [PyData.depth, PyData.depthAll]⟩
theorem lits {K : PySem.W.Frag} {H W G : Hp} {L : Addr} {us : List V} {ds : List PyData} {m : Nat} (h : La K H W G L us ds m) {e1 e2 e3 e4 e5 e6 e7 e8 : Addr} {B1 B2 B3 B4 B5 B6 B7 B8 : Hp}
    (n1 : G e1 = none) (h1 : B1 = upd G e1 (.lst [])) (n2 : B1 e2 = none) (h2 : B2 = upd B1 e2 (.lst [.non])) (n3 : B2 e3 = none) (h3 : B3 = upd B2 e3 (.lst [.str ""])) (n4 : B3 e4 = none) (h4 : B4 = upd B3 e4 (.lst [.str "a", .non]))
    (n5 : B4 e5 = none) (h5 : B5 = upd B4 e5 (.lst [])) (n6 : B5 e6 = none) (h6 : B6 = upd B5 e6 (.lst [.str "ab"])) (n7 : B6 e7 = none) (h7 : B7 = upd B6 e7 (.lst [.ref e5, .ref e6])) (n8 : B7 e8 = none) (h8 : B8 = upd B7 e8 (.lst [.non, .str "", .str "a", .str "ab", .str "abc", .str "abcd", .ref e1, .ref e2, .ref e3, .ref e4, .ref e7])) :
    La K H W B8 L us ds m ∧ B8 e8 = some (.lst [.non, .str "", .str "a", .str "ab", .str "abc", .str "abcd", .ref e1, .ref e2, .ref e3, .ref e4, .ref e7]) ∧ DpAll K (ov H W B8) [.non, .str "", .str "a", .str "ab", .str "abc", .str "abcd", .ref e1, .ref e2, .ref e3, .ref e4, .ref e7] litA := by
  have u : ∀ {X Y : Hp} {b : Addr} {o : HO}, X b = none → Y = upd X b o → Same X Y ∧ Y b = some o := fun hn e => by
    rw [e]
    exact ⟨same_upd hn, upd_same⟩
  obtain ⟨s1, a1⟩ := u n1 h1
  obtain ⟨s2, a2⟩ := u n2 h2
  obtain ⟨s3, a3⟩ := u n3 h3
  obtain ⟨s4, a4⟩ := u n4 h4
  obtain ⟨s5, a5⟩ := u n5 h5
  obtain ⟨s6, a6⟩ := u n6 h6
  obtain ⟨s7, a7⟩ := u n7 h7
  obtain ⟨s8, a8⟩ := u n8 h8
  have nw : ∀ {X : Hp} {b : Addr} {o : HO}, Same G X → X b = none → ∀ {Y : Hp}, Y b = some o → ov H W Y b = some o := fun s n Y e => by
    rw [ov_new (fresh_old (h.s.trans s) n)]
    exact e
  have g2 := s1
  have g3 := g2.trans s2
  have g4 := g3.trans s3
  have g5 := g4.trans s4
  have g6 := g5.trans s5
  have g7 := g6.trans s6
  have t7 := s8
  have t6 := s7.trans t7
  have t5 := s6.trans t6
  have t4 := s5.trans t5
  have t3 := s4.trans t4
  have t2 := s3.trans t3
  have t1 := s2.trans t2
  have f1 := nw (Same.refl _) n1 (t1 _ _ a1)
  have f2 := nw g2 n2 (t2 _ _ a2)
  have f3 := nw g3 n3 (t3 _ _ a3)
  have f4 := nw g4 n4 (t4 _ _ a4)
  have f5 := nw g5 n5 (t5 _ _ a5)
  have f6 := nw g6 n6 (t6 _ _ a6)
  have f7 := nw g7 n7 (t7 _ _ a7)
  exact ⟨h.up (s1.trans t1), a8, .cons .non (.cons (.str _) (.cons (.str _) (.cons (.str _) (.cons (.str _) (.cons (.str _) (.cons (.lst (SqL.of f1) .nil) (.cons (.lst (SqL.of f2) (.cons .non .nil)) (.cons (.lst (SqL.of f3) (.cons (.str _) .nil)) (.cons (.lst (SqL.of f4) (.cons (.str _) (.cons .non .nil))) (.cons (.lst (SqL.of f7) (.cons (.lst (SqL.of f5) .nil) (.cons (.lst (SqL.of f6) (.cons (.str _) .nil)) .nil))) .nil))))))))))⟩
end TX
namespace TX
open PySem PySem.Spec PyProof.Rows L2
/-! ### what the law asks again and again -/
def inT (K : PySem.W.Frag) (C : Addr) : R2 := fun y x H Q => ∃ p dx fs, x = .ref p ∧ H p = some (.ins C dx fs) ∧ spConS K C [.ref p, y] H (fun v H' => ∃ b, v = .bl b ∧ Q (.bl b) H') E0
section
variable {K : PySem.W.Frag} {C : Addr} {H Hv G G' W V0 : Hp} {p l D : Addr} {n lf j : Nat} {ws : List V} {ds : List PyData}
theorem newp_ov (k : K2 H G p l n) : Same (newp G G') (ov H Hv G') := fun b o e => by
  cases hg : G b with
  | some u =>
    rw [newp_old hg] at e
    cases e
  | none =>
    rw [newp_at hg] at e
    rw [ov_new (k.fresh hg)]
    exact e
/-- the list that is made of drawn values, at D -/
structure Dq (K : PySem.W.Frag) (H Hv G : Hp) (p l : Addr) (lf : Nat) (D : Addr) (ws : List V) (ds : List PyData) (j : Nat) : Prop where
  k2 : K2 H G p l lf
  at_ : G D = some (.lst ws)
  d : DpAll K (ov H Hv (L2.del G D)) ws ds
  k : ∀ d ∈ ds, Vk d
  len : ws.length = j
theorem del_some {G : Hp} {D b : Addr} {o : HO} (e : L2.del G D b = some o) : b ≠ D ∧ G b = some o := by
  have bD : b ≠ D := fun z => by
    rw [z, del_same] at e
    cases e
  rw [del_ne bD] at e
  exact ⟨bD, e⟩
theorem K2.set (k : K2 H G p l n) (nD : H D = none) (hp : H p ≠ none) (hl : H l ≠ none) (o : HO) : K2 H (upd G D o) p l n := by
  have dp : p ≠ D := fun z => hp (z ▸ nD)
  have dl : l ≠ D := fun z => hl (z ▸ nD)
  obtain ⟨x, y, e⟩ := k.b
  refine ⟨fun b o h1 h2 e => ?_, ⟨x, y, by rw [upd_ne dp]; exact e⟩, by rw [upd_ne dl]; exact k.f⟩
  rw [upd_ne (ne_of_none e nD)]
  exact k.k b o h1 h2 e
theorem Dq.more {v : V} {d : PyData} (h : Dq K H Hv G p l lf D ws ds j) (vw : Vw H Hv p l) (nD : H D = none) (kb : Kb G G' p) (hv : Dp K (newp G G') v d) (hk : Vk d) :
    G' D = some (.lst ws) ∧ Dq K H Hv (upd G' D (.lst (ws ++ [v]))) p l lf D (ws ++ [v]) (ds ++ [d]) (j + 1) := by
  have dp : D ≠ p := fun z => vw.hp (z ▸ nD)
  have s1 : Same (ov H Hv (L2.del G D)) (ov H Hv (L2.del (upd G' D (.lst (ws ++ [v]))) D)) := fun b o e => by
    cases hb : H b with
    | some u =>
      rw [ov_old hb] at e ⊢
      exact e
    | none =>
      rw [ov_new hb] at e ⊢
      obtain ⟨bD, e⟩ := del_some e
      rw [del_ne bD, upd_ne bD]
      exact kb.k b o (fun z => vw.hp (z ▸ hb)) e
  have s2 : Same (newp G G') (ov H Hv (L2.del (upd G' D (.lst (ws ++ [v]))) D)) := fun b o e => by
    cases hg : G b with
    | some u =>
      rw [newp_old hg] at e
      cases e
    | none =>
      rw [newp_at hg] at e
      have bD : b ≠ D := fun z => by
        rw [z, h.at_] at hg
        cases hg
      rw [ov_new (h.k2.fresh hg), del_ne bD, upd_ne bD]
      exact e
  refine ⟨kb.k D _ dp h.at_, (h.k2.kb kb).set nD vw.hp vw.hl _, upd_same, DpAll.append (dpAll_same s1 _ _ h.d) (.cons (dp_same s2 _ _ hv) .nil), fun e he => ?_, by rw [List.length_append, h.len]; rfl⟩
  rcases List.mem_append.mp he with z | z
  · exact h.k e z
  · rw [List.mem_singleton.mp z]
    exact hk
theorem ov_less : Same (ov H Hv (L2.del G D)) (ov H Hv G) := fun b o e => by
  cases hb : H b with
  | some u =>
    rw [ov_old hb] at e ⊢
    exact e
  | none =>
    rw [ov_new hb] at e ⊢
    exact (del_some e).2
theorem ov_back {G0 G1 G2 : Hp} (sW : Same W G0) (s : Same G0 G1) : Same (ov G1 W G2) (ov G0 W G2) := fun b o e => by
  cases h1 : G1 b with
  | none =>
    have h0 := fresh_old s h1
    rw [ov_new h1] at e
    rw [ov_new h0]
    exact e
  | some u =>
    rw [ov_old h1] at e
    rw [ov_old (sW _ _ e)]
    exact e
theorem sh_bools (bs : List Bool) (h : bs.length ≤ 100) : Sh (.list (bs.map PyData.bool)) := by
  have h1 : ∀ bs : List Bool, okAll (bs.map PyData.bool) ∧ PyData.bulkAll (bs.map PyData.bool) ≤ 2 * bs.length ∧ PyData.depthAll (bs.map PyData.bool) = 0 := by
    intro bs
    induction bs with
    | nil => exact ⟨trivial, by simp [PyData.bulkAll], rfl⟩
    | cons b bs ih =>
      refine ⟨⟨trivial, ih.1⟩, ?_, by simp only [List.map_cons, PyData.depthAll, PyData.depth, ih.2.2]; rfl⟩
      have := ih.2.1
      simp only [List.map_cons, PyData.bulkAll, PyData.bulk, List.length_cons]
      omega
  obtain ⟨a, b, c⟩ := h1 bs
  refine sh_of a ?_ ?_
  · simp only [PyData.bulk]
    omega
  · simp only [PyData.depth, c]
    omega
theorem bools_dp {K : PySem.W.Frag} {H : Hp} : ∀ bs : List Bool, DpAll K H (bs.map V.bl) (bs.map PyData.bool)
  | [] => .nil
  | b :: bs => .cons (.bl b) (bools_dp bs)
theorem bools_shaped (bs : List Bool) : SeqAt.shaped (.list (bs.map PyData.bool)) = true ∧ PyData.eqv (.list (bs.map PyData.bool)) (.list (bs.map PyData.bool)) = true := by
  have h1 : ∀ bs : List Bool, PyData.canLayAll0 (bs.map PyData.bool) = true ∧ PyData.depthAll (bs.map PyData.bool) = 0 := by
    intro bs
    induction bs with
    | nil => exact ⟨rfl, rfl⟩
    | cons b bs ih => exact ⟨by simp only [List.map_cons, PyData.canLayAll0, PyData.canLay0, ih.1, Bool.and_self], by simp only [List.map_cons, PyData.depthAll, PyData.depth, ih.2]; rfl⟩
  obtain ⟨a, b⟩ := h1 bs
  have cl : (PyData.list (bs.map PyData.bool)).canLay0 = true := by simp only [PyData.canLay0, a]
  refine ⟨?_, SeqAt.eqv_refl _ cl⟩
  unfold SeqAt.shaped
  rw [cl, Bool.true_and]
  exact decide_eq_true (by simp only [PyData.depth, b]; omega)
theorem neF {v : V} {A B : Prop} (b : B) : if (!decide (v = v)) = true then A else B := by
  rw [decide_eq_true rfl]
  exact iteF b
/-- what a shape answers -/
theorem con_at {x : Addr} {gs : List Sg} {nd : Nd} {v : V} {d : PyData} {Q : VK} (h : ShAt K W C x gs) (he : ShNd gs nd) (s : Same W G) (hd : Dp K W v d) (hb : bdD d) (hn : TX.nd d ≤ 50000)
    (q1 : valD d → ∀ G', Same G G' → Q (.bl (nd.has d)) G') (q2 : ¬ valD d → ∀ G', Same G G' → Q (.bl false) G') : inT K C v (.ref x) G Q := by
  obtain ⟨g0, g, rfl, hp⟩ := he
  have h1 := h
  obtain ⟨dx, rc, pl, aW, aA, aR, aL, as, ak, ws, ar, lv, hx, _⟩ := h
  refine ⟨x, dx, _, rfl, s _ _ hx, x, g0, g, v, d, W, rfl, h1, s, hd, hb, hn, fun vd G' sG => ?_, fun nv G' sG => ⟨_, rfl, q2 nv G' sG⟩⟩
  rw [hp d vd hb]
  exact ⟨_, rfl, q1 vd G' sG⟩
/-- one answer for each of the values -/
theorem lc_ans {te : TE} {b : PyData → Bool} {L D : Addr} {us : List V} {s0 s1 s2 s3 s4 s5 s6 s7 s9 s10 s11 s12 s13 s14 : Option V} {Qd : Hp → Prop} (hL : G L = some (.lst us)) (hd : DpAll K V0 us ds) (hk : ∀ d ∈ ds, Vk d) (hl : us.length ≤ 100) (nD : G D = none)
    (hte : ∀ (v : V) (d : PyData) (G' : Hp) (Q' : VK), Same G G' → Dp K V0 v d → Vk d → (∀ G'', Same G' G'' → Q' (.bl (b d)) G'') → te [s0, s1, s2, s3, s4, s5, s6, s7, some (.ref L), s9, s10, s11, s12, s13, some v] G' Q')
    (q : ∀ (G' : Hp), Same G G' → G' D = some (.lst ((ds.map b).map V.bl)) → Qd G') :
    ∃ W : Nat → Nat → Hp → Prop, (∃ m : Nat, W 0 m (upd G D (.lst []))) ∧ ∀ (i m : Nat) (H : Hp), W i m H → (Itl K L).stop i H ∧ Qd H ∨ (Itl K L).go i H ∧ ∃ Nx : Hp → Prop, (∀ H', Nx H' → ∃ m', m' < m ∧ W (i + 1) m' H') ∧ ∀ (x : V) (H' : Hp), (Itl K L).yld i H x H' →
      gName 14 x (wipe [s0, s1, s2, s3, s4, s5, s6, s7, some (.ref L), s9, s10, s11, s12, s13, s14] [14]) H' fun σ2 H2 => wipe σ2 [14] = wipe [s0, s1, s2, s3, s4, s5, s6, s7, some (.ref L), s9, s10, s11, s12, s13, s14] [14] ∧ tYes σ2 H2 fun b H3 => if b = true then te σ2 H3 fun y H4 => ∃ acc, H4 D = some (.lst acc) ∧ acc.length < sizeLine ∧ Nx (upd H4 D (.lst (acc ++ [y]))) else Nx H3 := by
  have lds : ds.length = us.length := (DpAll.length hd).symm
  refine lc_list (K := K) (a := L) (xs := us) (g := gName 14) (tt := tYes) (te := te) (vs := [14]) (σ := [s0, s1, s2, s3, s4, s5, s6, s7, some (.ref L), s9, s10, s11, s12, s13, s14]) (fun m G' => G' D = some (.lst (((ds.take m).map b).map V.bl)) ∧ Same G G') ⟨upd_same, same_upd nD⟩ (fun m G' hm ⟨_, sm⟩ => SqL.of (sm _ _ hL)) ?_ ?_
  · rintro m v G' hv ⟨hD, sm⟩
    obtain ⟨d, hdm, hvd⟩ := DpAll.at_ hd hv
    have kv := hk d (List.mem_of_getElem? hdm)
    have ml := (List.getElem?_eq_some_iff.mp hv).1
    refine ⟨rfl, hte v d G' _ sm hvd kv fun H1 s1 => ⟨_, s1 _ _ hD, ?_, ?_, same_fresh nD (sm.trans s1)⟩⟩
    · simp only [List.length_map, List.length_take]
      exact Nat.lt_of_le_of_lt (show min m ds.length ≤ 100 by omega) (by decide)
    · rw [upd_same, List.take_add_one, hdm]
      simp only [List.map_append, Option.toList_some, List.map_cons, List.map_nil]
  · rintro G' ⟨hD, sm⟩
    rw [← lds, List.take_length] at hD
    exact q G' sm hD
end
end TX
namespace TX
open PySem PySem.Spec PyProof.Rows L2
/-! ### the steps of recipes that are compared, too -/
inductive Sx where
  | every | never | nothing
  | texts (lo : Nat) (hi : Option Nat)
  | lists (k : Nat) | nested (k : Nat) | outside (k : Nat)
  | either (j k : Nat) | both (j k : Nat) | minus (j k : Nat) | differ (j k : Nat)
def Sx.of : Sg → Sx
  | .every => .every
  | .never => .never
  | .nothing => .nothing
  | .texts lo hi => .texts lo hi
  | .lists k => .lists k
  | .nested k => .nested k
  | .outside k => .outside k
  | .either j k => .either j k
  | .both j k => .both j k
  | .minus j k => .minus j k
def Sx.sign : Sx → Str
  | .every => "every"
  | .never => "never"
  | .nothing => "nothing"
  | .texts _ _ => "texts"
  | .lists _ => "lists"
  | .nested _ => "nested"
  | .outside _ => "outside"
  | .either _ _ => "either"
  | .both _ _ => "both"
  | .minus _ _ => "minus"
  | .differ _ _ => "differ"
def Sx.parts : Sx → List Nat
  | .lists k => [k]
  | .nested k => [k]
  | .outside k => [k]
  | .either j k => [j, k]
  | .both j k => [j, k]
  | .minus j k => [j, k]
  | .differ j k => [j, k]
  | _ => []
def Sx.nums : Sx → List V
  | .texts lo hi => [.int (lo : Nat), hiV hi]
  | _ => []
def Sx.pred (ps : List (PyData → Bool)) : Sx → PyData → Bool
  | .every => fun _ => true
  | .never => fun _ => false
  | .nothing => noneP
  | .texts lo hi => textP lo hi
  | .lists k => listsP (ps.getD k nv)
  | .nested k => nestP (ps.getD k nv)
  | .outside k => fun d => !(ps.getD k nv d)
  | .either j k => fun d => ps.getD j nv d || ps.getD k nv d
  | .both j k => fun d => ps.getD j nv d && ps.getD k nv d
  | .minus j k => fun d => ps.getD j nv d && !ps.getD k nv d
  | .differ j k => fun d => ps.getD j nv d != ps.getD k nv d
def predsX : List (PyData → Bool) → List Sx → List (PyData → Bool)
  | ps, [] => ps
  | ps, g :: gs => predsX (ps ++ [g.pred ps]) gs
theorem Sx.of_sign (g : Sg) : (Sx.of g).sign = g.sign := by cases g <;> rfl
theorem Sx.of_parts (g : Sg) : (Sx.of g).parts = g.parts := by cases g <;> rfl
theorem Sx.of_nums (g : Sg) : (Sx.of g).nums = g.nums := by cases g <;> rfl
theorem Sx.of_pred (ps : List (PyData → Bool)) (g : Sg) : (Sx.of g).pred ps = g.pred ps := by cases g <;> rfl
theorem predsX_of : ∀ (gs : List Sg) (ps : List (PyData → Bool)), predsX ps (gs.map Sx.of) = predsOf ps gs
  | [], _ => rfl
  | g :: gs, ps => by
    simp only [List.map_cons, predsX, predsOf, Sx.of_pred]
    exact predsX_of gs _
theorem predsX_len : ∀ (gs : List Sx) (ps : List (PyData → Bool)), (predsX ps gs).length = ps.length + gs.length
  | [], ps => by simp [predsX]
  | h :: gs, ps => by
    simp only [predsX, List.length_cons]
    rw [predsX_len gs, List.length_append, List.length_singleton]
    omega
/-- the step at a -/
def StepX (K : PySem.W.Frag) (H : Hp) (a : Addr) (g : Sx) : Prop := ∃ p q, SqT K H a [.str g.sign, .ref p, .ref q] ∧ SqT K H p (g.parts.map fun (n : Nat) => V.int n) ∧ SqT K H q g.nums
theorem StepX.up {K : PySem.W.Frag} {H G : Hp} {a : Addr} {g : Sx} (h : StepX K H a g) (s : Same H G) : StepX K G a g := by
  obtain ⟨p, q, h1, h2, h3⟩ := h
  exact ⟨p, q, same_sqt s h1, same_sqt s h2, same_sqt s h3⟩
theorem StepAt.x {K : PySem.W.Frag} {H : Hp} {a : Addr} {g : Sg} (h : StepAt K H a g) : StepX K H a (Sx.of g) := by
  obtain ⟨p, q, h1, h2, h3⟩ := h
  exact ⟨p, q, by rw [Sx.of_sign]; exact h1, by rw [Sx.of_parts]; exact h2, by rw [Sx.of_nums]; exact h3⟩
def Sx.few : Sx → Prop
  | .texts lo hi => lo ≤ 3 ∧ ∀ h, hi = some h → h ≤ 3
  | _ => True
structure RecX (K : PySem.W.Frag) (H : Hp) (rc : Addr) (as : List Addr) (gs : List Sx) : Prop where
  at_ : SqT K H rc (as.map V.ref)
  len : as.length = gs.length
  step : ∀ (i : Nat) (g : Sx) (a : Addr), gs[i]? = some g → as[i]? = some a → StepX K H a g
  few : ∀ g ∈ gs, g.few
  part : ∀ (i : Nat) (g : Sx), gs[i]? = some g → ∀ k ∈ g.parts, k < i
theorem RecX.up {K : PySem.W.Frag} {H G : Hp} {rc : Addr} {as : List Addr} {gs : List Sx} (h : RecX K H rc as gs) (s : Same H G) : RecX K G rc as gs :=
  ⟨same_sqt s h.at_, h.len, fun i g a e1 e2 => (h.step i g a e1 e2).up s, h.few, h.part⟩
theorem Recipe.x {K : PySem.W.Frag} {H : Hp} {rc : Addr} {as : List Addr} {gs : List Sg} (h : Recipe K H rc as gs) : RecX K H rc as (gs.map Sx.of) := by
  have at_ : ∀ (i : Nat) (g : Sx), (gs.map Sx.of)[i]? = some g → ∃ g0, gs[i]? = some g0 ∧ g = Sx.of g0 := fun i g e => by
    rw [List.getElem?_map] at e
    cases z : gs[i]? with
    | none => rw [z] at e; cases e
    | some g0 =>
      rw [z] at e
      exact ⟨g0, rfl, (Option.some.inj e).symm⟩
  refine ⟨h.at_, by rw [List.length_map, h.len], fun i g a e1 e2 => ?_, fun g hg => ?_, fun i g e => ?_⟩
  · obtain ⟨g0, e0, rfl⟩ := at_ i g e1
    exact (h.step i g0 a e0 e2).x
  · obtain ⟨g0, h0, rfl⟩ := List.mem_map.mp hg
    have := h.few g0 h0
    cases g0 <;> exact this
  · obtain ⟨g0, e0, rfl⟩ := at_ i g e
    rw [Sx.of_parts]
    exact h.part i g0 e0
end TX
namespace TX
open PySem PySem.Spec PyProof.Rows L2
/-! ### what steps say of looks -/
inductive Lk where
  | non | txt (n : Nat) | lst (sh : List Nat)
deriving DecidableEq
/-- the values of the k-th step -/
def predAt (gs : List Sx) (k : Nat) : PyData → Bool := (predsX [] gs).getD k nv
/-- the look of a value, where the steps ak are asked of items and texts of up to lim letters are told apart -/
def lkOf (gs : List Sx) (ak : List Nat) (lim : Nat) : PyData → Lk
  | .str x => .txt (min x.length (lim + 1))
  | .list es => .lst (ak.filter fun k => es.all (predAt gs k))
  | _ => .non
def Sx.inLk (g : Sx) (n : Nat) (told : Nat → Bool) (lk : Lk) : Bool :=
  match g with
  | .every => true
  | .never => false
  | .nothing => decide (lk = .non)
  | .texts lo hi => match lk with
    | .txt m => decide (lo ≤ m) && (match hi with | none => true | some h => decide (m ≤ h))
    | _ => false
  | .lists k => match lk with
    | .lst sh => sh.contains k
    | _ => false
  | .nested k => told k || match lk with
    | .lst sh => sh.contains n
    | _ => false
  | .outside k => !told k
  | .either j k => told j || told k
  | .both j k => told j && told k
  | .minus j k => told j && !told k
  | .differ j k => told j != told k
def answersL (lk : Lk) : List Bool → List Sx → List Bool
  | acc, [] => acc
  | acc, g :: gs => answersL lk (acc ++ [g.inLk acc.length (fun k => acc.getD k false) lk]) gs
theorem answersL_len (lk : Lk) : ∀ (gs : List Sx) (acc : List Bool), (answersL lk acc gs).length = acc.length + gs.length
  | [], acc => rfl
  | g :: gs, acc => by
    simp only [answersL, answersL_len lk gs, List.length_append, List.length_cons, List.length_nil]
    omega
theorem predAt_at {g0 : List Sx} {g : Sx} {rest : List Sx} : predAt (g0 ++ g :: rest) g0.length = g.pred (predsX [] g0) := by
  have pre : ∀ (rest : List Sx) (qs : List (PyData → Bool)), ∃ t, predsX qs rest = qs ++ t := by
    intro rest
    induction rest with
    | nil => exact fun qs => ⟨[], by simp [predsX]⟩
    | cons g rest ih =>
      intro qs
      obtain ⟨t, e⟩ := ih (qs ++ [g.pred qs])
      exact ⟨[g.pred qs] ++ t, by simp only [predsX, e, List.append_assoc]⟩
  have spl : ∀ (a b : List Sx) (qs : List (PyData → Bool)), predsX qs (a ++ b) = predsX (predsX qs a) b := by
    intro a
    induction a with
    | nil => exact fun b qs => rfl
    | cons g a ih => exact fun b qs => by simp only [List.cons_append, predsX, ih]
  unfold predAt
  rw [spl]
  obtain ⟨t, e⟩ := pre rest (predsX [] g0 ++ [g.pred (predsX [] g0)])
  simp only [predsX, e]
  have hl : (predsX [] g0).length = g0.length := by
    have := predsX_len g0 []
    simpa using this
  rw [List.getD_eq_getElem?_getD, List.append_assoc, List.getElem?_append_right (by omega), hl, Nat.sub_self]
  rfl
theorem predAt_old {g0 rest : List Sx} {k : Nat} (h : k < g0.length) : predAt (g0 ++ rest) k = (predsX [] g0).getD k nv := by
  have pre : ∀ (rest : List Sx) (qs : List (PyData → Bool)), ∃ t, predsX qs rest = qs ++ t := by
    intro rest
    induction rest with
    | nil => exact fun qs => ⟨[], by simp [predsX]⟩
    | cons g rest ih =>
      intro qs
      obtain ⟨t, e⟩ := ih (qs ++ [g.pred qs])
      exact ⟨[g.pred qs] ++ t, by simp only [predsX, e, List.append_assoc]⟩
  have spl : ∀ (a b : List Sx) (qs : List (PyData → Bool)), predsX qs (a ++ b) = predsX (predsX qs a) b := by
    intro a
    induction a with
    | nil => exact fun b qs => rfl
    | cons g a ih => exact fun b qs => by simp only [List.cons_append, predsX, ih]
  unfold predAt
  rw [spl]
  obtain ⟨t, e⟩ := pre rest (predsX [] g0)
  rw [e, List.getD_eq_getElem?_getD, List.getD_eq_getElem?_getD, List.getElem?_append_left (by rw [predsX_len]; simpa using h)]
/-- what a recipe's steps ask -/
structure Asks (gs : List Sx) (ak : List Nat) (lim : Nat) : Prop where
  list : ∀ (i k : Nat), gs[i]? = some (.lists k) → k ∈ ak
  nest : ∀ (i k : Nat), gs[i]? = some (.nested k) → i ∈ ak
  text : ∀ (i lo : Nat) (hi : Option Nat), gs[i]? = some (.texts lo hi) → lo ≤ lim ∧ ∀ h, hi = some h → h ≤ lim
  part : ∀ (i : Nat) (g : Sx), gs[i]? = some g → ∀ k ∈ g.parts, k < i
/-- one step: what it says of the look of a value is what it says of the value -/
theorem inLk_ok {g0 rest : List Sx} {g : Sx} {ak : List Nat} {lim : Nat} (A : Asks (g0 ++ g :: rest) ak lim) {told : Nat → Bool} {d : PyData} (hd : valD d) (ht : ∀ k, k < g0.length → told k = predAt (g0 ++ g :: rest) k d) :
    g.inLk g0.length told (lkOf (g0 ++ g :: rest) ak lim d) = predAt (g0 ++ g :: rest) g0.length d := by
  have at_ : (g0 ++ g :: rest)[g0.length]? = some g := by simp
  have hp := A.part _ _ at_
  have old : ∀ k, k ∈ g.parts → (predsX [] g0).getD k nv d = told k := fun k hk => by rw [ht k (hp k hk), predAt_old (hp k hk)]
  have oldf : ∀ k, k ∈ g.parts → (predsX [] g0).getD k nv = predAt (g0 ++ g :: rest) k := fun k hk => (predAt_old (hp k hk)).symm
  rw [predAt_at]
  cases g with
  | every => rfl
  | never => rfl
  | nothing =>
    cases d with
    | none => rfl
    | str x => rfl
    | list es => rfl
    | _ => exact hd.elim
  | texts lo hi =>
    obtain ⟨h1, h2⟩ := A.text _ _ _ at_
    cases d with
    | none => rfl
    | list es => rfl
    | str x =>
      have e1 : decide (lo ≤ min x.length (lim + 1)) = decide (lo ≤ x.length) := by
        congr 1
        apply propext
        omega
      cases hi with
      | none => simp only [Sx.inLk, lkOf, Sx.pred, textP, e1]
      | some h =>
        have := h2 h rfl
        have e2 : decide (min x.length (lim + 1) ≤ h) = decide (x.length ≤ h) := by
          congr 1
          apply propext
          omega
        simp only [Sx.inLk, lkOf, Sx.pred, textP, e1, e2]
    | _ => exact hd.elim
  | lists k =>
    have ka := A.list _ _ at_
    have e := oldf k (by simp [Sx.parts])
    cases d with
    | none => rfl
    | str x => rfl
    | list es =>
      simp only [Sx.inLk, lkOf, Sx.pred, listsP, e]
      rw [Bool.eq_iff_iff]
      simp [ka]
    | _ => exact hd.elim
  | nested k =>
    have na := A.nest _ _ at_
    have e := oldf k (by simp [Sx.parts])
    have t := old k (by simp [Sx.parts])
    have self : predAt (g0 ++ .nested k :: rest) g0.length = nestP ((predsX [] g0).getD k nv) := by
      rw [predAt_at]
      rfl
    cases d with
    | none => simp only [Sx.inLk, lkOf, Sx.pred, nestP, Bool.or_false, t]
    | str x => simp only [Sx.inLk, lkOf, Sx.pred, nestP, Bool.or_false, t]
    | list es =>
      simp only [Sx.inLk, lkOf, Sx.pred, nestP, t, nestAll_all]
      congr 1
      rw [Bool.eq_iff_iff, ← self]
      simp [na]
    | _ => exact hd.elim
  | outside k => simp only [Sx.inLk, Sx.pred, old k (by simp [Sx.parts])]
  | either j k => simp only [Sx.inLk, Sx.pred, old k (by simp [Sx.parts]), old j (by simp [Sx.parts])]
  | both j k => simp only [Sx.inLk, Sx.pred, old k (by simp [Sx.parts]), old j (by simp [Sx.parts])]
  | minus j k => simp only [Sx.inLk, Sx.pred, old k (by simp [Sx.parts]), old j (by simp [Sx.parts])]
  | differ j k => simp only [Sx.inLk, Sx.pred, old k (by simp [Sx.parts]), old j (by simp [Sx.parts])]
end TX
namespace TX
open PySem PySem.Spec PyProof.Rows L2
/-! ### rows of looks: each has a value, and a least one -/
theorem answersL_ok {gs : List Sx} {ak : List Nat} {lim : Nat} (A : Asks gs ak lim) {d : PyData} (hd : valD d) : ∀ (rest g0 : List Sx) (acc : List Bool), gs = g0 ++ rest → acc.length = g0.length → (∀ k, k < g0.length → acc.getD k false = predAt gs k d) →
    ∀ k, k < gs.length → (answersL (lkOf gs ak lim d) acc rest).getD k false = predAt gs k d
  | [], g0, acc, e, hl, h => by
    intro k hk
    rw [e, List.append_nil] at hk
    exact h k hk
  | g :: rest, g0, acc, e, hl, h => by
    have A' := A
    rw [e] at A'
    have z := inLk_ok A' (told := fun k => acc.getD k false) hd (fun k hk => by rw [h k hk, e])
    rw [← e, ← hl] at z
    refine answersL_ok A hd rest (g0 ++ [g]) _ (by rw [e, List.append_assoc]; rfl) (by simp [hl]) fun k hk => ?_
    rw [List.length_append, List.length_singleton] at hk
    by_cases hk2 : k < acc.length
    · rw [List.getD_eq_getElem?_getD, List.getElem?_append_left hk2, ← List.getD_eq_getElem?_getD]
      exact h k (by omega)
    · have ek : k = acc.length := by omega
      rw [ek, List.getD_eq_getElem?_getD, List.getElem?_append_right (Nat.le_refl _), Nat.sub_self]
      exact z
abbrev LRow := Lk × Nat × PyData
/-- every row is true of its value -/
def Sound (gs : List Sx) (ak : List Nat) (lim : Nat) (rows : List LRow) : Prop := ∀ r ∈ rows, valD r.2.2 ∧ sz r.2.2 = r.2.1 ∧ lkOf gs ak lim r.2.2 = r.1
def hasRow (rows : List LRow) (lk : Lk) (s : Nat) : Prop := ∃ r ∈ rows, r.1 = lk ∧ r.2.1 ≤ s
def Based (ak : List Nat) (lim : Nat) (rows : List LRow) : Prop := hasRow rows .non 1 ∧ (∀ m, m ≤ lim + 1 → hasRow rows (.txt m) (1 + m)) ∧ hasRow rows (.lst ak) 1
def Closed (gs : List Sx) (rows : List LRow) : Prop := ∀ r ∈ rows, ∀ sh, r.1 = .lst sh → ∀ q ∈ rows, hasRow rows (.lst (sh.filter fun k => predAt gs k q.2.2)) (r.2.1 + q.2.1)
theorem look_push {gs : List Sx} {ak : List Nat} {lim : Nat} {es : List PyData} {d : PyData} : lkOf gs ak lim (.list (es ++ [d])) = .lst ((ak.filter fun k => es.all (predAt gs k)).filter fun k => predAt gs k d) := by
  simp only [lkOf, List.filter_filter, List.all_append, List.all_cons, List.all_nil, Bool.and_true]
  congr 2
  funext k
  exact Bool.and_comm _ _
theorem szAll_push : ∀ (es : List PyData) (d : PyData), szAll (es ++ [d]) = szAll es + sz d
  | [], d => by simp [szAll]
  | e :: es, d => by
    simp only [List.cons_append, szAll, szAll_push es d]
    omega
theorem valAll_push : ∀ (es : List PyData) (d : PyData), valAll (es ++ [d]) ↔ valAll es ∧ valD d
  | [], d => by simp [valAll]
  | e :: es, d => by
    simp only [List.cons_append, valAll, valAll_push es d, and_assoc]
/-- values with one look are in the same steps -/
theorem same_look {gs : List Sx} {ak : List Nat} {lim : Nat} (A : Asks gs ak lim) {d e : PyData} (hd : valD d) (he : valD e) (h : lkOf gs ak lim d = lkOf gs ak lim e) {k : Nat} (hk : k < gs.length) : predAt gs k d = predAt gs k e := by
  have z1 := answersL_ok A hd gs [] [] rfl rfl (fun k hk => nomatch hk) k hk
  have z2 := answersL_ok A he gs [] [] rfl rfl (fun k hk => nomatch hk) k hk
  rw [← z1, ← z2, h]
section
variable {gs : List Sx} {ak : List Nat} {lim : Nat} {rows : List LRow}
mutual
theorem least_ok (A : Asks gs ak lim) (hak : ∀ k ∈ ak, k < gs.length) (hs : Sound gs ak lim rows) (hb : Based ak lim rows) (hc : Closed gs rows) : ∀ d : PyData, valD d → hasRow rows (lkOf gs ak lim d) (sz d)
  | .none, _ => hb.1
  | .str x, _ => by
    obtain ⟨r, hr, e, hl⟩ := hb.2.1 (min x.length (lim + 1)) (by omega)
    refine ⟨r, hr, e, ?_⟩
    simp only [sz]
    omega
  | .list es, v => by
    have := least_oks A hak hs hb hc es v [] trivial (by
      obtain ⟨r, hr, e, hl⟩ := hb.2.2
      refine ⟨r, hr, ?_, ?_⟩
      · rw [e]
        exact congrArg Lk.lst (List.filter_eq_self.mpr fun _ _ => rfl).symm
      · simp only [sz, szAll]
        omega)
    simpa using this
  | .bool _, v => v.elim
  | .int _, v => v.elim
  | .tuple _, v => v.elim
  | .dict _, v => v.elim
theorem least_oks (A : Asks gs ak lim) (hak : ∀ k ∈ ak, k < gs.length) (hs : Sound gs ak lim rows) (hb : Based ak lim rows) (hc : Closed gs rows) : ∀ (es : List PyData), valAll es → ∀ (pre : List PyData), valAll pre → hasRow rows (lkOf gs ak lim (.list pre)) (sz (.list pre)) → hasRow rows (lkOf gs ak lim (.list (pre ++ es))) (sz (.list (pre ++ es)))
  | [], _, pre, _, h => by
    rw [List.append_nil]
    exact h
  | d :: es, v, pre, vp, h => by
    obtain ⟨q, hq, eq, lq⟩ := least_ok A hak hs hb hc d v.1
    obtain ⟨r, hr, er, lr⟩ := h
    obtain ⟨vq, sq, kq⟩ := hs q hq
    obtain ⟨t, ht, et, lt⟩ := hc r hr _ er q hq
    have st : hasRow rows (lkOf gs ak lim (.list (pre ++ [d]))) (sz (.list (pre ++ [d]))) := by
      refine ⟨t, ht, ?_, ?_⟩
      · rw [et, look_push]
        congr 1
        refine List.filter_congr fun k hk => ?_
        have hk2 : k ∈ ak := (List.mem_filter.mp hk).1
        exact same_look A vq v.1 (by rw [kq, eq]) (hak k hk2)
      · simp only [sz, szAll_push] at lr ⊢
        omega
    have := least_oks A hak hs hb hc es v.2 (pre ++ [d]) ((valAll_push pre d).mpr ⟨vp, v.1⟩) st
    rw [List.append_assoc] at this
    exact this
end
end
end TX
namespace TX
open PySem PySem.Spec PyProof.Rows L2
/-! ### a row put down: what stays, and what falls -/
def putL (rows : List LRow) (lk : Lk) (s : Nat) (v : PyData) : List LRow := if rows.any (fun r => decide (r.1 = lk)) then rows.map (fun r => if r.1 = lk then (lk, s, v) else r) else rows ++ [(lk, s, v)]
section
variable {gs : List Sx} {ak : List Nat} {lim : Nat} {rows : List LRow} {lk : Lk} {s : Nat} {v : PyData}
theorem putL_mem {r : LRow} (h : r ∈ putL rows lk s v) : r = (lk, s, v) ∨ r ∈ rows := by
  unfold putL at h
  split at h
  · obtain ⟨q, hq, e⟩ := List.mem_map.mp h
    by_cases k : q.1 = lk
    · rw [if_pos k] at e
      exact .inl e.symm
    · rw [if_neg k] at e
      exact .inr (e ▸ hq)
  · rcases List.mem_append.mp h with z | z
    · exact .inr z
    · exact .inl (List.mem_singleton.mp z)
theorem Sound.put (h : Sound gs ak lim rows) (hv : valD v) (hs : sz v = s) (hl : lkOf gs ak lim v = lk) : Sound gs ak lim (putL rows lk s v) := fun r hr => by
  rcases putL_mem hr with rfl | z
  · exact ⟨hv, hs, hl⟩
  · exact h r z
theorem putL_has : (lk, s, v) ∈ putL rows lk s v := by
  unfold putL
  split
  · rename_i h
    obtain ⟨r, hr, e⟩ := List.any_eq_true.mp h
    have e2 : r.1 = lk := by simpa using e
    exact List.mem_map.mpr ⟨r, hr, by rw [if_pos e2]⟩
  · exact List.mem_append_right _ (List.mem_singleton.mpr rfl)
theorem putL_old {r : LRow} (h : r ∈ rows) (hne : r.1 ≠ lk) : r ∈ putL rows lk s v := by
  unfold putL
  split
  · exact List.mem_map.mpr ⟨r, h, by rw [if_neg hne]⟩
  · exact List.mem_append_left _ h
theorem hasRow.put {k : Lk} {t : Nat} (h : hasRow rows k t) (hb : ∀ r ∈ rows, r.1 = lk → s ≤ r.2.1) : hasRow (putL rows lk s v) k t := by
  obtain ⟨r, hr, e, l⟩ := h
  by_cases z : r.1 = lk
  · exact ⟨_, putL_has, by rw [← e, z], Nat.le_trans (hb r hr z) l⟩
  · exact ⟨r, putL_old hr z, e, l⟩
theorem Based.put (h : Based ak lim rows) (hb : ∀ r ∈ rows, r.1 = lk → s ≤ r.2.1) : Based ak lim (putL rows lk s v) := ⟨h.1.put hb, fun m hm => (h.2.1 m hm).put hb, h.2.2.put hb⟩
theorem keys_put (h : (rows.map (·.1)).Nodup) : ((putL rows lk s v).map (·.1)).Nodup := by
  unfold putL
  split
  · rw [List.map_map]
    have e : rows.map ((·.1) ∘ fun r => if r.1 = lk then (lk, s, v) else r) = rows.map (·.1) := List.map_congr_left fun r _ => by
      show (if r.1 = lk then ((lk, s, v) : LRow) else r).1 = r.1
      split
      · rename_i z
        exact z.symm
      · rfl
    rw [e]
    exact h
  · rename_i z
    rw [List.map_append, List.nodup_append]
    refine ⟨h, by simp, fun a ha b hb => ?_⟩
    obtain ⟨r, hr, e⟩ := List.mem_map.mp ha
    have eb : b = lk := by simpa using hb
    intro eq
    apply z
    exact List.any_eq_true.mpr ⟨r, hr, by rw [decide_eq_true]; rw [e, eq, eb]⟩
theorem nodup_le : ∀ (l U : List Lk), l.Nodup → (∀ x ∈ l, x ∈ U) → l.length ≤ U.length
  | [], _, _, _ => Nat.zero_le _
  | a :: l, U, hn, hs => by
    have ha := hs a List.mem_cons_self
    rw [List.nodup_cons] at hn
    have := nodup_le l (U.erase a) hn.2 fun x hx => by
      have hne : x ≠ a := fun z => hn.1 (z ▸ hx)
      exact (List.mem_erase_of_ne hne).mpr (hs x (List.mem_cons_of_mem _ hx))
    rw [List.length_erase_of_mem ha] at this
    have := List.length_pos_of_mem ha
    simp only [List.length_cons]
    omega
def sumS (rows : List LRow) : Nat := (rows.map (·.2.1)).sum
/-- the measure: looks without a row, then the sizes -/
def pot (U : List Lk) (big : Nat) (rows : List LRow) : Nat := (U.length - rows.length) * big + sumS rows
theorem sumS_repl : ∀ (rows : List LRow), (rows.map (·.1)).Nodup → ∀ r ∈ rows, r.1 = lk → s < r.2.1 → sumS (rows.map (fun r => if r.1 = lk then (lk, s, v) else r)) < sumS rows
  | [], _, r, hr, _, _ => nomatch hr
  | q :: rows, hn, r, hr, e, l => by
    rw [List.map_cons, List.nodup_cons] at hn
    by_cases z : q.1 = lk
    · have er : r = q := by
        rcases List.mem_cons.mp hr with w | w
        · exact w
        · exact absurd (List.mem_map.mpr ⟨r, w, e.trans z.symm⟩) hn.1
      have same : rows.map (fun r => if r.1 = lk then ((lk, s, v) : LRow) else r) = rows := by
        conv => rhs; rw [← List.map_id rows]
        exact List.map_congr_left fun x hx => by
          have : x.1 ≠ lk := fun w => hn.1 (List.mem_map.mpr ⟨x, hx, w.trans z.symm⟩)
          rw [if_neg this]
          rfl
      simp only [List.map_cons, if_pos z, same, sumS, List.sum_cons]
      rw [← er]
      omega
    · have hr2 : r ∈ rows := by
        rcases List.mem_cons.mp hr with w | w
        · exact absurd (w ▸ e) z
        · exact w
      have := sumS_repl rows hn.2 r hr2 e l
      simp only [sumS] at this
      simp only [List.map_cons, if_neg z, sumS, List.sum_cons]
      omega
theorem pot_put {U : List Lk} {big : Nat} (hn : (rows.map (·.1)).Nodup) (hU : ∀ r ∈ rows, r.1 ∈ U) (hk : lk ∈ U) (hs : s < big) (hnew : (∀ r ∈ rows, r.1 ≠ lk) ∨ ∃ r ∈ rows, r.1 = lk ∧ s < r.2.1) : pot U big (putL rows lk s v) < pot U big rows := by
  unfold putL
  rcases hnew with h | ⟨r, hr, e, l⟩
  · have hf : rows.any (fun r => decide (r.1 = lk)) = false := by
      rw [List.any_eq_false]
      exact fun r hr => by simpa using h r hr
    rw [hf]
    simp only [Bool.false_eq_true, if_false, pot, sumS, List.length_append, List.length_singleton, List.map_append, List.map_cons, List.map_nil, List.sum_append, List.sum_cons, List.sum_nil]
    have hl := nodup_le (lk :: rows.map (·.1)) U (List.nodup_cons.mpr ⟨fun z => by
      obtain ⟨r, hr, e⟩ := List.mem_map.mp z
      exact h r hr e, hn⟩) fun x hx => by
        rcases List.mem_cons.mp hx with w | w
        · exact w ▸ hk
        · obtain ⟨r, hr, e⟩ := List.mem_map.mp w
          exact e ▸ hU r hr
    rw [List.length_cons, List.length_map] at hl
    have e1 : U.length - rows.length = (U.length - (rows.length + 1)) + 1 := by omega
    rw [e1, Nat.succ_mul]
    omega
  · have ht : rows.any (fun r => decide (r.1 = lk)) = true := List.any_eq_true.mpr ⟨r, hr, by simpa using e⟩
    rw [ht]
    simp only [if_true, pot, List.length_map]
    have := sumS_repl (v := v) rows hn r hr e l
    omega
def Bounded (B : Nat) (rows : List LRow) : Prop := ∀ r ∈ rows, r.2.1 ≤ B * 2 ^ rows.length
theorem Bounded.put {B : Nat} (h : Bounded B rows) {q r : LRow} (hq : q ∈ rows) (hr : r ∈ rows) (hs : s = q.2.1 + r.2.1) (hnew : (∀ r ∈ rows, r.1 ≠ lk) ∨ ∃ r ∈ rows, r.1 = lk ∧ s < r.2.1) : Bounded B (putL rows lk s v) ∧ s ≤ B * 2 ^ (rows.length + 1) := by
  have e2 : B * 2 ^ (rows.length + 1) = B * 2 ^ rows.length + B * 2 ^ rows.length := by
    rw [Nat.pow_succ, ← Nat.mul_assoc]
    omega
  have b1 := h q hq
  have b2 := h r hr
  refine ⟨fun x hx => ?_, by omega⟩
  rcases hnew with z | ⟨w, hw, e, l⟩
  · have hf : rows.any (fun r => decide (r.1 = lk)) = false := by
      rw [List.any_eq_false]
      exact fun r hr => by simpa using z r hr
    have hl : (putL rows lk s v).length = rows.length + 1 := by
      unfold putL
      rw [hf]
      simp
    rw [hl, e2]
    rcases putL_mem hx with rfl | hx
    · show s ≤ _
      omega
    · have := h x hx
      omega
  · have ht : rows.any (fun r => decide (r.1 = lk)) = true := List.any_eq_true.mpr ⟨w, hw, by simpa using e⟩
    have hl : (putL rows lk s v).length = rows.length := by
      unfold putL
      rw [ht]
      simp
    rw [hl]
    rcases putL_mem hx with rfl | hx
    · have := h w hw
      show s ≤ _
      omega
    · exact h x hx
end
end TX
namespace TX
open PySem PySem.Spec PyProof.Rows L2
/-! ### dicts whose keys are tuples of texts, ints, None and such tuples; their values are anything -/
/-- rows: a key, where it stands, the value -/
abbrev GRow := NestedKey × Addr × V
def gfind (xs : List GRow) (k : NestedKey) : Option V := (xs.find? fun x => decide (x.1 = k)).map (·.2.2)
def gput (xs : List GRow) (k : NestedKey) (b : Addr) (n : V) : List GRow := if (gfind xs k).isSome then xs.map (fun x => if x.1 = k then (x.1, x.2.1, n) else x) else xs ++ [(k, b, n)]
abbrev GRel : List GRow → List (NestedKey × Addr × Value) → Prop := Paired fun p q => p.1 = q.1 ∧ p.2.1 = q.2.1 ∧ RelV p.2.2 q.2.2
def dGP (P : Program) (w : World) (a : Addr) (xs : List GRow) : Heap → Prop := fun h => xs.length ≤ sizeLine ∧ (a == sysModules) = false ∧ ∃ ys, GRel xs ys ∧ ∃ o es ep, h.get? a = some o ∧ o.ExactDict ∧ o.data = .dict es ep ∧ es.toList = ys.map (entryOfKey (nestedKind P w)) ∧ (ys.map (·.1)).Nodup
def dGO (P : Program) (w : World) (a : Addr) (xs : List GRow) : HO := .ext (dGP P w a xs)
/-- a dict with these rows stands at a -/
def Dg (P : Program) (w : World) (H : Hp) (a : Addr) (xs : List GRow) : Prop := ∃ f, H a = some (.ext f) ∧ ∀ h, f h → dGP P w a xs h
theorem Dg.of {P : Program} {w : World} {H : Hp} {a : Addr} {xs : List GRow} (h : H a = some (dGO P w a xs)) : Dg P w H a xs := ⟨_, h, fun _ z => z⟩
/-- the keys as they stand -/
def GKeys (K : PySem.W.Frag) (H : Hp) (xs : List GRow) : Prop := ∀ x ∈ xs, Dp K H (.ref x.2.1) (keyD x.1) ∧ x.1.depth ≤ 8
theorem GRel.find {xs : List GRow} {ys : List (NestedKey × Addr × Value)} (r : GRel xs ys) (k : NestedKey) : (gfind xs k = none ∧ atKey ys k = none) ∨ ∃ n b u, gfind xs k = some n ∧ atKey ys k = some (b, u) ∧ RelV n u := by
  induction r with
  | nil => exact .inl ⟨rfl, rfl⟩
  | @cons p q ps qs h t ih =>
    obtain ⟨h1, h2, h3⟩ := h
    by_cases e : p.1 = k
    · refine .inr ⟨p.2.2, q.2.1, q.2.2, ?_, ?_, h3⟩
      · simp [gfind, List.find?_cons, e]
      · have e' : q.1 = k := h1.symm.trans e
        simp only [atKey, List.find?_cons, decide_eq_true e', Option.map_some]
    · have e' : ¬ q.1 = k := fun z => e (h1.trans z)
      have a1 : gfind (p :: ps) k = gfind ps k := by simp [gfind, List.find?_cons, e]
      have a2 : atKey (q :: qs) k = atKey qs k := by simp [atKey, List.find?_cons, e']
      rw [a1, a2]
      exact ih
theorem GRel.repl {xs : List GRow} {ys : List (NestedKey × Addr × Value)} (r : GRel xs ys) (k : NestedKey) {n : V} {u : Value} (hv : RelV n u) : GRel (xs.map (fun x => if x.1 = k then (x.1, x.2.1, n) else x)) (ys.map (putAt k u)) := by
  induction r with
  | nil => exact .nil
  | @cons p q ps qs h tl ih =>
    rw [List.map_cons, List.map_cons]
    refine .cons ?_ ih
    obtain ⟨h1, h2, h3⟩ := h
    unfold putAt
    by_cases e : p.1 = k
    · rw [if_pos e, if_pos (h1.symm.trans e)]
      exact ⟨h1, h2, hv⟩
    · rw [if_neg e, if_neg (fun z => e (h1.trans z))]
      exact ⟨h1, h2, h3⟩
theorem GRel.put {xs : List GRow} {ys : List (NestedKey × Addr × Value)} (r : GRel xs ys) (k : NestedKey) (b : Addr) {n : V} {u : Value} (hv : RelV n u) : GRel (gput xs k b n) (storedH ys k b u) := by
  unfold gput storedH
  rcases r.find k with ⟨h1, h2⟩ | ⟨m, c, u', h1, h2, _⟩
  · simp only [h1, h2, Option.isSome_none, Bool.false_eq_true, if_false]
    exact Paired.snoc r ⟨rfl, rfl, hv⟩
  · simp only [h1, h2, Option.isSome_some, if_true]
    exact r.repl k hv
theorem gput_len (xs : List GRow) (k : NestedKey) (b : Addr) (n : V) : (gput xs k b n).length ≤ xs.length + 1 := by
  unfold gput
  split <;> simp
theorem gfind_put {xs : List GRow} {k j : NestedKey} {b : Addr} {n m : V} (h : gfind (gput xs k b n) j = some m) : (j = k ∧ m = n) ∨ gfind xs j = some m := by
  unfold gput at h
  by_cases hs : (gfind xs k).isSome = true
  · rw [if_pos hs] at h
    clear hs
    induction xs with
    | nil => simp [gfind] at h
    | cons x xs ih =>
      rw [List.map_cons] at h
      by_cases e : x.1 = k
      · rw [if_pos e] at h
        by_cases ej : x.1 = j
        · have e2 : n = m := by simpa [gfind, List.find?_cons, ej] using h
          exact .inl ⟨ej.symm.trans e, e2.symm⟩
        · have h2 : gfind (xs.map fun x => if x.1 = k then (x.1, x.2.1, n) else x) j = some m := by simpa [gfind, List.find?_cons, ej] using h
          rcases ih h2 with z | z
          · exact .inl z
          · exact .inr (by simpa [gfind, List.find?_cons, ej] using z)
      · rw [if_neg e] at h
        by_cases ej : x.1 = j
        · exact .inr (by simpa [gfind, List.find?_cons, ej] using h)
        · have h2 : gfind (xs.map fun x => if x.1 = k then (x.1, x.2.1, n) else x) j = some m := by simpa [gfind, List.find?_cons, ej] using h
          rcases ih h2 with z | z
          · exact .inl z
          · exact .inr (by simpa [gfind, List.find?_cons, ej] using z)
  · rw [if_neg hs] at h
    cases hj : gfind xs j with
    | some m' =>
      refine .inr ?_
      have e : gfind (xs ++ [(k, b, n)]) j = some m' := by
        unfold gfind at hj ⊢
        rw [List.find?_append]
        obtain ⟨q, hq, hq2⟩ := Option.map_eq_some_iff.mp hj
        rw [hq]
        simpa using hq2
      rw [e] at h
      exact h
    | none =>
      have hn : xs.find? (fun x => decide (x.1 = j)) = none := by
        unfold gfind at hj
        cases q : xs.find? (fun x => decide (x.1 = j)) with
        | none => rfl
        | some y => rw [q] at hj; cases hj
      unfold gfind at h
      rw [List.find?_append, hn] at h
      by_cases ej : k = j
      · have e2 : n = m := by simpa [List.find?_cons, ej] using h
        exact .inl ⟨ej.symm, e2.symm⟩
      · simp [List.find?_cons, ej] at h
theorem GKeys.put {K : PySem.W.Frag} {H : Hp} {xs : List GRow} (h : GKeys K H xs) {k : NestedKey} {b : Addr} (n : V) (hb : Dp K H (.ref b) (keyD k)) (hd : k.depth ≤ 8) : GKeys K H (gput xs k b n) := by
  intro x hx
  unfold gput at hx
  by_cases hs : (gfind xs k).isSome = true
  · rw [if_pos hs] at hx
    obtain ⟨y, hy, e⟩ := List.mem_map.mp hx
    by_cases ek : y.1 = k
    · rw [if_pos ek] at e
      rw [← e]
      exact h y hy
    · rw [if_neg ek] at e
      rw [← e]
      exact h y hy
  · rw [if_neg hs] at hx
    rcases List.mem_append.mp hx with z | z
    · exact h x z
    · rw [List.mem_singleton.mp z]
      exact ⟨hb, hd⟩
theorem GKeys.up {K : PySem.W.Frag} {H G : Hp} {xs : List GRow} (h : GKeys K H xs) (s : Same H G) : GKeys K G xs := fun x hx => ⟨dp_same s _ _ (h x hx).1, (h x hx).2⟩
section
variable {X : Cx} {pins : List (Addr × Obj)} {σ : L2.St} {H : Hp} {s : Shared} {a : Addr} {xs : List GRow}
theorem dg_of (I : Inv X pins σ H s) (e : Dg X.prog X.w H a xs) (hk : GKeys X.K H xs) : xs.length ≤ sizeLine ∧ (a == sysModules) = false ∧ ∃ ys, GRel xs ys ∧ s.heap.DictOfH (nestedKind X.prog X.w) a ys := by
  obtain ⟨f, e, hf⟩ := e
  obtain ⟨hz, hs, ys, r, o, es, ep, h1, h2, h3, h4, h5⟩ := hf _ (show ObjOk X.prog X.w H s.heap a (.ext f) from I.hok a _ e).1
  refine ⟨hz, hs, ys, r, o, es, ep, h1, h2, h3, h4, ?_, h5⟩
  have all : ∀ {l : List GRow} {m : List (NestedKey × Addr × Value)}, GRel l m → (∀ x ∈ l, Dp X.K H (.ref x.2.1) (keyD x.1) ∧ x.1.depth ≤ 8) → ∀ y ∈ m, (nestedKind X.prog X.w).is s.heap y.1 y.2.1 := by
    intro l m q
    induction q with
    | nil => exact fun _ y hy => nomatch hy
    | @cons p q ps qs hq t ih =>
      intro hl y hy
      rcases List.mem_cons.mp hy with z | z
      · subst z
        obtain ⟨c1, c2⟩ := hl p List.mem_cons_self
        obtain ⟨e1, e2, _⟩ := hq
        refine ⟨?_, by rw [← e1]; exact c2⟩
        have := nested_of I p.1 (.ref p.2.1) (.ref p.2.1) c1 rfl
        rw [← e1, ← e2]
        exact this
      · exact ih (fun x hx => hl x (List.mem_cons_of_mem _ hx)) y z
  exact all r hk
end
/-- {} -/
def tDNewG (P : Program) (w : World) : TE := fun _ H Q => ∀ p, H p = none → Q (.ref p) (upd H p (dGO P w p []))
/-- d[y], there -/
def tDGetG (P : Program) (w : World) (K : PySem.W.Frag) (td ty : TE) : TE := fun σ H Q => td σ H fun x H1 => ty σ H1 fun y H2 => ∃ a b xs k n, x = .ref a ∧ y = .ref b ∧ Dg P w H2 a xs ∧ GKeys K H2 xs ∧ Dp K H2 (.ref b) (keyD k) ∧ k.depth ≤ 8 ∧ gfind xs k = some n ∧ Q n H2
def tDNotInG (P : Program) (w : World) (K : PySem.W.Frag) (ty td : TE) : TE := fun σ H Q => ty σ H fun y H1 => td σ H1 fun x H2 => ∃ a b xs k, x = .ref a ∧ y = .ref b ∧ Dg P w H2 a xs ∧ GKeys K H2 xs ∧ Dp K H2 (.ref b) (keyD k) ∧ k.depth ≤ 8 ∧ Q (.bl (!(gfind xs k).isSome)) H2
/-- d[y] = n -/
def sDPutG (P : Program) (w : World) (K : PySem.W.Frag) (td ty tv : TE) : TS := fun D σ H => tv σ H fun v H1 => td σ H1 fun x H2 => ty σ H2 fun y H3 => ∃ a b xs k, x = .ref a ∧ y = .ref b ∧ Dg P w H3 a xs ∧ GKeys K H3 xs ∧ Dp K H3 (.ref b) (keyD k) ∧ k.depth ≤ 8 ∧ xs.length < sizeLine ∧ D.nx σ (upd H3 a (dGO P w a (gput xs k b v)))
section
variable {X : Cx} {o i value : Expr} {pos pos' : Pos} {td ty tv : TE}
theorem dg_ok {P : Program} {w : World} {H : Hp} {h : Heap} {a : Addr} {xs : List GRow} (hz : xs.length ≤ sizeLine) (hs : (a == sysModules) = false) {ys : List (NestedKey × Addr × Value)} (r : GRel xs ys) (dd : h.DictOfH (nestedKind P w) a ys) : ObjOk P w H h a (dGO P w a xs) := by
  obtain ⟨o, es, ep, h1, h2, h3, h4, _, h5⟩ := dd
  exact ⟨⟨hz, hs, ys, r, o, es, ep, h1, h2, h3, h4, h5⟩, ⟨o, h1⟩, fun g1 g2 ⟨z, y, vs, q, ob, es', ep', e, c⟩ kp => ⟨z, y, vs, q, ob, es', ep', kp _ e, c⟩⟩
theorem pe_dnewG : PE X (.Dict [] [] pos) (tDNewG X.prog X.w) := ⟨fun pins s σ H Q I h =>
  wpAny_Dict_empty ⟨.ref s.heap.objs.size, _, I.laid (a := s.heap.objs.size) (o := dGO X.prog X.w s.heap.objs.size []) (t' := s.toks) (fun _ _ q => Heap.get?_push_of_some _ q) (Nat.le_refl _)
    (dg_ok (Nat.zero_le _) (beq_eq_false_iff_ne.mpr (Ne.symm (Nat.ne_of_lt I.big))) .nil ⟨_, #[], 0, Heap.get?_push_size _ rfl, ⟨rfl, rfl, rfl⟩, rfl, rfl, (fun x hx => nomatch hx), List.nodup_nil⟩), rfl, h _ (I.hok.fresh (Nat.le_refl _))⟩⟩
theorem pe_dgetG (hu : X.A.units + 64 < cLine) (ho : PE X o td) (hi : PE X i ty) (hs : NoSl i) : PE X (.Subscript o i pos) (tDGetG X.prog X.w X.K td ty) := by
  refine ⟨fun pins s σ H Q I h => ?_⟩
  refine subD_of PySem.F.slot_dict_getitem.lookup hs (thn (ho.run pins s σ H _ I h) fun u s1 ⟨x, H1, I1, rx, q1⟩ => thn (hi.run pins s1 σ H1 _ I1 q1) fun iv s2 ⟨y, H2, I2, ry, a, b, xs, k, n, ex, ey, e, hk, hd, h8, hf, q2⟩ => ?_)
  subst ex ey
  cases rx
  cases ry
  obtain ⟨hz, hm, ys, r, dd⟩ := dg_of I2 e hk
  rcases r.find k with ⟨z, _⟩ | ⟨m, c, t, z1, z2, z3⟩
  · rw [z] at hf
    cases hf
  · rw [z1] at hf
    have em : m = n := Option.some.inj hf
    subst em
    exact ⟨dd.typeIs, wpAny_getItem_heap (room8 hu) ⟨nested_of I2 k _ _ hd rfl, h8⟩ dd z2 ⟨m, H2, I2.tok _, z3, q2⟩⟩
theorem pc_dnotinG (hu : X.A.units + 64 < cLine) (hi : PE X i ty) (ho : PE X o td) : PC X .NotIn i o (tDNotInG X.prog X.w X.K ty td) := by
  refine ⟨fun pins s σ H Q I h => ?_⟩
  refine thn (hi.run pins s σ H _ I h) fun iv s1 ⟨y, H1, I1, ry, q1⟩ => thn (ho.run pins s1 σ H1 _ I1 q1) fun u s2 ⟨x, H2, I2, rx, a, b, xs, k, ex, ey, e, hk, hd, h8, q2⟩ => ?_
  subst ex ey
  cases rx
  cases ry
  obtain ⟨hz, hm, ys, r, dd⟩ := dg_of I2 e hk
  refine wpAny_notIn_heap (room8 hu) ⟨nested_of I2 k _ _ hd rfl, h8⟩ hm dd ?_
  have es : (atKey ys k).isSome = (gfind xs k).isSome := by
    rcases r.find k with ⟨z1, z2⟩ | ⟨m, c, t, z1, z2, _⟩ <;> rw [z1, z2] <;> rfl
  rw [es]
  exact ⟨.bl _, H2, I2.tok _, rfl, q2⟩
theorem ps_dputG (hu : X.A.units + 64 < cLine) (ho : PE X o td) (hi : PE X i ty) (hv : PE X value tv) (hs : swapsWith value (some (.Subscript o i pos')) pos.line X.env = pure false) : PS X (.Assign [.Subscript o i pos'] value pos) (sDPutG X.prog X.w X.K td ty tv) := by
  refine ⟨fun pins s σ H D I h => ?_⟩
  refine wpAny_Assign_Subscript (thn (hv.run pins s σ H _ I h) fun rr s1 ⟨v, H1, I1, rv, q1⟩ => thn (ho.run pins s1 σ H1 _ I1 q1) fun u s2 ⟨x, H2, I2, rx, q2⟩ => thn (hi.run pins s2 σ H2 _ I2 q2) fun iv s3 ⟨y, H3, I3, ry, a, b, xs, k, ex, ey, e, hk, hd, h8, hl, q3⟩ => ?_) hs
  subst ex ey
  cases rx
  cases ry
  obtain ⟨hz, hm, ys, r, dd⟩ := dg_of I3 e hk
  have hzy : ys.length ≤ sizeLine := by rw [← Paired.length r]; exact hz
  obtain ⟨f, e, _⟩ := e
  refine wpAny_setItem_heap (hsz := hzy) (room8 hu) ⟨nested_of I3 k _ _ hd rfl, h8⟩ dd fun h' dd' hsb => ?_
  have he : ∃ q, h'.get? a = some q := let ⟨q, _, _, hq, _⟩ := dd'; ⟨q, hq⟩
  exact ⟨σ, _, d_write I3 (by rw [e]; exact True.intro) hsb he (dg_ok (Nat.le_trans (gput_len xs k b v) hl) hm (r.put k b rv) dd'), q3⟩
end
end TX
namespace TX
open PySem PySem.Spec PyProof.Rows L2
/-! ### looks as keys of a dict -/
def numsK (sh : List Nat) : List NestedKey := sh.map fun (n : Nat) => .num (n : Int)
def Lk.key : Lk → NestedKey
  | .non => .tup [.text "nothing", .num 0]
  | .txt n => .tup [.text "text", .num ((n : Nat) : Int)]
  | .lst sh => .tup [.text "list", .tup (numsK sh)]
theorem numsK_inj : ∀ {a b : List Nat}, numsK a = numsK b → a = b
  | [], [], _ => rfl
  | [], _ :: _, h => nomatch h
  | _ :: _, [], h => nomatch h
  | x :: a, y :: b, h => by
    simp only [numsK, List.map_cons, List.cons.injEq, NestedKey.num.injEq] at h
    have e : x = y := by omega
    rw [e, numsK_inj (a := a) (b := b) h.2]
theorem Lk.key_inj {a b : Lk} (h : a.key = b.key) : a = b := by
  have d1 : ("nothing" : Str) ≠ "text" := by decide +kernel
  have d2 : ("nothing" : Str) ≠ "list" := by decide +kernel
  have d3 : ("text" : Str) ≠ "list" := by decide +kernel
  cases a with
  | non => cases b with
    | non => rfl
    | txt n =>
      simp only [Lk.key, NestedKey.tup.injEq, List.cons.injEq, NestedKey.text.injEq] at h
      exact absurd h.1 d1
    | lst sh =>
      simp only [Lk.key, NestedKey.tup.injEq, List.cons.injEq, NestedKey.text.injEq] at h
      exact absurd h.1 d2
  | txt m => cases b with
    | non =>
      simp only [Lk.key, NestedKey.tup.injEq, List.cons.injEq, NestedKey.text.injEq] at h
      exact absurd h.1 (Ne.symm d1)
    | txt n =>
      simp only [Lk.key, NestedKey.tup.injEq, List.cons.injEq, NestedKey.num.injEq] at h
      rw [show m = n by have := h.2.1; omega]
    | lst sh =>
      simp only [Lk.key, NestedKey.tup.injEq, List.cons.injEq, NestedKey.text.injEq] at h
      exact absurd h.1 d3
  | lst s => cases b with
    | non =>
      simp only [Lk.key, NestedKey.tup.injEq, List.cons.injEq, NestedKey.text.injEq] at h
      exact absurd h.1 (Ne.symm d2)
    | txt n =>
      simp only [Lk.key, NestedKey.tup.injEq, List.cons.injEq, NestedKey.text.injEq] at h
      exact absurd h.1 (Ne.symm d3)
    | lst sh =>
      simp only [Lk.key, NestedKey.tup.injEq, List.cons.injEq] at h
      rw [numsK_inj h.2.1]
/-- a dict's rows tell looks, sizes, values -/
structure Told (K : PySem.W.Frag) (H : Hp) (gs : List Sx) (x : GRow) (r : LRow) : Prop where
  key : x.1 = r.1.key
  at_ : Dp K H (.ref x.2.1) (keyD r.1.key)
  val : ∃ (t : Addr) (vv : V) (aA : Addr), x.2.2 = .ref t ∧ SqT K H t [.int ((r.2.1 : Nat) : Int), vv, .ref aA] ∧ Dp K H vv r.2.2 ∧ SqL K H aA ((answersL r.1 [] gs).map V.bl)
theorem Told.up {K : PySem.W.Frag} {H G : Hp} {gs : List Sx} {x : GRow} {r : LRow} (h : Told K H gs x r) (s : Same H G) : Told K G gs x r := by
  obtain ⟨t, vv, aA, e, a, b, c⟩ := h.val
  exact ⟨h.key, dp_same s _ _ h.at_, t, vv, aA, e, same_sqt s a, dp_same s _ _ b, s.seq c⟩
end TX
namespace TX
open PySem PySem.Spec PyProof.Rows L2
/-! ### step_over_both for recipes that are compared -/
theorem recx_snoc {K : PySem.W.Frag} {H : Hp} {rc a : Addr} {as : List Addr} {gs : List Sg} {g : Sx} (hl : as.length = gs.length) (hst : ∀ (i : Nat) (g : Sg) (a : Addr), gs[i]? = some g → as[i]? = some a → StepAt K H a g) (hfe : ∀ g ∈ gs, g.few) (hpa : ∀ (i : Nat) (g : Sg), gs[i]? = some g → ∀ k ∈ g.parts, k < i)
    (ha : SqT K H rc ((as ++ [a]).map V.ref)) (hs : StepX K H a g) (hf : g.few) (hp : ∀ k ∈ g.parts, k < gs.length) : RecX K H rc (as ++ [a]) (gs.map Sx.of ++ [g]) := by
  have cs : ∀ {t : Nat} {g' : Sx}, (gs.map Sx.of ++ [g])[t]? = some g' → (t < gs.length ∧ ∃ g0, gs[t]? = some g0 ∧ g' = Sx.of g0) ∨ (t = gs.length ∧ g = g') := by
    intro t g' e
    by_cases ht : t < gs.length
    · rw [List.getElem?_append_left (by rw [List.length_map]; exact ht), List.getElem?_map] at e
      cases z : gs[t]? with
      | none => rw [z] at e; cases e
      | some g0 =>
        rw [z] at e
        exact .inl ⟨ht, g0, rfl, (Option.some.inj e).symm⟩
    · have hlt := (List.getElem?_eq_some_iff.mp e).1
      rw [List.length_append, List.length_singleton, List.length_map] at hlt
      have ti : t = gs.length := by omega
      rw [ti, List.getElem?_append_right (by rw [List.length_map]; exact Nat.le_refl _), List.length_map, Nat.sub_self] at e
      exact .inr ⟨ti, by simpa using e⟩
  refine ⟨ha, by rw [List.length_append, List.length_append, List.length_map, hl]; rfl, fun t g' a' e1 e2 => ?_, fun g' hg => ?_, fun t g' e1 k hk => ?_⟩
  · rcases cs e1 with ⟨ht, g0, e, rfl⟩ | ⟨ti, eg⟩
    · rw [List.getElem?_append_left (by rw [hl]; exact ht)] at e2
      exact (hst t g0 a' e e2).x
    · rw [ti, List.getElem?_append_right (by rw [hl]; exact Nat.le_refl _), hl, Nat.sub_self] at e2
      have ea : a = a' := by simpa using e2
      rw [← ea, ← eg]
      exact hs
  · rcases List.mem_append.mp hg with z | z
    · obtain ⟨g0, h0, rfl⟩ := List.mem_map.mp z
      have := hfe g0 h0
      cases g0 <;> exact this
    · rw [List.mem_singleton.mp z]
      exact hf
  · rcases cs e1 with ⟨_, g0, e, rfl⟩ | ⟨ti, eg⟩
    · rw [Sx.of_parts] at hk
      exact hpa t g0 e k hk
    · rw [ti]
      rw [← eg] at hk
      exact hp k hk
def spBothX (K : PySem.W.Frag) : Sp := fun vs H Q _ => ∃ (mk : Nat → Nat → Sx) (rc1 rc2 : Addr) (as1 as2 : List Addr) (gs1 gs2 : List Sg) (Hv : Hp), vs = [.str (mk 0 0).sign, .ref rc1, .ref rc2] ∧ Same Hv H ∧ Recipe K Hv rc1 as1 gs1 ∧ Recipe K Hv rc2 as2 gs2 ∧ gs1 ≠ [] ∧ gs2 ≠ [] ∧ gs1.length ≤ 300 ∧ gs2.length ≤ 100 ∧
  (∀ j k, (mk j k).sign = (mk 0 0).sign ∧ (mk j k).parts = [j, k] ∧ (mk j k).nums = [] ∧ (mk j k).few) ∧
  ∀ (H' : Hp) (rc' : Addr) (as' : List Addr) (more : List Sg) (j : Nat), Same H H' → RecX K (ov H Hv H') rc' as' ((gs1 ++ more).map Sx.of ++ [mk (gs1.length - 1) j]) → asksN more ≤ asksN gs2 → more.length ≤ gs2.length → j < (gs1 ++ more).length →
    (predsOf [] (gs1 ++ more)).getD j nv = (predsOf [] gs2).getD (gs2.length - 1) nv → Q (.ref rc') H'
section
variable {P : Program} {w : World} {K : PySem.W.Frag} {mg : Str → Option Value} {base : Heap}
theorem scBothX : FnScope ["sign", "one", "other", "steps", "known", "number", "step", "moved", "name", "parts", "numbers", "part"] ["sign", "one", "other"] (defScope s_step_over_both) := ⟨rfl, rfl, rfl, by decide +kernel, rfl, by decide +kernel, by decide +kernel⟩
theorem ok_bothX {f : Addr} {fd : FuncData} (F : Fun K "step_over_both" "step_over_both" s_step_over_both f fd) (T : Nm mg) (B : Nb mg) : FnOk P w K mg base CX0 1 f fd ["sign", "one", "other"] (spBothX K) := by
  refine F.ok scBothX (fun vs H Q E h => ?_) (fun cdv A outer s H vs Q E hr h => ?_)
  · obtain ⟨mk, rc1, rc2, as1, as2, gs1, gs2, Hv, rfl, _⟩ := h
    rfl
  · obtain ⟨mk, rc1, rc2, as1, as2, gs1, gs2, Hv, rfl, sv, R1, R2, ne1, ne2, l1, l2, hmk, q⟩ := h
    have hu := hr.units
    refine ⟨_, pss_cons (ps_set (i := 3) scBothX.nd rfl (.inl rfl) (pe_callTy call_list_of (by rfl) T.lst (by decide +kernel) (pa_cons (pv 1) pa_nil))) <|
      pss_cons (ps_set (i := 4) scBothX.nd rfl (.inl rfl) pe_dnewN) <|
      pss_cons (ps_for PassesOwn.never rfl (pi_enumT (by rfl) B.enum (pa_cons (pv 1) pa_nil)) (pg_tup rfl (pgs_cons (pg_name (i := 5) scBothX.nd rfl (.inl rfl)) (pgs_cons (pg_name (i := 6) scBothX.nd rfl (.inl rfl)) pgs_nil)))
        (pss_one (ps_dputN hu (pv 4) (pv 6) (pv 5) (by rfl)))) <|
      pss_cons (ps_set (i := 7) scBothX.nd rfl (.inr rfl) (pe_lst pa_nil)) <|
      pss_cons (ps_for PassesOwn.never rfl (pi_tup (pv 2)) (pg_tup rfl (pgs_cons (pg_name (i := 8) scBothX.nd rfl (.inl rfl)) (pgs_cons (pg_name (i := 9) scBothX.nd rfl (.inl rfl)) (pgs_cons (pg_name (i := 10) scBothX.nd rfl (.inl rfl)) pgs_nil)))) (
        pss_cons (ps_set (i := 6) scBothX.nd rfl (.inl rfl) (pe_tup (pa_cons (pv 8) (pa_cons (pe_callTy call_tuple_of (by rfl) T.tpl (by decide +kernel) (pa_cons (pe_lc (own := [("part", 11)]) (g := gName 11) (tt := tYes) (te := tOp (rIxL K) (tVar 7) (tVar 11)) rfl scBothX.nd (pi_tup (pv 9))
          (blkOk_by (own := [("part", 11)]) (N := ["sign", "one", "other", "steps", "known", "number", "step", "moved", "name", "parts", "numbers", "part"]) (sc := defScope s_step_over_both) (by decide +kernel)) (fun _ _ _ _ _ => pg_name (i := 11) scBothX.nd rfl (Or.inl rfl)) (fun _ _ _ _ _ => pts_nil) (fun _ _ _ _ _ => pe_ix ix_list (pv 7) (pv 11) (fun _ _ => rfl))) pa_nil)) (pa_cons (pv 10) pa_nil))))) <|
        C8.pss_cut (ps_if (pt_cmp (pc_dnotinN2 hu (pv 6) (pv 4))) (pss_cons (ps_dputN hu (pv 4) (pv 6) (pe_callB call_len_seq (by rfl) B.len PySem.boot_len (pa_cons (pv 3) pa_nil)) (by rfl)) <|
          pss_one (ps_expr (pe_bm PySem.F.plainAttrs_list PySem.F.slot_list_append PySem.F.type_list_append mt_append (pv 3) (pa_cons (pv 6) pa_nil)))) pss_nil) <|
        pss_one (ps_expr (pe_bm PySem.F.plainAttrs_list PySem.F.slot_list_append PySem.F.type_list_append mt_append (pv 7) (pa_cons (pe_dgetN hu (pv 4) (pv 6) (fun _ _ => rfl)) pa_nil))))) <|
      pss_one (ps_ret (pe_tup (StX.pa_star (pv 3) (pa_cons (pe_tup (pa_cons (pv 0) (pa_cons (pe_tup (pa_cons (pe_op op_sub (pe_callB call_len_seq (by rfl) B.len PySem.boot_len (pa_cons (pv 1) pa_nil)) pe_int) (pa_cons (pe_ix ix_list (pv 7) (pe_un un_neg pe_int) (fun _ _ => rfl)) pa_nil))) (pa_cons (pe_tup pa_nil) pa_nil)))) pa_nil)))), ?_⟩
    have al1 := R1.len
    have al2 := R2.len
    refine ⟨_, rfl, rc1, _, rfl, .inr (same_sqt sv R1.at_), fun rS nS => ?_⟩
    have s1 := same_upd (o := .lst (as1.map V.ref)) nS
    have fS1 := upd_same (H := H) (a := rS) (o := .lst (as1.map V.ref))
    generalize upd H rS (.lst (as1.map V.ref)) = H1 at s1 fS1
    intro rK nK
    have nK0 : H rK = none := s1.free nK
    have s2 := same_upd (o := dNO P w rK []) nK
    have fS2 := s2 _ _ fS1
    have fK2 := upd_same (H := H1) (a := rK) (o := dNO P w rK [])
    have hSK : rS ≠ rK := ne_of_none fS1 nK
    have sH2 := s1.trans s2
    refine ⟨_, rfl, rc1, as1.map V.ref, rfl, same_sqt (sv.trans sH2) R1.at_, for_it walk_enumT (fun i σ G => ∃ (y5 y6 : Option V) (xs : List NRow), σ = [some (.str (mk 0 0).sign), some (.ref rc1), some (.ref rc2), some (.ref rS), some (.ref rK), y5, y6, none, none, none, none, none] ∧ Same H G ∧ G rS = some (.lst (as1.map V.ref)) ∧ G rK = some (dNO P w rK xs) ∧ NKeys K Hv xs ∧ xs.length ≤ i ∧
      ∀ k n, nfind xs k = some n → ∃ (t : Nat) (g : Sg), n = (t : Int) ∧ gs1[t]? = some g ∧ g.key = k) ⟨none, none, [], rfl, sH2, fS2, fK2, (fun x hx => nomatch hx), Nat.le_refl _, fun k n e => (nomatch e)⟩ (fun i σ G hi ⟨_, _, _, _, sm, _⟩ => same_sqt (sv.trans sm) R1.at_) ?_ ?_⟩
    · rintro i x σ G G' hi ⟨y5, y6, xs, rfl, sG, fS, fK, nk, xl, fd⟩ ⟨T1, v, rfl, nT, rfl, hv⟩
      rw [List.length_map] at hi
      have ea := List.getElem?_eq_getElem hi
      have ev : v = .ref as1[i] := by
        rw [List.getElem?_map, ea] at hv
        exact (Option.some.inj hv).symm
      subst ev
      have hig : i < gs1.length := by omega
      have eg := List.getElem?_eq_getElem hig
      have st := R1.step i _ _ eg ea
      have sT := same_upd (o := .tup [.int (i : Nat), .ref as1[i]]) nT
      have sGT := sG.trans sT
      refine ⟨T1, _, rfl, SqT.of upd_same, rfl, _, _, rfl, _, _, rfl, rfl, ?_⟩
      refine ⟨_, rfl, _, rfl, _, rfl, rK, as1[i], xs, gs1[i].key, (i : Nat), rfl, rfl, rfl, sT _ _ fK, nk.up (sv.trans sGT), (st.up (sv.trans sGT)).dp, Sg.key_dep _, Nat.lt_of_le_of_lt (show xs.length ≤ 1000 by omega) (by decide), ?_⟩
      refine ⟨_, _, nput xs gs1[i].key as1[i] (i : Nat), rfl, same_fresh nK0 sGT, ?_, upd_same, nk.put _ st.dp (Sg.key_dep _), Nat.le_trans (nput_len _ _ _ _) (Nat.succ_le_succ xl), fun k n e => ?_⟩
      · rw [upd_ne hSK]
        exact sT _ _ fS
      · rcases nfind_put e with ⟨e1, e2⟩ | z
        · exact ⟨i, gs1[i], e2, eg, e1.symm⟩
        · exact fd k n z
    rintro σ G0 ⟨y5, y6, xs, rfl, sG0, fS, fK, nk, xl, fd⟩
    refine ⟨Nat.zero_le _, fun rM nM => ?_⟩
    have nM0 : H rM = none := sG0.free nM
    have hSM : rS ≠ rM := ne_of_none fS nM
    have hKM : rK ≠ rM := ne_of_none fK nM
    have s3 := same_upd (o := .lst []) nM
    have nSH : H rS = none := nS
    refine ⟨_, rfl, rc2, rfl, ⟨_, same_sqt (sv.trans (sG0.trans s3)) R2.at_⟩, for_tup (K := K) (a := rc2) (xs := as2.map V.ref) (fun i σ G => ∃ (y5 y6 y8 y9 y10 : Option V) (asM : List Addr) (more : List Sg) (ms : List Nat) (xs : List NRow), σ = [some (.str (mk 0 0).sign), some (.ref rc1), some (.ref rc2), some (.ref rS), some (.ref rK), y5, y6, some (.ref rM), y8, y9, y10, none] ∧
      Lp P w K H Hv gs1 gs2 as1 rS rK rM i G asM more ms xs ∧ G rM = some (.lst (ms.map fun (n : Nat) => V.int n))) ?_ ?_ ?_ ?_⟩
    · refine ⟨_, _, none, none, none, [], [], [], xs, rfl, ⟨sG0.trans s3, by rw [List.append_nil]; exact s3 _ _ fS, s3 _ _ fK, nk.up (w3_hv sv nSH nK0 nM0), by rw [List.length_map] at xl; omega, by rw [List.append_nil]; exact fd, Mg.start R1.part, by rw [List.append_nil, List.append_nil]; exact al1, fun t g a e1 e2 => ?_⟩, upd_same⟩
      rw [List.append_nil] at e1 e2
      exact (R1.step t g a e1 e2).up (w3_hv sv nSH nK0 nM0)
    · rintro i σ G hi ⟨_, _, _, _, _, _, _, _, _, _, lp, _⟩
      exact same_sqt (sv.trans lp.s) R2.at_
    · rintro i x σ G hx ⟨y5, y6, y8, y9, y10, asM, more, ms, xs, rfl, lp, fM⟩
      have il : i < as2.length := by
        have := (List.getElem?_eq_some_iff.mp hx).1
        rw [List.length_map] at this
        exact this
      have ea := List.getElem?_eq_getElem il
      have ex : x = .ref as2[i] := by
        rw [List.getElem?_map, ea] at hx
        exact (Option.some.inj hx).symm
      subst ex
      have hig : i < gs2.length := by omega
      have eg := List.getElem?_eq_getElem hig
      obtain ⟨g, hg⟩ : ∃ g, gs2[i] = g := ⟨_, rfl⟩
      rw [hg] at eg
      have st := R2.step i _ _ eg ea
      have hpart := R2.part i g eg
      have hfew := R2.few g (List.mem_of_getElem? eg)
      obtain ⟨p, qn, h1, h2, h3⟩ := st
      have sHG : Same Hv G := sv.trans lp.s
      have msl := lp.mg.len
      refine ⟨as2[i], _, rfl, same_sqt sHG h1, rfl, _, _, rfl, _, _, rfl, _, _, rfl, rfl, ?_⟩
      refine ⟨_, rfl, _, rfl, p, rfl, ⟨_, same_sqt sHG h2⟩, fun D nD => lc_tup (K := K) (a := p) (xs := g.parts.map fun (n : Nat) => V.int n) (fun j G' => G' D = some (.lst ((g.parts.take j).map fun k => V.int ((ms.getD k 0 : Nat) : Int))) ∧ Same G G') ⟨upd_same, same_upd nD⟩ (fun j G' hj ⟨_, sm⟩ => same_sqt (sHG.trans sm) h2) ?_ ?_⟩
      · rintro j x G' hx2 ⟨hD, sm⟩
        have jl : j < g.parts.length := by
          have := (List.getElem?_eq_some_iff.mp hx2).1
          rw [List.length_map] at this
          exact this
        have ex2 : x = .int ((g.parts[j] : Nat) : Int) := by
          rw [List.getElem?_map, List.getElem?_eq_getElem jl] at hx2
          exact (Option.some.inj hx2).symm
        subst ex2
        have kl := hpart _ (List.getElem_mem jl)
        have pl2 : g.parts.length ≤ 2 := by cases g <;> simp [Sg.parts]
        refine ⟨rfl, _, rfl, _, rfl, rM, _, _, .int ((ms.getD g.parts[j] 0 : Nat) : Int), rfl, rfl, SqL.of (sm _ _ fM), atI_nat ?_, _, hD, ?_, ?_, same_fresh nD sm⟩
        · rw [List.getElem?_map, List.getElem?_eq_getElem (by omega), List.getD_eq_getElem?_getD, List.getElem?_eq_getElem (by omega)]
          rfl
        · rw [List.length_map, List.length_take]
          exact Nat.lt_of_le_of_lt (show min j g.parts.length ≤ 100 by omega) (by decide)
        · rw [upd_same, List.take_add_one, List.getElem?_eq_getElem jl]
          simp only [List.map_append, Option.toList_some, List.map_cons, List.map_nil]
      rintro G1 ⟨hD, sm⟩
      rw [List.length_map, List.take_length] at hD
      refine ⟨D, _, rfl, .inl ⟨SqL.of hD, fun pt npt => ⟨_, rfl, (by show 3 ≤ sizeLine; decide), fun a na => ?_⟩⟩⟩
      have s4 := same_upd (o := .tup (g.parts.map fun k => V.int ((ms.getD k 0 : Nat) : Int))) npt
      have f4 := upd_same (H := G1) (a := pt) (o := .tup (g.parts.map fun k => V.int ((ms.getD k 0 : Nat) : Int)))
      have s5 := same_upd (o := .tup [.str g.sign, .ref pt, .ref qn]) na
      have f5 := upd_same (H := upd G1 pt (.tup (g.parts.map fun k => V.int ((ms.getD k 0 : Nat) : Int)))) (a := a) (o := .tup [.str g.sign, .ref pt, .ref qn])
      have npt0 : H pt = none := (lp.s.trans sm).free npt
      have na0 : H a = none := (lp.s.trans (sm.trans s4)).free na
      have sG2 := sm.trans (s4.trans s5)
      have f4' := s5 _ _ f4
      have nee : ∀ {y : Addr} {o : HO}, G y = some o → y ≠ pt ∧ y ≠ a := fun e => ⟨ne_of_none (sm _ _ e) npt, ne_of_none (s4 _ _ (sm _ _ e)) na⟩
      generalize upd (upd G1 pt (.tup (g.parts.map fun k => V.int ((ms.getD k 0 : Nat) : Int)))) a (.tup [.str g.sign, .ref pt, .ref qn]) = G2 at sG2 f4' f5
      obtain ⟨nSp, nSa⟩ := nee lp.fS
      obtain ⟨nKp, nKa⟩ := nee lp.fK
      obtain ⟨nMp, nMa⟩ := nee fM
      have sW : Same (W3 H Hv rS rK rM G) (W3 H Hv rS rK rM G2) := w3_mono fun x o _ _ _ e => sG2 _ _ e
      have stA : StepAt K (W3 H Hv rS rK rM G2) a (g.move ms) := by
        refine ⟨pt, qn, ?_, ?_, ?_⟩
        · rw [Sg.move_sign]
          exact SqT.of (w3_new na0 nSa.symm nKa.symm nMa.symm f5)
        · rw [Sg.move_parts, List.map_map]
          exact SqT.of (w3_new npt0 nSp.symm nKp.symm nMp.symm f4')
        · rw [Sg.move_nums]
          exact same_sqt (w3_hv sv nSH nK0 nM0) h3
      have s02 : Same H G2 := lp.s.trans sG2
      have wsub : Same (W3 H Hv rS rK rM G2) G2 := w3_sub.trans (ov_same sv s02)
      refine ⟨fun σ' G' => ∃ (asM' : List Addr) (more' : List Sg) (xs' : List NRow) (t : Nat), σ' = [some (.str (mk 0 0).sign), some (.ref rc1), some (.ref rc2), some (.ref rS), some (.ref rK), y5, some (.ref a), some (.ref rM), some (.str g.sign), some (.ref p), some (.ref qn), none] ∧
        Lp P w K H Hv gs1 gs2 as1 rS rK rM (i + 1) G' asM' more' (ms ++ [t]) xs' ∧ G' rM = some (.lst (ms.map fun (n : Nat) => V.int n)) ∧ StepAt K (W3 H Hv rS rK rM G') a (g.move ms) ∧ nfind xs' (g.move ms).key = some (t : Int), ?_, ?_⟩
      · refine ⟨_, rfl, _, rfl, rK, a, xs, (g.move ms).key, rfl, rfl, sG2 _ _ lp.fK, lp.nk.up (sW.trans wsub), (stA.up wsub).dp, Sg.key_dep _, _, rfl, ?_⟩
        cases hf : nfind xs (g.move ms).key with
        | some n =>
          obtain ⟨t, g', en, et, ek⟩ := lp.fd _ _ hf
          have eg' := Sg.key_inj ek
          subst eg' en
          refine iteF ⟨asM, more, xs, t, rfl, ⟨s02, sG2 _ _ lp.fS, sG2 _ _ lp.fK, lp.nk.up sW, by have := lp.xl; omega, lp.fd, lp.mg.old eg hpart et, lp.al, fun t g a e1 e2 => (lp.st t g a e1 e2).up sW⟩, sG2 _ _ fM, stA, hf⟩
        | none =>
          have tl := lp.al
          have xl := lp.xl
          have ml := lp.mg.mlen
          have gl : (gs1 ++ more).length ≤ 500 := by rw [List.length_append]; omega
          refine iteT ⟨_, rfl, rS, _, rfl, .inl (SqL.of (sG2 _ _ lp.fS)), _, rfl, _, rfl, rK, a, xs, (g.move ms).key, _, rfl, rfl, rfl, sG2 _ _ lp.fK, lp.nk.up (sW.trans wsub), (stA.up wsub).dp, Sg.key_dep _, Nat.lt_of_le_of_lt (show xs.length ≤ 1000 by omega) (by decide), ?_⟩
          have fS3 : (upd G2 rK (dNO P w rK (nput xs (g.move ms).key a (((as1 ++ asM).map V.ref).length : Nat)))) rS = some (.lst ((as1 ++ asM).map V.ref)) := by
            rw [upd_ne hSK]
            exact sG2 _ _ lp.fS
          refine ⟨_, rfl, .inl ⟨rfl, _, SqL.of fS3⟩, _, rfl, rS, _, _, rfl, rfl, fS3, Nat.lt_of_le_of_lt (show ((as1 ++ asM).map V.ref).length ≤ 1000 by rw [List.length_map]; omega) (by decide), ?_⟩
          have sW2 : Same (W3 H Hv rS rK rM G2) (W3 H Hv rS rK rM (upd (upd G2 rK (dNO P w rK (nput xs (g.move ms).key a (((as1 ++ asM).map V.ref).length : Nat)))) rS (.lst ((as1 ++ asM).map V.ref ++ [.ref a])))) := w3_mono fun x o h1 h2 _ e => by
            rw [upd_ne h1, upd_ne h2]
            exact e
          have eap : as1 ++ (asM ++ [a]) = (as1 ++ asM) ++ [a] := by rw [List.append_assoc]
          have egp : gs1 ++ (more ++ [g.move ms]) = (gs1 ++ more) ++ [g.move ms] := by rw [List.append_assoc]
          refine ⟨asM ++ [a], more ++ [g.move ms], nput xs (g.move ms).key a (((as1 ++ asM).map V.ref).length : Nat), (gs1 ++ more).length, rfl, ⟨same_fresh nSH (same_fresh nK0 s02), ?_, ?_, (lp.nk.up (sW.trans sW2)).put _ (stA.up sW2).dp (Sg.key_dep _), Nat.le_trans (nput_len _ _ _ _) (by omega), fun k n e => ?_, lp.mg.next eg hpart hfew, ?_, fun t g' a' e1 e2 => ?_⟩, ?_, stA.up sW2, ?_⟩
          · rw [upd_same, eap, List.map_append (l₁ := as1 ++ asM)]
            rfl
          · rw [upd_ne hSK.symm, upd_same]
            rfl
          · rw [egp]
            rcases nfind_put e with ⟨z1, z2⟩ | z
            · refine ⟨(gs1 ++ more).length, g.move ms, ?_, ?_, z1.symm⟩
              · rw [z2, List.length_map, lp.al]
              · rw [List.getElem?_append_right (Nat.le_refl _), Nat.sub_self]
                rfl
            · obtain ⟨t, g', e1, e2, e3⟩ := lp.fd k n z
              exact ⟨t, g', e1, by rw [List.getElem?_append_left (List.getElem?_eq_some_iff.mp e2).1]; exact e2, e3⟩
          · rw [eap, egp, List.length_append, List.length_append (as := gs1 ++ more), lp.al]
            rfl
          · rw [egp] at e1
            rw [eap] at e2
            by_cases ht : t < (gs1 ++ more).length
            · rw [List.getElem?_append_left ht] at e1
              rw [List.getElem?_append_left (by rw [lp.al]; exact ht)] at e2
              exact (lp.st t g' a' e1 e2).up (sW.trans sW2)
            · have hlt := (List.getElem?_eq_some_iff.mp e1).1
              rw [List.length_append (as := gs1 ++ more), List.length_singleton] at hlt
              have ti : t = (gs1 ++ more).length := by omega
              subst ti
              rw [List.getElem?_append_right (Nat.le_refl _), Nat.sub_self] at e1
              rw [List.getElem?_append_right (by rw [lp.al]; exact Nat.le_refl _), lp.al, Nat.sub_self] at e2
              cases e1
              cases e2
              exact stA.up sW2
          · rw [upd_ne hSM.symm, upd_ne hKM.symm]
            exact sG2 _ _ fM
          · rw [nfind_new hf, List.length_map, lp.al]
      rintro σ G3 ⟨asM', more', xs', t, rfl, lp', fM', stA', hf'⟩
      have wsub3 : Same (W3 H Hv rS rK rM G3) G3 := w3_sub.trans (ov_same sv lp'.s)
      refine ⟨_, rfl, .inl ⟨rfl, _, SqL.of fM'⟩, _, rfl, _, rfl, rK, a, xs', (g.move ms).key, (t : Nat), rfl, rfl, lp'.fK, lp'.nk.up wsub3, (stA'.up wsub3).dp, Sg.key_dep _, hf', rM, _, _, rfl, rfl, fM', Nat.lt_of_le_of_lt (show (ms.map fun (n : Nat) => V.int n).length ≤ 1000 by rw [List.length_map]; omega) (by decide), ?_⟩
      have sW3 : Same (W3 H Hv rS rK rM G3) (W3 H Hv rS rK rM (upd G3 rM (.lst ((ms.map fun (n : Nat) => V.int n) ++ [.int (t : Nat)])))) := w3_mono fun x o _ _ h3 e => by
        rw [upd_ne h3]
        exact e
      refine ⟨_, _, _, _, _, asM', more', ms ++ [t], xs', rfl, ⟨same_fresh nM0 lp'.s, ?_, ?_, lp'.nk.up sW3, lp'.xl, lp'.fd, lp'.mg, lp'.al, fun t g a e1 e2 => (lp'.st t g a e1 e2).up sW3⟩, ?_⟩
      · rw [upd_ne hSM]
        exact lp'.fS
      · rw [upd_ne hKM]
        exact lp'.fK
      · rw [upd_same, List.map_append]
        rfl
    rintro σ G ⟨y5, y6, y8, y9, y10, asM, more, ms, xs, rfl, lp, fM⟩
    rw [List.length_map, al2] at lp
    have al := lp.al
    have ml := lp.mg.mlen
    have msl := lp.mg.len
    have p1 : 0 < gs1.length := List.length_pos_iff.mpr ne1
    have p2 : 0 < gs2.length := List.length_pos_iff.mpr ne2
    have hl : ms[gs2.length - 1]? = some (ms.getD (gs2.length - 1) 0) := by
      rw [List.getD_eq_getElem?_getD, List.getElem?_eq_getElem (by omega)]
      rfl
    obtain ⟨j, ej⟩ : ∃ j, ms.getD (gs2.length - 1) 0 = j := ⟨_, rfl⟩
    rw [ej] at hl
    obtain ⟨jl, jp⟩ := lp.mg.at_ _ _ hl
    have gl : (gs1 ++ more).length ≤ 500 := by rw [List.length_append]; omega
    have hat : atI (ms.map fun (n : Nat) => V.int n) (-1) = some (.int (j : Nat)) := by
      have e : ms = ms.dropLast ++ [j] := by
        have hne : ms ≠ [] := fun z => by
          rw [z] at msl
          simp at msl
          omega
        rw [List.getElem?_eq_getElem (by omega)] at hl
        have e1 := Option.some.inj hl
        have e2 : ms.getLast hne = j := by
          rw [List.getLast_eq_getElem]
          simp only [msl]
          exact e1
        rw [← e2]
        exact (List.dropLast_concat_getLast hne).symm
      rw [e, List.map_append]
      exact atI_last _ _
    refine ⟨_, rfl, rS, _, rfl, .inr (SqL.of lp.fS), _, rfl, _, rfl, rc1, _, rfl, .inr (same_sqt (sv.trans lp.s) R1.at_), _, _, rfl, rfl, _, rfl, 1, rfl, rM, _, -1, _, rfl, rfl, SqL.of fM, hat, (by show 2 ≤ sizeLine; decide), fun p np => ⟨Nat.zero_le _, fun n nn => ⟨(by show 3 ≤ sizeLine; decide), fun a na => ⟨?_, fun rc' nc => ?_⟩⟩⟩⟩
    · rw [List.length_append, List.length_map, al]
      exact Nat.le_trans (show (gs1 ++ more).length + 1 ≤ 1000 by omega) (by decide)
    · have e1 : ((as1.map V.ref).length : Int) - 1 = ((gs1.length - 1 : Nat) : Int) := by
        rw [List.length_map]
        omega
      have e0 : (HO.tup [(fun i j : Int => V.int (i - j)) (((as1.map V.ref).length : Nat) : Int) 1, .int (j : Nat)]) = HO.tup [.int ((gs1.length - 1 : Nat) : Int), .int (j : Nat)] := by
        show HO.tup [.int ((((as1.map V.ref).length : Nat) : Int) - 1), .int (j : Nat)] = _
        rw [e1]
      rw [e0] at nn na nc ⊢
      have s1 := same_upd (o := .tup [.int ((gs1.length - 1 : Nat) : Int), .int (j : Nat)]) np
      have s2 := same_upd (o := .tup []) nn
      have s3 := same_upd (o := .tup [.str (mk 0 0).sign, .ref p, .ref n]) na
      have s4 := same_upd (o := .tup ((as1 ++ asM).map V.ref ++ [.ref a])) nc
      have sA := s1.trans (s2.trans (s3.trans s4))
      have sW : Same (W3 H Hv rS rK rM G) (ov H Hv (upd (upd (upd (upd G p (.tup [.int ((gs1.length - 1 : Nat) : Int), .int (j : Nat)])) n (.tup [])) a (.tup [.str (mk 0 0).sign, .ref p, .ref n])) rc' (.tup ((as1 ++ asM).map V.ref ++ [.ref a])))) := w3_sub.trans (ov_more sA)
      have np0 : H p = none := lp.s.free np
      have nn0 : H n = none := (lp.s.trans s1).free nn
      have na0 : H a = none := (lp.s.trans (s1.trans s2)).free na
      have nc0 : H rc' = none := (lp.s.trans (s1.trans (s2.trans s3))).free nc
      have ask := lp.mg.asks
      rw [← al2, R2.len, List.take_length] at ask
      obtain ⟨k1, k2, k3, k4⟩ := hmk (gs1.length - 1) j
      have st : StepX K (ov H Hv (upd (upd (upd (upd G p (.tup [.int ((gs1.length - 1 : Nat) : Int), .int (j : Nat)])) n (.tup [])) a (.tup [.str (mk 0 0).sign, .ref p, .ref n])) rc' (.tup ((as1 ++ asM).map V.ref ++ [.ref a])))) a (mk (gs1.length - 1) j) := by
        refine ⟨p, n, ?_, ?_, ?_⟩
        · rw [k1]
          exact SqT.of (by rw [ov_new na0]; exact s4 _ _ upd_same)
        · rw [k2]
          exact SqT.of (by rw [ov_new np0]; exact (s2.trans (s3.trans s4)) _ _ upd_same)
        · rw [k3]
          exact SqT.of (by rw [ov_new nn0]; exact (s3.trans s4) _ _ upd_same)
      refine q _ rc' ((as1 ++ asM) ++ [a]) more j (lp.s.trans sA) ?_ ask ml jl jp
      refine recx_snoc al (fun t g a e1 e2 => (lp.st t g a e1 e2).up sW) (fun g hg => ?_) lp.mg.part ?_ st k4 fun k hk => ?_
      · rcases List.mem_append.mp hg with z | z
        · exact R1.few g z
        · exact lp.mg.few g z
      · rw [List.map_append (l₁ := as1 ++ asM)]
        exact SqT.of (by rw [ov_new nc0, upd_same]; rfl)
      · rw [k2] at hk
        simp only [List.mem_cons, List.not_mem_nil, or_false] at hk
        rcases hk with rfl | rfl
        · rw [List.length_append]
          omega
        · exact jl
end
end TX
namespace TX
open PySem PySem.Spec PyProof.Rows L2
/-! ### combined, is_in_step -/
def Sx.comb : Sx → Prop
  | .texts _ _ => False
  | .lists _ => False
  | .nested _ => False
  | .nothing => False
  | _ => True
def spComb (K : PySem.W.Frag) : Sp := fun vs H Q _ => ∃ (g : Sx) (aT : Addr) (told : Nat → Bool), vs = [.str g.sign, .ref aT] ∧ SqL K H aT (g.parts.map fun k => V.bl (told k)) ∧ g.comb ∧ Q (.bl (g.inLk 0 told .non)) H
theorem bne_bl (a b : Bool) : (!decide (V.bl a = V.bl b)) = (a != b) := by
  cases a <;> cases b <;> rfl
section
variable {P : Program} {w : World} {K : PySem.W.Frag} {mg : Str → Option Value} {base : Heap}
theorem scComb : FnScope ["sign", "told"] ["sign", "told"] (defScope s_combined) := ⟨rfl, rfl, rfl, by decide +kernel, rfl, by decide +kernel, by decide +kernel⟩
theorem ok_comb {f : Addr} {fd : FuncData} (F : Fun K "combined" "combined" s_combined f fd) : FnOk P w K mg base CX0 1 f fd ["sign", "told"] (spComb K) := by
  refine F.ok scComb (fun vs H Q E h => ?_) (fun cdv A outer s H vs Q E hr h => ?_)
  · obtain ⟨g, aT, told, rfl, _⟩ := h
    rfl
  · obtain ⟨g, aT, told, rfl, hT, hc, q⟩ := h
    refine ⟨_, pss_cons (ps_if (pt_cmpR op_eq (pv 0) pe_str (nomark _)) (pss_one (ps_ret (pe_or (pe_ix ix_list (pv 1) pe_int (fun _ _ => rfl)) (pe_one (pe_ix ix_list (pv 1) pe_int (fun _ _ => rfl)))))) pss_nil) <| 
      pss_cons (ps_if (pt_cmpR op_eq (pv 0) pe_str (nomark _)) (pss_one (ps_ret (pe_and (pe_ix ix_list (pv 1) pe_int (fun _ _ => rfl)) (pe_one (pe_ix ix_list (pv 1) pe_int (fun _ _ => rfl)))))) pss_nil) <| 
      pss_cons (ps_if (pt_cmpR op_eq (pv 0) pe_str (nomark _)) (pss_one (ps_ret (pe_and (pe_ix ix_list (pv 1) pe_int (fun _ _ => rfl)) (pe_one (pe_not (pe_ix ix_list (pv 1) pe_int (fun _ _ => rfl))))))) pss_nil) <| 
      pss_cons (ps_if (pt_cmpR op_eq (pv 0) pe_str (nomark _)) (pss_one (ps_ret (pe_cmpR op_ne (pe_ix ix_list (pv 1) pe_int (fun _ _ => rfl)) (pe_ix ix_list (pv 1) pe_int (fun _ _ => rfl)) (nomark _)))) pss_nil) <| 
      pss_cons (ps_if (pt_cmpR op_eq (pv 0) pe_str (nomark _)) (pss_one (ps_ret (pe_not (pe_ix ix_list (pv 1) pe_int (fun _ _ => rfl))))) pss_nil) <|
      pss_one (ps_ret (pe_cmpR op_eq (pv 0) pe_str (nomark _))), ?_⟩
    cases g with
    | either j k =>
      refine ⟨_, rfl, rfl, _, rfl, sT rfl ⟨_, rfl, aT, _, 0, _, rfl, rfl, hT, atI_nat (j := 0) rfl, _, rfl, ?_⟩⟩
      simp only [Sx.inLk] at q
      cases e : told j with
      | true =>
        rw [e] at q
        exact iteT q
      | false =>
        rw [e] at q
        exact iteF ⟨_, rfl, aT, _, 1, _, rfl, rfl, hT, atI_nat (j := 1) rfl, q⟩
    | both j k =>
      refine ⟨_, rfl, rfl, _, rfl, sF (by simp only [Sx.sign]; decide +kernel) ⟨_, rfl, rfl, _, rfl, sT rfl ⟨_, rfl, aT, _, 0, _, rfl, rfl, hT, atI_nat (j := 0) rfl, _, rfl, ?_⟩⟩⟩
      simp only [Sx.inLk] at q
      cases e : told j with
      | true =>
        rw [e] at q
        exact iteT ⟨_, rfl, aT, _, 1, _, rfl, rfl, hT, atI_nat (j := 1) rfl, q⟩
      | false =>
        rw [e] at q
        exact iteF q
    | minus j k =>
      refine ⟨_, rfl, rfl, _, rfl, sF (by simp only [Sx.sign]; decide +kernel) ⟨_, rfl, rfl, _, rfl, sF (by simp only [Sx.sign]; decide +kernel) ⟨_, rfl, rfl, _, rfl, sT rfl ⟨_, rfl, aT, _, 0, _, rfl, rfl, hT, atI_nat (j := 0) rfl, _, rfl, ?_⟩⟩⟩⟩
      simp only [Sx.inLk] at q
      cases e : told j with
      | true =>
        rw [e] at q
        exact iteT ⟨_, rfl, aT, _, 1, _, rfl, rfl, hT, atI_nat (j := 1) rfl, _, rfl, q⟩
      | false =>
        rw [e] at q
        exact iteF q
    | differ j k =>
      refine ⟨_, rfl, rfl, _, rfl, sF (by simp only [Sx.sign]; decide +kernel) ⟨_, rfl, rfl, _, rfl, sF (by simp only [Sx.sign]; decide +kernel) ⟨_, rfl, rfl, _, rfl, sF (by simp only [Sx.sign]; decide +kernel) ⟨_, rfl, rfl, _, rfl, sT rfl ⟨_, rfl, aT, _, 0, _, rfl, rfl, hT, atI_nat (j := 0) rfl, _, rfl, aT, _, 1, _, rfl, rfl, hT, atI_nat (j := 1) rfl, rfl, ?_⟩⟩⟩⟩⟩
      rw [bne_bl]
      exact q
    | outside k =>
      exact ⟨_, rfl, rfl, _, rfl, sF (by simp only [Sx.sign]; decide +kernel) ⟨_, rfl, rfl, _, rfl, sF (by simp only [Sx.sign]; decide +kernel) ⟨_, rfl, rfl, _, rfl, sF (by simp only [Sx.sign]; decide +kernel) ⟨_, rfl, rfl, _, rfl, sF (by simp only [Sx.sign]; decide +kernel) ⟨_, rfl, rfl, _, rfl, sT rfl ⟨_, rfl, aT, _, 0, _, rfl, rfl, hT, atI_nat (j := 0) rfl, _, rfl, q⟩⟩⟩⟩⟩⟩
    | every =>
      exact ⟨_, rfl, rfl, _, rfl, sF (by simp only [Sx.sign]; decide +kernel) ⟨_, rfl, rfl, _, rfl, sF (by simp only [Sx.sign]; decide +kernel) ⟨_, rfl, rfl, _, rfl, sF (by simp only [Sx.sign]; decide +kernel) ⟨_, rfl, rfl, _, rfl, sF (by simp only [Sx.sign]; decide +kernel) ⟨_, rfl, rfl, _, rfl, sF (by simp only [Sx.sign]; decide +kernel) ⟨_, rfl, rfl, q⟩⟩⟩⟩⟩⟩
    | never =>
      refine ⟨_, rfl, rfl, _, rfl, sF (by simp only [Sx.sign]; decide +kernel) ⟨_, rfl, rfl, _, rfl, sF (by simp only [Sx.sign]; decide +kernel) ⟨_, rfl, rfl, _, rfl, sF (by simp only [Sx.sign]; decide +kernel) ⟨_, rfl, rfl, _, rfl, sF (by simp only [Sx.sign]; decide +kernel) ⟨_, rfl, rfl, _, rfl, sF (by simp only [Sx.sign]; decide +kernel) ⟨_, rfl, rfl, ?_⟩⟩⟩⟩⟩⟩
      rw [decide_eq_false (show ¬ V.str (Sx.sign Sx.never) = V.str "every" from fun z => absurd (V.str.inj z) (by simp only [Sx.sign]; decide +kernel))]
      exact q
    | _ => exact hc.elim
end
end TX
namespace TX
open PySem PySem.Spec PyProof.Rows L2
/-! ### is_in_step -/
def Lk.kind : Lk → Str
  | .non => "nothing"
  | .txt _ => "text"
  | .lst _ => "list"
def LkAt (K : PySem.W.Frag) (H : Hp) (lk : Lk) (u : V) : Prop := match lk with
  | .non => u = .int 0
  | .txt m => u = .int ((m : Nat) : Int)
  | .lst sh => ∃ b, u = .ref b ∧ SqT K H b (sh.map fun (n : Nat) => V.int n)
theorem nums_at {K : PySem.W.Frag} {H : Hp} : ∀ {sh : List Nat} {us : List V}, DpAll K H us (keyDs (numsK sh)) → us = sh.map fun (n : Nat) => V.int n
  | [], us, h => by
    simp only [numsK, List.map_nil, keyDs] at h
    cases h
    rfl
  | n :: sh, us, h => by
    simp only [numsK, List.map_cons, keyDs, keyD] at h
    cases h with
    | cons h1 h2 =>
      cases h1
      rw [nums_at (sh := sh) h2]
      rfl
theorem lk_at {K : PySem.W.Frag} {H : Hp} {a : Addr} {lk : Lk} (h : Dp K H (.ref a) (keyD lk.key)) : ∃ u, SqT K H a [.str lk.kind, u] ∧ LkAt K H lk u := by
  cases lk with
  | non =>
    simp only [Lk.key, keyD, keyDs] at h
    cases h with
    | tup h1 h2 =>
      cases h2 with
      | cons h3 h4 =>
        cases h3
        cases h4 with
        | cons h5 h6 =>
          cases h5
          cases h6
          exact ⟨_, h1, rfl⟩
  | txt m =>
    simp only [Lk.key, keyD, keyDs] at h
    cases h with
    | tup h1 h2 =>
      cases h2 with
      | cons h3 h4 =>
        cases h3
        cases h4 with
        | cons h5 h6 =>
          cases h5
          cases h6
          exact ⟨_, h1, rfl⟩
  | lst sh =>
    simp only [Lk.key, keyD, keyDs] at h
    cases h with
    | tup h1 h2 =>
      cases h2 with
      | cons h3 h4 =>
        cases h3
        cases h4 with
        | cons h5 h6 =>
          cases h6
          cases h5 with
          | tup h7 h8 =>
            cases nums_at h8
            exact ⟨_, h1, _, rfl, h7⟩
theorem at_lk {K : PySem.W.Frag} {H : Hp} {a : Addr} {lk : Lk} {u : V} (h : SqT K H a [.str lk.kind, u]) (hu : LkAt K H lk u) : Dp K H (.ref a) (keyD lk.key) := by
  have nums : ∀ sh : List Nat, DpAll K H (sh.map fun (n : Nat) => V.int n) (keyDs (numsK sh)) := by
    intro sh
    induction sh with
    | nil =>
      simp only [numsK, List.map_nil, keyDs]
      exact .nil
    | cons n sh ih =>
      simp only [numsK, List.map_cons, keyDs, keyD]
      exact .cons (.int _) ih
  cases lk with
  | non =>
    cases (show u = _ from hu)
    simp only [Lk.key, keyD, keyDs]
    exact .tup h (.cons (.str _) (.cons (.int _) .nil))
  | txt m =>
    cases (show u = _ from hu)
    simp only [Lk.key, keyD, keyDs]
    exact .tup h (.cons (.str _) (.cons (.int _) .nil))
  | lst sh =>
    obtain ⟨b, rfl, hb⟩ := hu
    simp only [Lk.key, keyD, keyDs]
    exact .tup h (.cons (.str _) (.cons (.tup hb (nums sh)) .nil))
theorem Lk.key_dep (lk : Lk) : lk.key.depth ≤ 8 := by
  have nums : ∀ sh : List Nat, NestedKey.depthAll (numsK sh) = 0 := by
    intro sh
    induction sh with
    | nil => rfl
    | cons n sh ih =>
      simp only [numsK, List.map_cons, NestedKey.depthAll, NestedKey.depth] at *
      omega
  cases lk with
  | non => simp only [Lk.key, NestedKey.depth, NestedKey.depthAll]; omega
  | txt m => simp only [Lk.key, NestedKey.depth, NestedKey.depthAll]; omega
  | lst sh =>
    simp only [Lk.key, NestedKey.depth, NestedKey.depthAll, nums]
    omega
theorem Lk.kind_txt (lk : Lk) : decide (V.str lk.kind = V.str "text") = (match lk with | .txt _ => true | _ => false) := by
  cases lk with
  | txt m => exact decide_eq_true rfl
  | non => exact decide_eq_false fun z => absurd (V.str.inj z) (by simp only [Lk.kind]; decide +kernel)
  | lst sh => exact decide_eq_false fun z => absurd (V.str.inj z) (by simp only [Lk.kind]; decide +kernel)
theorem Lk.kind_lst (lk : Lk) : decide (V.str lk.kind = V.str "list") = (match lk with | .lst _ => true | _ => false) := by
  cases lk with
  | lst m => exact decide_eq_true rfl
  | non => exact decide_eq_false fun z => absurd (V.str.inj z) (by simp only [Lk.kind]; decide +kernel)
  | txt sh => exact decide_eq_false fun z => absurd (V.str.inj z) (by simp only [Lk.kind]; decide +kernel)
theorem Lk.kind_non (lk : Lk) : decide (V.str lk.kind = V.str "nothing") = (match lk with | .non => true | _ => false) := by
  cases lk with
  | non => exact decide_eq_true rfl
  | lst m => exact decide_eq_false fun z => absurd (V.str.inj z) (by simp only [Lk.kind]; decide +kernel)
  | txt sh => exact decide_eq_false fun z => absurd (V.str.inj z) (by simp only [Lk.kind]; decide +kernel)
theorem dec_nat (a b : Nat) : decide ((a : Int) ≤ (b : Int)) = decide (a ≤ b) := by
  congr 1
  apply propext
  omega
def spInStep (K : PySem.W.Frag) : Sp := fun vs H Q _ => ∃ (a : Addr) (n : Nat) (aT aL : Addr) (g : Sx) (told : Nat → Bool) (lk : Lk), vs = [.ref a, .int (n : Nat), .ref aT, .ref aL] ∧ StepX K H a g ∧ SqL K H aT (g.parts.map fun k => V.bl (told k)) ∧ Dp K H (.ref aL) (keyD lk.key) ∧ Q (.bl (g.inLk n told lk)) H
section
variable {P : Program} {w : World} {K : PySem.W.Frag} {mg : Str → Option Value} {base : Heap}
theorem scInStep : FnScope ["step", "number", "told", "look", "sign", "parts", "numbers", "kind", "seen", "least", "most"] ["step", "number", "told", "look"] (defScope s_is_in_step) := ⟨rfl, rfl, rfl, by decide +kernel, rfl, by decide +kernel, by decide +kernel⟩
theorem ok_inStep {f fC : Addr} {fd dC : FuncData} (F : Fun K "is_in_step" "is_in_step" s_is_in_step f fd) (GC : FnOk P w K mg base CX0 1 fC dC ["sign", "told"] (spComb K)) (gC : mg "combined" = some (.ref fC)) (kC : PySem.W.keepIn K (.ref fC) = true) (bC : Binds K dC ["sign", "told"] []) : FnOk P w K mg base CX0 2 f fd ["step", "number", "told", "look"] (spInStep K) := by
  refine F.ok scInStep (fun vs H Q E h => ?_) (fun cdv A outer s H vs Q E hr h => ?_)
  · obtain ⟨a, n, aT, aL, g, told, lk, rfl, _⟩ := h
    rfl
  · obtain ⟨a, n, aT, aL, g, told, lk, rfl, hs, hT, hL, q⟩ := h
    obtain ⟨p, qn, h1, h2, h3⟩ := hs
    obtain ⟨u, hk, hu⟩ := lk_at hL
    refine ⟨_, pss_cons (ps_asg (pv 0) (pg_tup rfl (pgs_cons (pg_name (i := 4) scInStep.nd rfl (.inl rfl)) (pgs_cons (pg_name (i := 5) scInStep.nd rfl (.inl rfl)) (pgs_cons (pg_name (i := 6) scInStep.nd rfl (.inl rfl)) pgs_nil))))) <|
      pss_cons (ps_asg (pv 3) (pg_tup rfl (pgs_cons (pg_name (i := 7) scInStep.nd rfl (.inl rfl)) (pgs_cons (pg_name (i := 8) scInStep.nd rfl (.inl rfl)) pgs_nil)))) <|
      pss_cons (ps_if (pt_cmpR op_eq (pv 4) pe_str (nomark _)) (pss_cons (ps_asg (pv 6) (pg_tup rfl (pgs_cons (pg_name (i := 9) scInStep.nd rfl (.inl rfl)) (pgs_cons (pg_name (i := 10) scInStep.nd rfl (.inl rfl)) pgs_nil)))) <|
        pss_one (ps_ret (pe_and (pe_cmpR op_eq (pv 7) pe_str (nomark _)) (pe_and (pe_cmpR op_le (pv 9) (pv 8) (nomark _)) (pe_one (pe_or (pe_cmp (pc_isN (pv 10))) (pe_one (pe_cmpR op_le (pv 8) (pv 10) (nomark _))))))))) pss_nil) <|
      pss_cons (ps_if (pt_cmpR op_eq (pv 4) pe_str (nomark _)) (pss_one (ps_ret (pe_and (pe_cmpR op_eq (pv 7) pe_str (nomark _)) (pe_one (pe_cmpR op_in_seq (pe_ix ix_tup (pv 5) pe_int (fun _ _ => rfl)) (pv 8) (by with_unfolding_all rfl)))))) pss_nil) <|
      pss_cons (ps_if (pt_cmpR op_eq (pv 4) pe_str (nomark _)) (pss_one (ps_ret (pe_or (pe_ix ix_list (pv 2) pe_int (fun _ _ => rfl)) (pe_one (pe_and (pe_cmpR op_eq (pv 7) pe_str (nomark _)) (pe_one (pe_cmpR op_in_seq (pv 1) (pv 8) (by with_unfolding_all rfl)))))))) pss_nil) <|
      pss_cons (ps_if (pt_cmpR op_eq (pv 4) pe_str (nomark _)) (pss_one (ps_ret (pe_cmpR op_eq (pv 7) pe_str (nomark _)))) pss_nil) <|
      pss_one (ps_ret (pe_call GC hr (by rfl) gC kC bC .nil pass0 (pa_cons (pv 4) (pa_cons (pv 2) pa_nil)))), ?_⟩
    refine ⟨_, rfl, a, _, rfl, h1, rfl, _, _, rfl, _, _, rfl, _, _, rfl, rfl, _, rfl, aL, _, rfl, hk, rfl, _, _, rfl, _, _, rfl, rfl, ?_⟩
    cases g with
    | texts lo hi =>
      refine ⟨_, rfl, rfl, _, rfl, sT rfl ⟨_, rfl, qn, _, rfl, h3, rfl, _, _, rfl, _, _, rfl, rfl, _, rfl, rfl, _, rfl, ?_⟩⟩
      cases lk with
      | non => exact sF (by simp only [Lk.kind]; decide +kernel) q
      | lst sh => exact sF (by simp only [Lk.kind]; decide +kernel) q
      | txt m =>
        cases (show u = _ from hu)
        refine sT rfl ⟨_, rfl, _, rfl, _, _, rfl, rfl, _, rfl, ?_⟩
        simp only [Sx.inLk] at q
        show if decide ((lo : Int) ≤ (m : Int)) = true then _ else _
        rw [dec_nat]
        cases e : decide (lo ≤ m) with
        | false =>
          rw [e] at q
          exact iteF q
        | true =>
          rw [e] at q
          refine iteT ⟨_, rfl, _, rfl, ?_⟩
          cases hi with
          | none => exact iteT q
          | some h =>
            refine iteF ⟨_, rfl, _, rfl, _, _, rfl, rfl, ?_⟩
            show Q (.bl (decide ((m : Int) ≤ (h : Int)))) H
            rw [dec_nat]
            exact q
    | lists k =>
      refine ⟨_, rfl, rfl, _, rfl, sF (by simp only [Sx.sign]; decide +kernel) ⟨_, rfl, rfl, _, rfl, sT rfl ⟨_, rfl, rfl, _, rfl, ?_⟩⟩⟩
      cases lk with
      | non => exact sF (by simp only [Lk.kind]; decide +kernel) q
      | txt m => exact sF (by simp only [Lk.kind]; decide +kernel) q
      | lst sh =>
        obtain ⟨b, rfl, hb⟩ := hu
        refine sT rfl ⟨_, rfl, p, _, 0, .int (k : Nat), rfl, rfl, h2, atI_nat (j := 0) rfl, _, rfl, b, _, rfl, .inr hb, rfl, flat_nats sh, ?_⟩
        show Q (.bl (inV (.int (k : Nat)) (sh.map fun (n : Nat) => V.int n))) H
        rw [inV_nat]
        have e : (Sx.lists k).inLk n told (.lst sh) = decide (k ∈ sh) := by
          simp only [Sx.inLk, List.contains_eq_mem]
        rw [e] at q
        exact q
    | nested k =>
      refine ⟨_, rfl, rfl, _, rfl, sF (by simp only [Sx.sign]; decide +kernel) ⟨_, rfl, rfl, _, rfl, sF (by simp only [Sx.sign]; decide +kernel) ⟨_, rfl, rfl, _, rfl, sT rfl ⟨_, rfl, aT, _, 0, _, rfl, rfl, hT, atI_nat (j := 0) rfl, _, rfl, ?_⟩⟩⟩⟩
      simp only [Sx.inLk] at q
      cases e : told k with
      | true =>
        rw [e] at q
        exact iteT q
      | false =>
        rw [e] at q
        refine iteF ⟨_, rfl, rfl, _, rfl, ?_⟩
        cases lk with
        | non => exact sF (by simp only [Lk.kind]; decide +kernel) q
        | txt m => exact sF (by simp only [Lk.kind]; decide +kernel) q
        | lst sh =>
          obtain ⟨b, rfl, hb⟩ := hu
          refine sT rfl ⟨_, rfl, _, rfl, b, _, rfl, .inr hb, rfl, flat_nats sh, ?_⟩
          show Q (.bl (inV (.int (n : Nat)) (sh.map fun (n : Nat) => V.int n))) H
          rw [inV_nat]
          simp only [Bool.false_or, List.contains_eq_mem] at q
          exact q
    | nothing =>
      refine ⟨_, rfl, rfl, _, rfl, sF (by simp only [Sx.sign]; decide +kernel) ⟨_, rfl, rfl, _, rfl, sF (by simp only [Sx.sign]; decide +kernel) ⟨_, rfl, rfl, _, rfl, sF (by simp only [Sx.sign]; decide +kernel) ⟨_, rfl, rfl, _, rfl, sT rfl ⟨_, rfl, rfl, ?_⟩⟩⟩⟩⟩
      rw [Lk.kind_non]
      cases lk with
      | non => exact q
      | txt m => exact q
      | lst sh => exact q
    | every  =>
      exact ⟨_, rfl, rfl, _, rfl, sF (by simp only [Sx.sign]; decide +kernel) ⟨_, rfl, rfl, _, rfl, sF (by simp only [Sx.sign]; decide +kernel) ⟨_, rfl, rfl, _, rfl, sF (by simp only [Sx.sign]; decide +kernel) ⟨_, rfl, rfl, _, rfl, sF (by simp only [Sx.sign]; decide +kernel) ⟨_, rfl, _, rfl, (.every  : Sx), aT, told, rfl, hT, trivial, q⟩⟩⟩⟩⟩
    | never  =>
      exact ⟨_, rfl, rfl, _, rfl, sF (by simp only [Sx.sign]; decide +kernel) ⟨_, rfl, rfl, _, rfl, sF (by simp only [Sx.sign]; decide +kernel) ⟨_, rfl, rfl, _, rfl, sF (by simp only [Sx.sign]; decide +kernel) ⟨_, rfl, rfl, _, rfl, sF (by simp only [Sx.sign]; decide +kernel) ⟨_, rfl, _, rfl, (.never  : Sx), aT, told, rfl, hT, trivial, q⟩⟩⟩⟩⟩
    | outside k =>
      exact ⟨_, rfl, rfl, _, rfl, sF (by simp only [Sx.sign]; decide +kernel) ⟨_, rfl, rfl, _, rfl, sF (by simp only [Sx.sign]; decide +kernel) ⟨_, rfl, rfl, _, rfl, sF (by simp only [Sx.sign]; decide +kernel) ⟨_, rfl, rfl, _, rfl, sF (by simp only [Sx.sign]; decide +kernel) ⟨_, rfl, _, rfl, (.outside k : Sx), aT, told, rfl, hT, trivial, q⟩⟩⟩⟩⟩
    | either j k =>
      exact ⟨_, rfl, rfl, _, rfl, sF (by simp only [Sx.sign]; decide +kernel) ⟨_, rfl, rfl, _, rfl, sF (by simp only [Sx.sign]; decide +kernel) ⟨_, rfl, rfl, _, rfl, sF (by simp only [Sx.sign]; decide +kernel) ⟨_, rfl, rfl, _, rfl, sF (by simp only [Sx.sign]; decide +kernel) ⟨_, rfl, _, rfl, (.either j k : Sx), aT, told, rfl, hT, trivial, q⟩⟩⟩⟩⟩
    | both j k =>
      exact ⟨_, rfl, rfl, _, rfl, sF (by simp only [Sx.sign]; decide +kernel) ⟨_, rfl, rfl, _, rfl, sF (by simp only [Sx.sign]; decide +kernel) ⟨_, rfl, rfl, _, rfl, sF (by simp only [Sx.sign]; decide +kernel) ⟨_, rfl, rfl, _, rfl, sF (by simp only [Sx.sign]; decide +kernel) ⟨_, rfl, _, rfl, (.both j k : Sx), aT, told, rfl, hT, trivial, q⟩⟩⟩⟩⟩
    | minus j k =>
      exact ⟨_, rfl, rfl, _, rfl, sF (by simp only [Sx.sign]; decide +kernel) ⟨_, rfl, rfl, _, rfl, sF (by simp only [Sx.sign]; decide +kernel) ⟨_, rfl, rfl, _, rfl, sF (by simp only [Sx.sign]; decide +kernel) ⟨_, rfl, rfl, _, rfl, sF (by simp only [Sx.sign]; decide +kernel) ⟨_, rfl, _, rfl, (.minus j k : Sx), aT, told, rfl, hT, trivial, q⟩⟩⟩⟩⟩
    | differ j k =>
      exact ⟨_, rfl, rfl, _, rfl, sF (by simp only [Sx.sign]; decide +kernel) ⟨_, rfl, rfl, _, rfl, sF (by simp only [Sx.sign]; decide +kernel) ⟨_, rfl, rfl, _, rfl, sF (by simp only [Sx.sign]; decide +kernel) ⟨_, rfl, rfl, _, rfl, sF (by simp only [Sx.sign]; decide +kernel) ⟨_, rfl, _, rfl, (.differ j k : Sx), aT, told, rfl, hT, trivial, q⟩⟩⟩⟩⟩
end
end TX
namespace TX
open PySem PySem.Spec PyProof.Rows L2
/-! ### answers_to -/
theorem answersL_snoc (lk : Lk) : ∀ (gs : List Sx) (acc : List Bool) (g : Sx), answersL lk acc (gs ++ [g]) = answersL lk acc gs ++ [g.inLk (answersL lk acc gs).length (fun k => (answersL lk acc gs).getD k false) lk]
  | [], acc, g => rfl
  | h :: gs, acc, g => by
    simp only [List.cons_append, answersL]
    exact answersL_snoc lk gs _ g
theorem Sx.parts_len (g : Sx) : g.parts.length ≤ 2 := by cases g <;> simp [Sx.parts]
def spAnswers (K : PySem.W.Frag) : Sp := fun vs H Q _ => ∃ (rc aL : Addr) (as : List Addr) (gs : List Sx) (lk : Lk), vs = [.ref rc, .ref aL] ∧ RecX K H rc as gs ∧ Dp K H (.ref aL) (keyD lk.key) ∧ gs.length ≤ 600 ∧ ∀ (H' : Hp) (L : Addr), Same H H' → H' L = some (.lst ((answersL lk [] gs).map V.bl)) → H L = none → Q (.ref L) H'
section
variable {P : Program} {w : World} {K : PySem.W.Frag} {mg : Str → Option Value} {base : Heap}
theorem scAnswers : FnScope ["recipe", "look", "answers", "number", "step", "part"] ["recipe", "look"] (defScope s_answers_to) := ⟨rfl, rfl, rfl, by decide +kernel, rfl, by decide +kernel, by decide +kernel⟩
theorem ok_answers {f fI : Addr} {fd dI : FuncData} (F : Fun K "answers_to" "answers_to" s_answers_to f fd) (B : Nb mg) (GI : FnOk P w K mg base CX0 2 fI dI ["step", "number", "told", "look"] (spInStep K)) (gI : mg "is_in_step" = some (.ref fI)) (kI : PySem.W.keepIn K (.ref fI) = true) (bI : Binds K dI ["step", "number", "told", "look"] []) : FnOk P w K mg base CX0 3 f fd ["recipe", "look"] (spAnswers K) := by
  refine F.ok scAnswers (fun vs H Q E h => ?_) (fun cdv A outer s H vs Q E hr h => ?_)
  · obtain ⟨rc, aL, as, gs, lk, rfl, _⟩ := h
    rfl
  · obtain ⟨rc, aL, as, gs, lk, rfl, R, hL, hz, q⟩ := h
    refine ⟨_, pss_cons (ps_set (i := 2) scAnswers.nd rfl (.inr rfl) (pe_lst pa_nil)) <|
      pss_cons (ps_for PassesOwn.never rfl (pi_enumT (by rfl) B.enum (pa_cons (pv 0) pa_nil)) (pg_tup rfl (pgs_cons (pg_name (i := 3) scAnswers.nd rfl (.inl rfl)) (pgs_cons (pg_name (i := 4) scAnswers.nd rfl (.inl rfl)) pgs_nil)))
        (pss_one (ps_expr (pe_bm PySem.F.plainAttrs_list PySem.F.slot_list_append PySem.F.type_list_append mt_append (pv 2) (pa_cons (pe_call GI hr (by rfl) gI kI bI .nil pass0 (pa_cons (pv 4) (pa_cons (pv 3) (pa_cons
          (pe_lc (own := [("part", 5)]) (g := gName 5) (tt := tYes) (te := tOp (rIxL K) (tVar 2) (tVar 5)) rfl scAnswers.nd (pi_tup (pe_ix ix_tup (pv 4) pe_int (fun _ _ => rfl))) (blkOk_by (own := [("part", 5)]) (N := ["recipe", "look", "answers", "number", "step", "part"]) (sc := defScope s_answers_to) (by decide +kernel))
            (fun _ _ _ _ _ => pg_name (i := 5) scAnswers.nd rfl (Or.inl rfl)) (fun _ _ _ _ _ => pts_nil) (fun _ _ _ _ _ => pe_ix ix_list (pv 2) (pv 5) (fun _ _ => rfl))) (pa_cons (pv 1) pa_nil))))) pa_nil))))) <|
      pss_one (ps_ret (pv 2)), ?_⟩
    refine ⟨Nat.zero_le _, fun rA nA => ?_⟩
    have s1 := same_upd (o := .lst []) nA
    refine ⟨_, rfl, rc, as.map V.ref, rfl, same_sqt s1 R.at_, for_it walk_enumT (fun i σ G => ∃ (y3 y4 : Option V), σ = [some (.ref rc), some (.ref aL), some (.ref rA), y3, y4, none] ∧ Same H G ∧ G rA = some (.lst ((answersL lk [] (gs.take i)).map V.bl))) ⟨none, none, rfl, s1, upd_same⟩ (fun i σ G hi ⟨_, _, _, sm, _⟩ => same_sqt sm R.at_) ?_ ?_⟩
    · rintro i x σ G G' hi ⟨y3, y4, rfl, sG, fA⟩ ⟨T1, v, rfl, nT, rfl, hv⟩
      rw [List.length_map] at hi
      have ea := List.getElem?_eq_getElem hi
      have ev : v = .ref as[i] := by
        rw [List.getElem?_map, ea] at hv
        exact (Option.some.inj hv).symm
      subst ev
      have hig : i < gs.length := by have := R.len; omega
      have eg := List.getElem?_eq_getElem hig
      have st := R.step i _ _ eg ea
      have hp := R.part i _ eg
      have sT := same_upd (o := .tup [.int (i : Nat), .ref as[i]]) nT
      have sGT := sG.trans sT
      have fA' := sT _ _ fA
      have tk1 : gs.take (i + 1) = gs.take i ++ [gs[i]] := by
        rw [List.take_add_one, eg]
        rfl
      have al : (answersL lk [] (gs.take i)).length = i := by
        rw [answersL_len, List.length_take]
        simp
        omega
      have snoc := answersL_snoc lk (gs.take i) [] gs[i]
      rw [← tk1, al] at snoc
      generalize gs[i] = g at *
      generalize answersL lk [] (gs.take i) = acc at *
      obtain ⟨p, qn, h1, h2, h3⟩ := st
      refine ⟨T1, _, rfl, SqT.of upd_same, rfl, _, _, rfl, _, _, rfl, rfl, ?_⟩
      refine ⟨_, rfl, .inl ⟨rfl, _, SqL.of fA'⟩, _, rfl, _, rfl, _, rfl, as[i], _, 1, _, rfl, rfl, same_sqt sGT h1, atI_nat (j := 1) rfl, ?_⟩
      refine ⟨p, rfl, ⟨_, same_sqt sGT h2⟩, fun D nD => lc_tup (K := K) (a := p) (xs := g.parts.map fun (n : Nat) => V.int n) (fun j H' => H' D = some (.lst ((g.parts.take j).map fun k => V.bl (acc.getD k false))) ∧ Same (upd G T1 (.tup [.int (i : Nat), .ref as[i]])) H') ⟨upd_same, same_upd nD⟩ (fun j H' hj ⟨_, sm⟩ => same_sqt (sGT.trans sm) h2) ?_ ?_⟩
      · rintro j x H2 hx ⟨hD, sm⟩
        rw [List.getElem?_map] at hx
        cases ek : g.parts[j]? with
        | none => rw [ek] at hx; cases hx
        | some k =>
          rw [ek] at hx
          cases hx
          have kl := hp k (List.mem_of_getElem? ek)
          refine ⟨rfl, _, rfl, _, rfl, rA, _, _, _, rfl, rfl, SqL.of (sm _ _ fA'), atI_nat (j := k) (v := .bl (acc.getD k false)) ?_, _, hD, ?_, ?_, same_fresh nD sm⟩
          · rw [List.getElem?_map, List.getD_eq_getElem?_getD, List.getElem?_eq_getElem (by omega)]
            rfl
          · rw [List.length_map, List.length_take]
            exact Nat.lt_of_le_of_lt (show min j g.parts.length ≤ 2 from Nat.le_trans (Nat.min_le_right _ _) g.parts_len) (by decide)
          · rw [upd_same, List.take_add_one, ek]
            simp only [List.map_append, Option.toList_some, List.map_cons, List.map_nil]
      rintro H2 ⟨hD, sm⟩
      rw [List.length_map, List.take_length] at hD
      have sG2 := sGT.trans sm
      refine ⟨_, rfl, as[i], i, D, aL, g, fun k => acc.getD k false, lk, rfl, ⟨p, qn, same_sqt sG2 h1, same_sqt sG2 h2, same_sqt sG2 h3⟩, SqL.of hD, dp_same sG2 _ _ hL, ?_⟩
      refine ⟨rA, _, _, rfl, rfl, sm _ _ fA', Nat.lt_of_le_of_lt (show (acc.map V.bl).length ≤ 1000 by rw [List.length_map]; omega) (by decide), ?_⟩
      refine ⟨_, _, rfl, same_fresh nA sG2, ?_⟩
      rw [upd_same, snoc, List.map_append]
      rfl
    rintro σ G ⟨y3, y4, rfl, sG, fA⟩
    refine ⟨_, rfl, q G rA sG ?_ nA⟩
    rw [fA, List.length_map, R.len, List.take_length]
end
end TX
namespace TX
open PySem PySem.Spec PyProof.Rows L2
/-! ### set(list of ints), sorted(set) -/
theorem callType_init {prog : Program} {w : World} {A : Around} {E : Value → Shared → Prop} {s : Shared} {T newId initId : String} {args : List Value} {Q Q₁ : Value → Shared → Prop} (tc : TypeCalled T newId initId) (hc : checkTypeCall T { pos := args } = pure ())
    (hn : codeAny (model prog w) A.in1 (.call (.builtin newId) { pos := .type T :: args }) (wants Q₁ E) s)
    (hi : ∀ obj s₁, Q₁ obj s₁ → s₁.TypeIs obj T ∧ codeAny (model prog w) A.in1 (.call (.builtin initId) { pos := obj :: args }) (wants (fun r s₂ => r = .none ∧ Q obj s₂) E) s₁) : wpAny (model prog w) A (call (.type T) args) Q E s := by
  refine wpAny_call (codeAny_of_tree (wpAny_pure ⟨Code.quiet_builtin _ (by decide +kernel), codeAny_builtin F.entry_type_call ?_⟩))
  have hu : A.under (.builtin "type.__call__" { pos := .type T :: args, kw := [] }) = A.in1 := Around.under_plain (weight_type_call_type T args []) rfl
  show wpAny (model prog w) (A.under (.builtin "type.__call__" { pos := .type T :: args, kw := [] })) (Builtin.«type.__call__» ⟨.type T :: args, []⟩) _ _ s
  rw [hu]
  obtain ⟨c, tl, hm⟩ := tc.mro
  unfold Builtin.«type.__call__»
  simp only [tc.notType, tc.canCreate, hc, hm, tc.made, pure_bind, Bool.false_eq_true, if_false, List.isEmpty_cons]
  refine wpAny_bind (wpAny_holding ?_)
  refine wpAny_call (codeAny_mono hn fun r s1 h => ?_)
  rcases r with e | f
  · exact h
  · cases f with
    | ret v =>
      obtain ⟨ty, hi2⟩ := hi v s1 h
      refine wpAny_bind (wpAny_isInstance ty tc.sub ?_)
      simp only [Bool.not_true, Bool.false_eq_true, if_false]
      refine wpAny_bind (wpAny_holding ?_)
      unfold callSpecial?
      refine wpAny_bind (wpAny_specialOf ty tc.init.lookup ?_)
      refine wpAny_holding ?_
      simp only [tc.init.bind, pure_bind]
      refine wpAny_bind (wpAny_call (codeAny_mono hi2 fun r s2 h2 => ?_))
      rcases r with e | f
      · exact h2
      · cases f with
        | ret u =>
          obtain ⟨rfl, q⟩ := h2
          exact wpAny_pure (wpAny_pure q)
        | _ => exact h2.elim
    | _ => exact h.elim
theorem set_list_ints {P : Program} {w : World} {A : Around} {E : Value → Shared → Prop} {s : Shared} {l : Addr} {items : Array Value} (ns : List Int) {Q : Value → Shared → Prop} (hh : A.handled = none) (hl : s.heap.IsList l items) (hi : IntsAre items.toList ns) (hz : ns.length + 1 < scanBound)
    (q : ∀ (h' : Heap) (tk c : Nat), SetR w h' s.heap.objs.size (fun j => decide (j ∈ ns)) c → c ≤ ns.length → (∀ b o, s.heap.get? b = some o → h'.get? b = some o) → Q (.ref s.heap.objs.size) { s with heap := h', toks := tk }) :
    wpAny (model P w) A (call (.type "set") [.ref l]) Q E s := by
  refine callType_init F.called_set (F.typeCall_set_1 _) (Q₁ := fun v s1 => v = .ref s.heap.objs.size ∧ s1 = { s with heap := s.heap.push { cls := .type "set", data := .set #[] 0 (SetTable.fresh 0 0 !w.params.followText "set-order") } }) (code_set_led1 (.ref l) ⟨rfl, rfl⟩) ?_
  rintro obj s1 ⟨rfl, rfl⟩
  have hn : (s.heap.push { cls := .type "set", data := .set #[] 0 (SetTable.fresh 0 0 !w.params.followText "set-order") }).get? s.heap.objs.size = some { cls := .type "set", data := .set #[] 0 (SetTable.fresh 0 0 !w.params.followText "set-order") } := Heap.get?_push_size _ rfl
  have ty : (Shared.TypeIs { s with heap := s.heap.push { cls := .type "set", data := .set #[] 0 (SetTable.fresh 0 0 !w.params.followText "set-order") } } (.ref s.heap.objs.size) "set") := ⟨_, hn, rfl⟩
  have hl' := hl.push (o := { cls := .type "set", data := .set #[] 0 (SetTable.fresh 0 0 !w.params.followText "set-order") })
  have lne : l ≠ s.heap.objs.size := by
    obtain ⟨o, g, _⟩ := hl
    exact Nat.ne_of_lt (Heap.lt_size g)
  have old : ∀ b o, s.heap.get? b = some o → (s.heap.push { cls := .type "set", data := .set #[] 0 (SetTable.fresh 0 0 !w.params.followText "set-order") }).get? b = some o := fun b o e => Heap.get?_push_of_some _ e
  generalize hh1 : s.heap.push { cls := .type "set", data := .set #[] 0 (SetTable.fresh 0 0 !w.params.followText "set-order") } = h1 at *
  have hz1 : h1.objs.size = s.heap.objs.size + 1 := by rw [← hh1]; exact Heap.size_push _ _
  refine ⟨ty, codeAny_call_builtin (by decide +kernel) F.entry_set_init (check_set_init_1 ty ?_)⟩
  unfold Builtin.«set.__init__»
  obtain ⟨⟨cls, dd, data, sl⟩, gl, hc, hd⟩ := id hl'
  simp only at hc hd
  subst hc
  have f1 := F.sub_list_set
  have f2 := F.sub_list_frozenset
  have tl : (Shared.TypeIs { s with heap := h1 } (.ref l) "list") := ⟨_, gl, rfl⟩
  have qb : ∀ {A' : Around} {E' : Value → Shared → Prop} {Q' : Value → Shared → Prop}, Q' (.ref h1.objs.size) { s with heap := h1.push { cls := .type "list_iterator", data := .fields #[.ref l, .int 0 0] } } → wpAny (model P w) A' (pyIter (.ref l)) Q' E' { s with heap := h1 } := fun q => wpAny_pyIter_list hl' q
  wp_walk using qb
  have lh : l < h1.objs.size := Heap.lt_size gl
  have sh : s.heap.objs.size < h1.objs.size := by omega
  have sz : items.size = ns.length := by rw [← hi.length, Array.length_toList]
  refine set_update_ints (P := P) (w := w) (A := A.in1.in1) (Walks.list (prog := P) (w := w) (A := A.in1.in1.in1) hh h1.objs.size l (Nat.ne_of_lt lh) items).toS s.heap.objs.size ?_ ns sz hz (fun i v hv => ?_) items.size 0 _ (Nat.sub_zero _) (Nat.zero_le _) ⟨?_, hl'.push _⟩ ⟨0, Nat.le_refl _, setR_new_at (Heap.get?_push_of_some _ hn)⟩ fun s' c mv hc2 hS => ?_
  · simp only [List.mem_cons, List.not_mem_nil, or_false, not_or]
    exact ⟨Nat.ne_of_lt sh, fun z => lne z.symm⟩
  · have hv2 : items.toList[i]? = some v := by simpa using hv
    have il : i < ns.length := by
      have := (Array.getElem?_eq_some_iff.mp hv).1
      omega
    obtain ⟨t, e⟩ := IntsAre.int_at hi i v hv2
    refine ⟨ns.getD i 0, t, ?_, e⟩
    rw [List.getD_eq_getElem?_getD, List.getElem?_eq_getElem il]
    rfl
  · exact ⟨_, Heap.get?_push_size _ rfl, rfl, rfl⟩
  · obtain ⟨h', g', d', t', o'⟩ := s'
    have e1 := mv.gens
    have e2 := mv.drawn
    have e3 := mv.os
    simp only at e1 e2 e3
    subst e1 e2 e3
    refine wpAny_pure (wpAny_pure ⟨rfl, q h' t' c hS (by omega) fun b o e => mv.heap b o ?_ (Heap.get?_push_of_some _ (old b o e))⟩)
    have hb := Heap.lt_size e
    simp only [List.mem_cons, List.not_mem_nil, or_false, not_or]
    exact ⟨Nat.ne_of_lt hb, Nat.ne_of_lt (Nat.lt_trans hb sh)⟩
theorem ints_vals : ∀ {us : List Value} {ns : List Int}, IntsAre us ns → Vals (ns.map V.int) us
  | _, _, .nil => .nil
  | _, _, .cons n t h => .cons ⟨t, rfl⟩ (ints_vals h)
/-- a set of ints -/
def seO (w : World) (a : Addr) (S : Int → Bool) (n : Nat) : HO := .ext fun h => SetR w h a S n
section
variable {X : Cx}
theorem call_set_l (hc : X.calm = true) : CallR X (.type "set") (fun vs H Q => ∃ (a : Addr) (ns : List Int), vs = [.ref a] ∧ SqL X.K H a (ns.map V.int) ∧ ns.length ≤ 1000 ∧ ∀ (p : Addr) (n : Nat), H p = none → n ≤ ns.length → Q (.ref p) (upd H p (seO X.w p (fun j => decide (j ∈ ns)) n))) := by
  intro pins s σ H vs us Q I r h
  obtain ⟨p, ns, rfl, hs, hz, q⟩ := h
  obtain ⟨its, rv, hl, _⟩ := I.list hs
  rw [Vals.ref1 r]
  have hi : IntsAre its ns := rv.ints
  refine set_list_ints ns (I.ok.hd hc) hl.isList (by simpa using hi) (Nat.lt_of_le_of_lt (Nat.add_le_add_right hz 1) (by decide)) fun h' tk c hS hc2 hk => ?_
  have hS2 := hS
  obtain ⟨o, es, ep, t, g, hS3⟩ := hS2
  exact ⟨.ref _, _, I.laid (t' := tk) (o := seO X.w s.heap.objs.size (fun j => decide (j ∈ ns)) c) hk (Nat.le_refl _) ⟨hS, ⟨o, g⟩, fun g1 g2 ⟨o', es', ep', t', e', r'⟩ kp => ⟨o', es', ep', t', kp _ e', r'⟩⟩, rfl, q _ c (I.hok.fresh (Nat.le_refl _)) hc2⟩
theorem call_sorted_se (hc : X.calm = true) : CallR X (.builtin "sorted") (fun vs H Q => ∃ (a : Addr) (S : Int → Bool) (n : Nat), vs = [.ref a] ∧ H a = some (seO X.w a S n) ∧ n < 64 ∧ ∀ (ns : List Int) (p : Addr), H p = none → ns.Pairwise (· < ·) → (∀ k, k ∈ ns ↔ S k = true) → Q (.ref p) (upd H p (.lst (ns.map V.int)))) := by
  intro pins s σ H vs us Q I r h
  obtain ⟨a, S, n, rfl, ha, hn, q⟩ := h
  rw [Vals.ref1 r]
  have hS := (show ObjOk X.prog X.w H s.heap a (seO X.w a S n) from I.hok a _ ha).1
  refine sorted_set hS (I.ok.hd hc) hn fun s' p out c ns hk hg ho hp hl hi hpw hm hlen => ?_
  obtain ⟨h', g', d', t', o'⟩ := s'
  simp only at hg ho hk hl
  subst hg ho
  have nf : H p = none := I.hok.fresh hp
  have lz : ns.length ≤ sizeLine := Nat.le_trans (Nat.le_of_lt (by omega : ns.length < 64)) (by decide)
  have I1 := I.laid (t' := t') (a := p) (o := .lst (ns.map V.int)) hk hp ⟨by rw [List.length_map]; exact lz, out.toList, c, ints_vals hi, by simpa [seqObj] using hl⟩
  exact ⟨.ref p, _, ⟨I1.ok, I1.os, I1.bare, I1.base, I1.loc, I1.cell, I1.free, I1.freeC, I1.pin, I1.hok, I1.len⟩, rfl, q ns p nf hpw hm⟩
end
end TX
namespace TX
open PySem PySem.Spec PyProof.Rows L2
/-! ### asked_steps -/
def listB : Sx → Option Nat
  | .lists k => some k
  | _ => none
def nestB : Sx → Bool
  | .nested _ => true
  | _ => false
def listsN2 (gs : List Sx) : List Nat := gs.filterMap listB
def isNest (gs : List Sx) (n : Nat) : Bool := match gs[n]? with
  | some g => nestB g
  | none => false
def nestsN (gs : List Sx) (i : Nat) : List Nat := (List.range i).filter (isNest gs)
def Askd (gs : List Sx) (k : Nat) : Prop := (∃ i : Nat, gs[i]? = some (.lists k)) ∨ ∃ j, gs[k]? = some (.nested j)
def askX (gs : List Sx) : Nat := (listsN2 gs).length + (nestsN gs gs.length).length
theorem askd_iff {gs : List Sx} {k : Nat} : k ∈ listsN2 gs ++ nestsN gs gs.length ↔ Askd gs k := by
  rw [List.mem_append]
  refine or_congr ?_ ?_
  · unfold listsN2
    rw [List.mem_filterMap]
    constructor
    · rintro ⟨g, hg, e⟩
      obtain ⟨i, hi⟩ := List.mem_iff_getElem?.mp hg
      cases g with
      | lists j =>
        cases e
        exact ⟨i, hi⟩
      | _ => cases e
    · rintro ⟨i, hi⟩
      exact ⟨_, List.mem_of_getElem? hi, rfl⟩
  · unfold nestsN isNest
    rw [List.mem_filter, List.mem_range]
    constructor
    · rintro ⟨hk, e⟩
      rw [List.getElem?_eq_getElem hk] at e
      cases eg : gs[k] with
      | nested j =>
        exact ⟨j, by rw [List.getElem?_eq_getElem hk, eg]⟩
      | _ =>
        rw [eg] at e
        cases e
    · rintro ⟨j, e⟩
      exact ⟨(List.getElem?_eq_some_iff.mp e).1, by rw [e]; rfl⟩
theorem RecX.at_i {K : PySem.W.Frag} {H : Hp} {rc : Addr} {as : List Addr} {gs : List Sx} (R : RecX K H rc as gs) {i : Nat} {x : V} (hx : (as.map V.ref)[i]? = some x) : ∃ a g, x = .ref a ∧ gs[i]? = some g ∧ StepX K H a g := by
  rw [List.getElem?_map] at hx
  cases ea : as[i]? with
  | none =>
    rw [ea] at hx
    cases hx
  | some a =>
    rw [ea] at hx
    cases hx
    have il := (List.getElem?_eq_some_iff.mp ea).1
    have eg := List.getElem?_eq_getElem (l := gs) (i := i) (by have := R.len; omega)
    exact ⟨a, _, rfl, eg, R.step i _ a eg ea⟩
theorem nodup_leN : ∀ (l U : List Nat), l.Nodup → (∀ x ∈ l, x ∈ U) → l.length ≤ U.length
  | [], _, _, _ => Nat.zero_le _
  | a :: l, U, hn, hs => by
    have ha := hs a List.mem_cons_self
    rw [List.nodup_cons] at hn
    have := nodup_leN l (U.erase a) hn.2 fun x hx => by
      have hne : x ≠ a := fun z => hn.1 (z ▸ hx)
      exact (List.mem_erase_of_ne hne).mpr (hs x (List.mem_cons_of_mem _ hx))
    rw [List.length_erase_of_mem ha] at this
    have := List.length_pos_of_mem ha
    simp only [List.length_cons]
    omega
structure Nr (mg : Str → Option Value) : Prop where
  set : mg "set" = none
  sorted : mg "sorted" = none
  max : mg "max" = none
  min : mg "min" = none
  range : mg "range" = none
  all : mg "all" = none
def spAskedS (K : PySem.W.Frag) : Sp := fun vs H Q _ => ∃ (rc : Addr) (as : List Addr) (gs : List Sx), vs = [.ref rc] ∧ RecX K H rc as gs ∧ gs.length ≤ 600 ∧ askX gs ≤ 60 ∧ ∀ (H' : Hp) (L : Addr) (ak : List Nat), Same H H' → H L = none → H' L = some (.tup (ak.map fun (n : Nat) => V.int n)) → ak.length ≤ 600 ∧ ak.length ≤ askX gs → ak.Nodup → (∀ k, k ∈ ak ↔ Askd gs k) → Q (.ref L) H'
theorem nat_list {ns : List Int} (h : ∀ k ∈ ns, 0 ≤ k) : ns = (ns.map Int.toNat).map fun (n : Nat) => (n : Int) := by
  rw [List.map_map]
  conv => lhs; rw [← List.map_id ns]
  exact List.map_congr_left fun k hk => by
    have := h k hk
    simp only [id, Function.comp]
    omega
section
variable {P : Program} {w : World} {K : PySem.W.Frag} {mg : Str → Option Value} {base : Heap}
theorem scAskedS : FnScope ["recipe", "lists", "nests", "sign", "parts", "_", "number", "step"] ["recipe"] (defScope s_asked_steps) := ⟨rfl, rfl, rfl, by decide +kernel, rfl, by decide +kernel, by decide +kernel⟩
theorem ok_askedS {f : Addr} {fd : FuncData} (F : Fun K "asked_steps" "asked_steps" s_asked_steps f fd) (T : Nm mg) (B : Nb mg) (N : Nr mg) : FnOk P w K mg base CX0 1 f fd ["recipe"] (spAskedS K) := by
  refine F.ok scAskedS (fun vs H Q E h => ?_) (fun cdv A outer s H vs Q E hr h => ?_)
  · obtain ⟨rc, as, gs, rfl, _⟩ := h
    rfl
  · obtain ⟨rc, as, gs, rfl, R, hz, ha, q⟩ := h
    refine ⟨_, pss_cons (ps_setLc (i := 1) (own := [("sign", 3), ("parts", 4), ("_", 5)]) (g := gTup K 3 (gCons (gName 3) (gCons (gName 4) (gCons (gName 5) gNil)))) (tt := tTest (tOp rEq (tVar 3) (tC (.str "lists")))) (te := tOp (rIxT K) (tVar 4) (tC (.int 0))) rfl scAskedS.nd rfl rfl (sw_true rfl rfl rfl (by decide +kernel)) (pi_tup (pv 0))
        (blkOk_by (own := [("sign", 3), ("parts", 4), ("_", 5)]) (N := ["recipe", "lists", "nests", "sign", "parts", "_", "number", "step"]) (sc := defScope s_asked_steps) (by decide +kernel))
        (fun _ _ _ _ _ => pg_tup rfl (pgs_cons (pg_name (i := 3) scAskedS.nd rfl (Or.inl rfl)) (pgs_cons (pg_name (i := 4) scAskedS.nd rfl (Or.inl rfl)) (pgs_cons (pg_name (i := 5) scAskedS.nd rfl (Or.inl rfl)) pgs_nil)))) (fun _ _ _ _ _ => pts_one (pt_cmpR op_eq (pv 3) pe_str (nomark _)))
        (fun _ _ _ _ _ => pe_ix ix_tup (pv 4) pe_int (fun _ _ => rfl))) <|
      pss_cons (ps_setLc (i := 2) (own := [("number", 6), ("step", 7)]) (g := gTup K 2 (gCons (gName 6) (gCons (gName 7) gNil))) (tt := tTest (tOp rEq (tOp (rIxT K) (tVar 7) (tC (.int 0))) (tC (.str "nested")))) (te := tVar 6) rfl scAskedS.nd rfl rfl (sw_true rfl rfl rfl (by decide +kernel)) (pi_enumT (by rfl) B.enum (pa_cons (pv 0) pa_nil))
        (blkOk_by (own := [("number", 6), ("step", 7)]) (N := ["recipe", "lists", "nests", "sign", "parts", "_", "number", "step"]) (sc := defScope s_asked_steps) (by decide +kernel))
        (fun _ _ _ _ _ => pg_tup rfl (pgs_cons (pg_name (i := 6) scAskedS.nd rfl (Or.inl rfl)) (pgs_cons (pg_name (i := 7) scAskedS.nd rfl (Or.inl rfl)) pgs_nil))) (fun _ _ _ _ _ => pts_one (pt_cmpR op_eq (pe_ix ix_tup (pv 7) pe_int (fun _ _ => rfl)) pe_str (nomark _)))
        (fun _ _ _ _ _ => pv 6)) <|
      pss_one (ps_ret (pe_callTy call_tuple_of (by rfl) T.tpl (by decide +kernel) (pa_cons (pe_callB (call_sorted_se rfl) (by rfl) N.sorted (by decide +kernel) (pa_cons (pe_callTy (call_set_l rfl) (by rfl) N.set (by decide +kernel) (pa_cons (pe_op op_cat (pv 1) (pv 2)) pa_nil)) pa_nil)) pa_nil))), ?_⟩
    have al := R.len
    refine ⟨_, rfl, rc, rfl, ⟨_, R.at_⟩, fun D nD => lc_tup (K := K) (a := rc) (xs := as.map V.ref) (fun i G => G D = some (.lst ((listsN2 (gs.take i)).map fun (n : Nat) => V.int n)) ∧ Same H G) ⟨upd_same, same_upd nD⟩ (fun i G hi ⟨_, sm⟩ => same_sqt sm R.at_) ?_ ?_⟩
    · rintro i x G hx ⟨hD, sm⟩
      obtain ⟨a, g, rfl, eg, st⟩ := R.at_i hx
      obtain ⟨p, qn, h1, h2, h3⟩ := st
      have tk1 : listsN2 (gs.take (i + 1)) = listsN2 (gs.take i) ++ (listB g).toList := by
        unfold listsN2
        rw [List.take_add_one, eg, List.filterMap_append]
        cases g <;> rfl
      have il : i < gs.length := (List.getElem?_eq_some_iff.mp eg).1
      have lle : (listsN2 (gs.take i)).length ≤ 600 := Nat.le_trans (List.length_filterMap_le _ _) (by rw [List.length_take]; omega)
      rw [tk1]
      refine ⟨a, _, rfl, same_sqt sm h1, rfl, _, _, rfl, _, _, rfl, _, _, rfl, rfl, rfl, _, rfl, rfl, _, rfl, ?_⟩
      cases g with
      | lists k =>
        refine sT rfl ⟨_, rfl, p, _, 0, .int (k : Nat), rfl, rfl, same_sqt sm h2, atI_nat (j := 0) rfl, _, hD, ?_, ?_, same_fresh nD sm⟩
        · rw [List.length_map]
          exact Nat.lt_of_le_of_lt lle (by decide)
        · rw [upd_same]
          simp only [listB, Option.toList_some, List.map_append, List.map_cons, List.map_nil]
      | _ =>
        refine sF (by simp only [Sx.sign]; decide +kernel) ⟨?_, sm⟩
        simp only [listB, Option.toList_none, List.append_nil]
        exact hD
    rintro G1 ⟨hD, sm⟩
    rw [List.length_map, al, List.take_length] at hD
    have ln1 : (listsN2 gs).length ≤ 60 := by unfold askX at ha; omega
    have ln2 : (nestsN gs gs.length).length ≤ 60 := by unfold askX at ha; omega
    refine ⟨_, rfl, rc, as.map V.ref, rfl, same_sqt sm R.at_, fun D2 nD2 => lc_it walk_enumT (fun i G => G D2 = some (.lst ((nestsN gs i).map fun (n : Nat) => V.int n)) ∧ Same G1 G) ⟨upd_same, same_upd nD2⟩ (fun i G hi ⟨_, sm2⟩ => same_sqt (sm.trans sm2) R.at_) ?_ ?_⟩
    · rintro i x G G' hi ⟨hD2, sm2⟩ ⟨T1, v, rfl, nT, rfl, hv⟩
      obtain ⟨a, g, rfl, eg, st⟩ := R.at_i hv
      obtain ⟨p, qn, h1, h2, h3⟩ := st
      have tk1 : nestsN gs (i + 1) = nestsN gs i ++ if nestB g then [i] else [] := by
        unfold nestsN
        rw [List.range_succ, List.filter_append]
        congr 1
        have e : isNest gs i = nestB g := by
          unfold isNest
          rw [eg]
        cases hb : nestB g with
        | true =>
          rw [hb] at e
          simp [e]
        | false =>
          rw [hb] at e
          simp [e]
      have il : i < gs.length := (List.getElem?_eq_some_iff.mp eg).1
      have lle : (nestsN gs i).length ≤ 600 := Nat.le_trans (List.length_filter_le _ _) (by rw [List.length_range]; omega)
      have sT1 := same_upd (o := .tup [.int (i : Nat), .ref a]) nT
      have sA := sm.trans (sm2.trans sT1)
      rw [tk1]
      refine ⟨T1, _, rfl, SqT.of upd_same, rfl, _, _, rfl, _, _, rfl, rfl, rfl, _, rfl, a, _, 0, _, rfl, rfl, same_sqt sA h1, atI_nat (j := 0) rfl, rfl, _, rfl, ?_⟩
      cases g with
      | nested k =>
        refine sT rfl ⟨_, rfl, _, sT1 _ _ hD2, ?_, ?_, same_fresh nD2 (sm2.trans sT1)⟩
        · rw [List.length_map]
          exact Nat.lt_of_le_of_lt lle (by decide)
        · rw [upd_same]
          simp only [nestB, if_true, List.map_append, List.map_cons, List.map_nil]
      | _ =>
        refine sF (by simp only [Sx.sign]; decide +kernel) ⟨?_, sm2.trans sT1⟩
        simp only [nestB, Bool.false_eq_true, if_false, List.append_nil]
        exact sT1 _ _ hD2
    rintro G2 ⟨hD2, sm2⟩
    rw [List.length_map, al] at hD2
    refine ⟨_, rfl, _, rfl, D, D2, _, _, rfl, rfl, sm2 _ _ hD, hD2, ?_, fun p np => ?_⟩
    · rw [List.length_map, List.length_map]
      exact Nat.le_trans (show _ ≤ 120 by omega) (by decide)
    have s3 := same_upd (o := .lst ((listsN2 gs).map (fun (n : Nat) => V.int n) ++ (nestsN gs gs.length).map fun (n : Nat) => V.int n)) np
    have ev : (listsN2 gs).map (fun (n : Nat) => V.int n) ++ (nestsN gs gs.length).map (fun (n : Nat) => V.int n) = ((listsN2 gs ++ nestsN gs gs.length).map fun (n : Nat) => (n : Int)).map V.int := by
      rw [List.map_map, List.map_append]
      rfl
    refine ⟨p, (listsN2 gs ++ nestsN gs gs.length).map fun (n : Nat) => (n : Int), rfl, ?_, ?_, fun p2 n np2 hn => ⟨p2, _, n, rfl, upd_same, ?_, fun ns p3 np3 hpw hm => ?_⟩⟩
    · rw [← ev]
      exact SqL.of upd_same
    · rw [List.length_map, List.length_append]
      omega
    · rw [List.length_map, List.length_append] at hn
      unfold askX at ha
      omega
    have k0 : ∀ k ∈ ns, 0 ≤ k := fun k hk => by
      have z := (hm k).mp hk
      rw [decide_eq_true_eq] at z
      obtain ⟨n, _, e⟩ := List.mem_map.mp z
      rw [← e]
      exact Int.natCast_nonneg n
    have en := nat_list k0
    generalize hak : ns.map Int.toNat = ak at en
    have ndi : ns.Nodup := hpw.imp fun h => Int.ne_of_lt h
    have mem : ∀ k, k ∈ ak ↔ Askd gs k := fun k => by
      rw [← askd_iff]
      have z := hm (k : Int)
      rw [decide_eq_true_eq, en] at z
      constructor
      · intro hk
        obtain ⟨n, hn, e⟩ := List.mem_map.mp (z.mp (List.mem_map.mpr ⟨k, hk, rfl⟩))
        have : n = k := by omega
        rw [← this]
        exact hn
      · intro hk
        obtain ⟨n, hn, e⟩ := List.mem_map.mp (z.mpr (List.mem_map.mpr ⟨k, hk, rfl⟩))
        have : n = k := by omega
        rw [← this]
        exact hn
    have nda : ak.Nodup := by
      rw [en, List.nodup_iff_pairwise_ne, List.pairwise_map] at ndi
      exact ndi.imp fun h e => h (by rw [e])
    have lena : ak.length ≤ 600 := by
      have h1 : ∀ k ∈ ak, k ∈ List.range gs.length := fun k hk => by
        rw [List.mem_range]
        rcases (mem k).mp hk with ⟨i, e⟩ | ⟨j, e⟩
        · have := R.part i _ e k (by simp [Sx.parts])
          have := (List.getElem?_eq_some_iff.mp e).1
          omega
        · exact (List.getElem?_eq_some_iff.mp e).1
      have := nodup_leN ak (List.range gs.length) nda h1
      rw [List.length_range] at this
      omega
    have lenx : ak.length ≤ askX gs := by
      have := nodup_leN ak (listsN2 gs ++ nestsN gs gs.length) nda fun k hk => askd_iff.mpr ((mem k).mp hk)
      rw [List.length_append] at this
      exact this
    have s5 := sm.trans (sm2.trans (s3.trans ((same_upd np2).trans (same_upd (o := .lst (ns.map V.int)) np3))))
    refine ⟨p3, ns.map V.int, rfl, .inl ⟨SqL.of upd_same, fun L nL => ?_⟩⟩
    refine q _ L ak (s5.trans (same_upd nL)) (s5.free nL) ?_ ⟨lena, lenx⟩ nda mem
    rw [upd_same, en, List.map_map]
    rfl
end
end TX
namespace TX
open PySem PySem.Spec PyProof.Rows L2
/-! ### turns of a walk, whatever each turn asks -/
theorem walk_turns {J : It} {n : Nat} {G : Hp → Prop} {Y : Nat → Hp → V → Hp → Prop} (w : Walk J n G Y) {Bd : (Hp → Prop) → V → Hp → Prop} {Hs : Hp} {Qd : Hp → Prop} (Pv : Nat → Hp → Prop) (h0 : Pv 0 Hs) (hG : ∀ i H, i ≤ n → Pv i H → G H)
    (hs : ∀ i x H H', i < n → Pv i H → Y i H x H' → Bd (Pv (i + 1)) x H') (hd : ∀ H, Pv n H → Qd H) :
    ∃ W : Nat → Nat → Hp → Prop, (∃ m, W 0 m Hs) ∧ ∀ i m H, W i m H → (J.stop i H ∧ Qd H) ∨ (J.go i H ∧ ∃ Nx : Hp → Prop, (∀ H', Nx H' → ∃ m', m' < m ∧ W (i + 1) m' H') ∧ ∀ x H', J.yld i H x H' → Bd Nx x H') := by
  refine ⟨fun i m H => m = n - i ∧ i ≤ n ∧ Pv i H, ⟨n, (Nat.sub_zero n).symm, Nat.zero_le n, h0⟩, fun i m H h => ?_⟩
  obtain ⟨rfl, hi, p⟩ := h
  have g := hG i H hi p
  rcases Nat.lt_or_eq_of_le hi with hl | he
  · exact .inr ⟨w.goes i H hl g, Pv (i + 1), fun H' p' => ⟨n - (i + 1), Nat.sub_lt_sub_left hl (Nat.lt_succ_self i), rfl, hl, p'⟩, fun x H' y => hs i x H H' hl p (w.yields i H x H' hl g y)⟩
  · cases he
    exact .inl ⟨w.stops H g, hd H p⟩
end TX
namespace TX
open PySem PySem.Spec PyProof.Rows L2
/-! ### max(list of ints, default=d) -/
def BestIs (ns : List Int) (j : Nat) (old : Array Value) : Prop := (j = 0 ∧ old = #[]) ∨ ∃ M t, old = #[.int M t, .int M t] ∧ M ∈ ns.take j ∧ ∀ y ∈ ns.take j, y ≤ M
theorem cmp_gt {P : Program} {w : World} {A : Around} {k M : Int} {u t : Tok} {s : Shared} {Q E : Value → Shared → Prop} (q : Q (.bool (decide (k > M))) s) : wpAny (model P w) A (richCompare .Gt (.int k u) (.int M t)) Q E s :=
  CmpOf.ints_gt (P := fun i v => ∃ t, v = .int (if i = 0 then k else M) t) (fun i => if i = 0 then k else M) (fun i v h => h) 0 1 (.int k u) (.int M t) s Q E ⟨u, rfl⟩ ⟨t, rfl⟩ q
theorem max_loopD {P : Program} {w : World} {A : Around} (hh : A.handled = none) {l I S : Addr} {items : Array Value} {ns : List Int} (hi : IntsAre items.toList ns) (hne : l ≠ I) (hSI : S ≠ I) (hSl : S ≠ l) (d : Value) {R : Result → Shared → Prop} (s0 : Shared)
    (q : ∀ (v : Value) (h' : Heap) (tk : Nat), ((ns = [] ∧ v = d) ∨ ∃ M t, v = .int M t ∧ M ∈ ns ∧ ∀ y ∈ ns, y ≤ M) → (∀ b o, b ≠ I → b ≠ S → s0.heap.get? b = some o → h'.get? b = some o) → R (.ok (.ret v)) { s0 with heap := h', toks := tk }) :
    ∀ (r j : Nat) (h : Heap) (tk c : Nat) (old : Array Value), items.size - j = r → j ≤ items.size → h.IsListIter I l j → h.IsList l items → h.get? S = some { cls := .type "list", data := .seq old c } → BestIs ns j old → (∀ b o, b ≠ I → b ≠ S → s0.heap.get? b = some o → h.get? b = some o) →
      codeAny (model P w) A (.builtin "max.loop" ⟨[.ref I, .none, .ref S], [("default", d)]⟩) R { s0 with heap := h, toks := tk }
  | 0, j, h, tk, c, old, hr, hj, hI, hl, hS, hb, fr => by
    have ej : j = items.size := by omega
    have none_ : items[j]? = none := by rw [ej]; simp
    refine codeAny_builtin F.entry_max_loop ?_
    refine wpAny_bind (wpAny_seqItems hS rfl ?_)
    refine wpAny_bind (wpAny_tryCatch ?_)
    refine wpAny_pyNext_list_end hh hI hl none_ fun h' hx => ?_
    have hS' := hx S _ hSI hS
    have fr' : ∀ b o, b ≠ I → b ≠ S → s0.heap.get? b = some o → h'.get? b = some o := fun b o h1 h2 e => hx b o h1 (fr b o h1 h2 e)
    have len : items.size = ns.length := by rw [← hi.length, Array.length_toList]
    rcases hb with ⟨hj0, rfl⟩ | ⟨M, t, rfl, hM, hle⟩
    · have en : ns = [] := List.eq_nil_of_length_eq_zero (by omega)
      wp_walk
      exact q d h' tk (.inl ⟨en, rfl⟩) fr'
    · have et : ns.take j = ns := List.take_of_length_le (by omega)
      rw [et] at hM hle
      wp_walk
      exact q (.int M t) _ tk (.inr ⟨M, t, rfl, hM, hle⟩) fun b o h1 h2 e => (Heap.get?_update_ne _ _ _ _ h2).trans (fr' b o h1 h2 e)
  | r + 1, j, h, tk, c, old, hr, hj, hI, hl, hS, hb, fr => by
    have jl : j < items.size := by omega
    have len : items.size = ns.length := by rw [← hi.length, Array.length_toList]
    obtain ⟨x, hx⟩ : ∃ x, items[j]? = some x := ⟨items[j], Array.getElem?_eq_getElem jl⟩
    obtain ⟨u, rfl⟩ := IntsAre.int_at hi j x (by simpa using hx)
    have kn : ns[j]? = some (ns.getD j 0) := by
      rw [List.getD_eq_getElem?_getD, List.getElem?_eq_getElem (by omega)]
      rfl
    have tk1 : ns.take (j + 1) = ns.take j ++ [ns.getD j 0] := by rw [List.take_add_one, kn]; rfl
    generalize ns.getD j 0 = k at *
    refine codeAny_builtin F.entry_max_loop ?_
    refine wpAny_bind (wpAny_seqItems hS rfl ?_)
    refine wpAny_bind (wpAny_tryCatch ?_)
    refine wpAny_pyNext_list_item hI hl hx fun h' hI' hsb => ?_
    have hS' := (hsb.2 S hSI).trans hS
    have hl' : h'.IsList l items := by
      obtain ⟨o, e, r⟩ := hl
      exact ⟨o, (hsb.2 l hne).trans e, r⟩
    have fr' : ∀ b o, b ≠ I → b ≠ S → s0.heap.get? b = some o → h'.get? b = some o := fun b o h1 h2 e => (hsb.2 b h1).trans (fr b o h1 h2 e)
    rcases hb with ⟨hj0, rfl⟩ | ⟨M, t, rfl, hM, hle⟩
    · wp_walk
      refine ⟨Code.quiet_builtin _ (by decide +kernel), max_loopD hh hi hne hSI hSl d s0 q r (j + 1) _ tk _ _ (by omega) (by omega) ?_ ?_ ((Heap.get?_update_self _ hS' rfl).trans rfl) ?_ fun b o h1 h2 e => (Heap.get?_update_ne _ _ _ _ h2).trans (fr' b o h1 h2 e)⟩
      · obtain ⟨o, e, z⟩ := hI'
        exact ⟨o, (Heap.get?_update_ne _ _ _ _ (Ne.symm hSI)).trans e, z⟩
      · obtain ⟨o, e, z⟩ := hl'
        exact ⟨o, (Heap.get?_update_ne _ _ _ _ (Ne.symm hSl)).trans e, z⟩
      · refine .inr ⟨k, u, rfl, by rw [tk1]; simp, fun y hy => ?_⟩
        rw [tk1] at hy
        rcases List.mem_append.mp hy with z | z
        · rw [hj0] at z
          simp at z
        · rw [List.mem_singleton.mp z]
          exact Int.le_refl _
    · refine wpAny_bind (wpAny_pure ?_)
      refine wpAny_bind (wpAny_tryCatch (wpAny_holding (wpAny_bind (cmp_gt ?_))))
      refine wpAny_bind (wpAny_holding (wpAny_truthy_bool ?_))
      refine wpAny_bind (wpAny_letGo (wpAny_pure ?_))
      by_cases hk : k > M
      · rw [decide_eq_true hk]
        wp_walk
        refine ⟨Code.quiet_builtin _ (by decide +kernel), max_loopD hh hi hne hSI hSl d s0 q r (j + 1) _ tk _ _ (by omega) (by omega) ?_ ?_ ((Heap.get?_update_self _ hS' rfl).trans rfl) ?_ fun b o h1 h2 e => (Heap.get?_update_ne _ _ _ _ h2).trans (fr' b o h1 h2 e)⟩
        · obtain ⟨o, e, z⟩ := hI'
          exact ⟨o, (Heap.get?_update_ne _ _ _ _ (Ne.symm hSI)).trans e, z⟩
        · obtain ⟨o, e, z⟩ := hl'
          exact ⟨o, (Heap.get?_update_ne _ _ _ _ (Ne.symm hSl)).trans e, z⟩
        · refine .inr ⟨k, u, rfl, by rw [tk1]; simp, fun y hy => ?_⟩
          rw [tk1] at hy
          rcases List.mem_append.mp hy with z | z
          · have := hle y z
            omega
          · rw [List.mem_singleton.mp z]
            exact Int.le_refl _
      · rw [decide_eq_false hk]
        wp_walk
        refine ⟨Code.quiet_builtin _ (by decide +kernel), max_loopD hh hi hne hSI hSl d s0 q r (j + 1) _ tk _ _ (by omega) (by omega) hI' hl' hS' (.inr ⟨M, t, rfl, ?_, fun y hy => ?_⟩) fr'⟩
        · rw [tk1]
          exact List.mem_append_left _ hM
        · rw [tk1] at hy
          rcases List.mem_append.mp hy with z | z
          · exact hle y z
          · rw [List.mem_singleton.mp z]
            omega
theorem max_default {P : Program} {w : World} {A : Around} {E : Value → Shared → Prop} {s : Shared} {l : Addr} {items : Array Value} {ns : List Int} {Q : Value → Shared → Prop} (d : Value) (hh : A.handled = none) (hl : s.heap.IsList l items) (hi : IntsAre items.toList ns)
    (q : ∀ (v : Value) (h' : Heap) (tk : Nat), ((ns = [] ∧ v = d) ∨ ∃ M t, v = .int M t ∧ M ∈ ns ∧ ∀ y ∈ ns, y ≤ M) → (∀ b o, s.heap.get? b = some o → h'.get? b = some o) → Q v { s with heap := h', toks := tk }) :
    wpAny (model P w) A (call (.builtin "max") [.ref l] [("default", d)]) Q E s := by
  have lh : l < s.heap.objs.size := by
    obtain ⟨o, e, _⟩ := hl
    exact Heap.lt_size e
  have ao : argsOk "max" { pos := [.ref l], kw := [("default", d)] } := by
    unfold argsOk
    rfl
  refine kmk_tree F.kind_max F.plain_max F.entry_max ao ?_
  refine wpAny_bind (wpAny_of_eq rfl ?_)
  refine wpAny_bind (wpAny_pure ?_)
  refine wpAny_bind (wpAny_pyIter_list hl ?_)
  refine wpAny_bind (wpAny_newList ?_)
  have hl2 := (hl.push { cls := .type "list_iterator", data := .fields #[.ref l, .int 0 0] }).push { cls := .type "list", data := .seq #[] }
  have hz : (s.heap.push { cls := .type "list_iterator", data := .fields #[.ref l, .int 0 0] }).objs.size = s.heap.objs.size + 1 := Heap.size_push _ _
  have old : ∀ b o, s.heap.get? b = some o → ((s.heap.push { cls := .type "list_iterator", data := .fields #[.ref l, .int 0 0] }).push { cls := .type "list", data := .seq #[] }).get? b = some o := fun b o e => Heap.get?_push_of_some _ (Heap.get?_push_of_some _ e)
  have len : items.size = ns.length := by rw [← hi.length, Array.length_toList]
  refine wpAny_pure ⟨plainId_quiet F.plain_max_loop _, ?_⟩
  refine max_loopD hh hi (Nat.ne_of_lt lh) ?_ ?_ d { s with heap := ((s.heap.push { cls := .type "list_iterator", data := .fields #[.ref l, .int 0 0] }).push { cls := .type "list", data := .seq #[] }) } (fun v h' tk hv hf => q v h' tk hv fun b o e => ?_) items.size 0 _ s.toks _ #[] (Nat.sub_zero _) (Nat.zero_le _) ?_ hl2 (Heap.get?_push_size _ rfl) (.inl ⟨rfl, rfl⟩) (fun b o _ _ e => e)
  · show (s.heap.push _).objs.size ≠ s.heap.objs.size
    rw [hz]
    omega
  · show (s.heap.push _).objs.size ≠ l
    rw [hz]
    exact Nat.ne_of_gt (Nat.lt_succ_of_lt lh)
  · have hb := Heap.lt_size e
    exact hf b o (Nat.ne_of_lt hb) (by
      show b ≠ (s.heap.push _).objs.size
      rw [hz]
      exact Nat.ne_of_lt (Nat.lt_succ_of_lt hb)) (old b o e)
  · exact ⟨_, Heap.get?_push_of_some _ (Heap.get?_push_size _ rfl), rfl, rfl⟩
end TX
namespace TX
open PySem PySem.Spec PyProof.Rows L2
/-! ### max(xs, default=d) -/
def tMaxD (K : PySem.W.Frag) (ta tk : TA) : TE := fun σ H Q => ta σ H fun vs H1 => tk σ H1 fun ds H2 => ∃ (a : Addr) (ns : List Int) (d : V), vs = [.ref a] ∧ ds = [d] ∧ SqL K H2 a (ns.map V.int) ∧ (ns = [] → Q d H2) ∧ ∀ M ∈ ns, (∀ y ∈ ns, y ≤ M) → Q (.int M) H2
theorem pe_maxD {X : Cx} {e : Expr} {kw : Keyword} {ta tk : TA} {p pos : Pos} (hc : X.calm = true) (hg : Gl X "max") (hm : X.mg "max" = none) (ha : PA X [e] ta) (hk : PK X [kw] tk)
    (hs : backTo pos (starEach [e] X.env) = (false, eval e X.env) :: backTo pos (starEach [] X.env) := by rfl) (h1 : ((backTo pos (starEach [e] X.env)).any fun x => x.fst) = false := by rfl)
    (h2 : ((backToKw pos (keywordEach [kw] X.env)).all fun x => x.fst.isSome) = true := by rfl) (h3 : ((backToKw pos (keywordEach [kw] X.env)).any fun x => x.fst.isNone) = false := by rfl)
    (h4 : List.filterMap (fun x => x.fst) (backToKw pos (keywordEach [kw] X.env)) = [("default" : Str)] := by rfl) : PE X (.Call (.Name "max" p) [e] [kw] pos) (tMaxD X.K ta tk) := by
  refine ⟨fun pins s σ H Q I h => ?_⟩
  have ee : eval (.Call (.Name "max" p) [e] [kw] pos) X.env = (do
      let f ← eval (.Name "max" p) X.env
      callWith pos f [] (backTo pos (starEach [e] X.env)) (backToKw pos (keywordEach [kw] X.env))) := by rfl
  rw [ee]
  refine wpAny_bind (ld_blt I hg hm (u := .builtin "max") (by decide +kernel) ?_)
  refine callWith_kw (thn (ha.run pos pins s σ H _ I h) fun us s1 ⟨vs, H1, I1, r1, q1⟩ => thn (hk.run pos pins s1 σ H1 _ I1 q1) fun ks s2 ⟨ds, H2, I2, r2, a, ns, d, e1, e2, hq, qn, qm⟩ => ?_) hs h1 h2 h3
  subst e1 e2
  rw [h4]
  obtain ⟨u, rfl, ru⟩ := r1.one
  obtain ⟨dv, rfl, rd⟩ := r2.one
  cases ru
  obtain ⟨its, rv, hl, _⟩ := I2.list hq
  have hi : IntsAre its ns := rv.ints
  show wpAny _ _ (call (.builtin "max") [.ref a] [("default", dv)]) _ _ _
  refine max_default dv (I2.ok.hd hc) hl.isList (by simpa using hi) fun v h' tk hv hkp => ?_
  rcases hv with ⟨hn, rfl⟩ | ⟨M, t, rfl, hM, hle⟩
  · exact ⟨d, H2, I2.kept hkp, rd, qn hn⟩
  · exact ⟨.int M, H2, I2.kept hkp, ⟨t, rfl⟩, qm M hM hle⟩
end TX
namespace TX
open PySem PySem.Spec PyProof.Rows L2
/-! ### letters_told_apart -/
def numN : Sx → List Nat
  | .texts lo none => [lo]
  | .texts lo (some h) => [lo, h]
  | _ => []
def numM (g : Sx) (j : Nat) : List Nat := match g with
  | .texts lo hi => match j with
    | 0 => []
    | 1 => [lo]
    | _ => lo :: hi.toList
  | _ => []
def numsIn (gs : List Sx) : List Nat := gs.flatMap numN
def TextLe (gs : List Sx) (lim : Nat) : Prop := ∀ (i lo : Nat) (hi : Option Nat), gs[i]? = some (.texts lo hi) → lo ≤ lim ∧ ∀ h, hi = some h → h ≤ lim
def spLetters (K : PySem.W.Frag) : Sp := fun vs H Q _ => ∃ (rc : Addr) (as : List Addr) (gs : List Sx), vs = [.ref rc] ∧ RecX K H rc as gs ∧ gs.length ≤ 600 ∧ ∀ (H' : Hp) (lim : Nat), Same H H' → lim ≤ 3 → TextLe gs lim → Q (.int (lim : Nat)) H'
theorem numN_len (g : Sx) : (numN g).length ≤ 2 := by
  cases g with
  | texts lo hi => cases hi <;> simp [numN]
  | _ => simp [numN]
theorem numsIn_len (gs : List Sx) : (numsIn gs).length ≤ 2 * gs.length := by
  induction gs with
  | nil => exact Nat.le_refl _
  | cons g gs ih =>
    have := numN_len g
    simp only [numsIn, List.flatMap_cons, List.length_append, List.length_cons] at *
    omega
section
variable {P : Program} {w : World} {K : PySem.W.Frag} {mg : Str → Option Value} {base : Heap}
theorem scLetters : FnScope ["recipe", "step", "number"] ["recipe"] (defScope s_letters_told_apart) := ⟨rfl, rfl, rfl, by decide +kernel, rfl, by decide +kernel, by decide +kernel⟩
theorem ok_letters {f : Addr} {fd : FuncData} (F : Fun K "letters_told_apart" "letters_told_apart" s_letters_told_apart f fd) (N : Nr mg) : FnOk P w K mg base CX0 1 f fd ["recipe"] (spLetters K) := by
  refine F.ok scLetters (fun vs H Q E h => ?_) (fun cdv A outer s H vs Q E hr h => ?_)
  · obtain ⟨rc, as, gs, rfl, _⟩ := h
    rfl
  · obtain ⟨rc, as, gs, rfl, R, hz, q⟩ := h
    refine ⟨_, pss_one (ps_ret (pe_maxD rfl (by rfl) N.max (pa_cons (pe_lc2 (own := [("step", 1), ("number", 2)]) (vs1 := [2]) (g := gName 1) (g1 := gName 2) (tt := tYes) (tt1 := tB (tNotN (tVar 2))) (wi1 := iTup K (tOp (rIxT K) (tVar 1) (tC (.int 2)))) (te := tVar 2) rfl scLetters.nd (pi_tup (pv 0))
      (blkOk_by (own := [("step", 1), ("number", 2)]) (N := ["recipe", "step", "number"]) (sc := defScope s_letters_told_apart) (by decide +kernel)) (by decide) (fun _ _ _ _ _ => pg_name (i := 1) scLetters.nd rfl (Or.inl rfl)) (fun _ _ _ _ _ => pts_nil)
      (fun _ _ _ _ _ => pi_tup (pe_ix ix_tup (pv 1) pe_int (fun _ _ => rfl))) (fun _ _ _ _ _ => pg_name (i := 2) scLetters.nd rfl (Or.inl rfl)) (fun _ _ _ _ _ => pts_one (pt_cmp (pc_notN (pv 2)))) (fun _ _ _ _ _ => pv 2)) pa_nil) (pk_cons pe_int pk_nil))), ?_⟩
    have al := R.len
    refine ⟨_, rfl, rc, rfl, ⟨_, R.at_⟩, fun D nD => walk_turns (walk_tup (K := K) (a := rc) (xs := as.map V.ref)) (fun i G => G D = some (.lst ((numsIn (gs.take i)).map fun (n : Nat) => V.int n)) ∧ Same H G) ⟨upd_same, same_upd nD⟩ (fun i G hi ⟨_, sm⟩ => same_sqt sm R.at_) ?_ ?_⟩
    · rintro i x G G' hi ⟨hD, sm⟩ ⟨rfl, hx⟩
      obtain ⟨a, g, rfl, eg, st⟩ := R.at_i hx
      obtain ⟨p, qn, h1, h2, h3⟩ := st
      have il : i < gs.length := (List.getElem?_eq_some_iff.mp eg).1
      have tk1 : numsIn (gs.take (i + 1)) = numsIn (gs.take i) ++ numN g := by
        unfold numsIn
        rw [List.take_add_one, eg, List.flatMap_append]
        simp
      have ll := numsIn_len (gs.take i)
      rw [List.length_take] at ll
      generalize hacc : numsIn (gs.take i) = acc at *
      refine ⟨rfl, _, rfl, a, _, 2, _, rfl, rfl, same_sqt sm h1, atI_nat (j := 2) rfl, qn, rfl, ⟨_, same_sqt sm h3⟩, walk_turns (walk_tup (K := K) (a := qn) (xs := g.nums)) (fun j G2 => G2 D = some (.lst ((acc ++ numM g j).map fun (n : Nat) => V.int n)) ∧ Same H G2) ⟨?_, sm⟩ (fun j G2 hj ⟨_, sm2⟩ => same_sqt sm2 h3) ?_ ?_⟩
      · have e : numM g 0 = [] := by cases g <;> rfl
        rw [e, List.append_nil]
        exact hD
      · rintro j x G2 G3 hj ⟨hD2, sm2⟩ ⟨rfl, hx2⟩
        have hl : (acc.map fun (n : Nat) => V.int n).length + 2 < sizeLine := Nat.lt_of_le_of_lt (show _ ≤ 2000 by rw [List.length_map]; omega) (by decide)
        cases g with
        | texts lo hi =>
          have hj2 : j = 0 ∨ j = 1 := by
            have : j < 2 := hj
            omega
          rcases hj2 with rfl | rfl
          · cases hx2
            refine ⟨rfl, _, rfl, _, rfl, iteT ⟨_, rfl, _, hD2, ?_, ?_, same_fresh nD sm2⟩⟩
            · show ((acc ++ []).map fun (n : Nat) => V.int n).length < sizeLine
              rw [List.append_nil]
              omega
            · rw [upd_same]
              simp only [numM, List.append_nil, List.map_append, List.map_cons, List.map_nil]
          · have ex : x = hiV hi := (Option.some.inj (show some (hiV hi) = some x from hx2)).symm
            subst ex
            cases hi with
            | none => exact ⟨rfl, _, rfl, _, rfl, iteF ⟨hD2, sm2⟩⟩
            | some h =>
              refine ⟨rfl, _, rfl, _, rfl, iteT ⟨_, rfl, _, hD2, ?_, ?_, same_fresh nD sm2⟩⟩
              · show ((acc ++ [lo]).map fun (n : Nat) => V.int n).length < sizeLine
                rw [List.map_append, List.length_append]
                show _ + 1 < _
                omega
              · rw [upd_same]
                simp only [numM, Option.toList_some, List.map_append, List.map_cons, List.map_nil, List.append_assoc]
                rfl
        | _ => exact absurd hj (Nat.not_lt_zero _)
      · rintro G2 ⟨hD2, sm2⟩
        have e : numM g g.nums.length = numN g := by
          cases g with
          | texts lo hi => cases hi <;> rfl
          | _ => rfl
        rw [e, ← tk1] at hD2
        exact ⟨hD2, sm2⟩
    rintro G ⟨hD, sm⟩
    rw [List.length_map, al, List.take_length] at hD
    have few : ∀ n ∈ numsIn gs, n ≤ 3 := fun n hn => by
      obtain ⟨g, hg, hin⟩ := List.mem_flatMap.mp hn
      have z := R.few g hg
      cases g with
      | texts lo hi =>
        cases hi with
        | none =>
          cases List.mem_singleton.mp hin
          exact z.1
        | some h =>
          simp only [numN, List.mem_cons, List.not_mem_nil, or_false] at hin
          rcases hin with rfl | rfl
          · exact z.1
          · exact z.2 _ rfl
      | _ => cases hin
    have said : ∀ M : Nat, (∀ n ∈ numsIn gs, n ≤ M) → TextLe gs M := fun M hM i lo hi e => by
      have hg := List.mem_of_getElem? e
      cases hi with
      | none => exact ⟨hM lo (List.mem_flatMap.mpr ⟨_, hg, by simp [numN]⟩), fun h z => nomatch z⟩
      | some h => exact ⟨hM lo (List.mem_flatMap.mpr ⟨_, hg, by simp [numN]⟩), fun h' z => by
          cases z
          exact hM h (List.mem_flatMap.mpr ⟨_, hg, by simp [numN]⟩)⟩
    refine ⟨D, (numsIn gs).map fun (n : Nat) => (n : Int), .int 0, rfl, rfl, ?_, fun en => q G 0 sm (by decide) (said 0 fun n hn => ?_), fun M hM hle => ?_⟩
    · rw [List.map_map]
      exact SqL.of hD
    · rw [List.map_eq_nil_iff] at en
      rw [en] at hn
      cases hn
    · obtain ⟨m, hm, rfl⟩ := List.mem_map.mp hM
      exact q G m sm (few m hm) (said m fun n hn => by
        have := hle _ (List.mem_map.mpr ⟨n, hn, rfl⟩)
        omega)
end
end TX
namespace TX
open PySem PySem.Spec PyProof.Rows L2
/-! ### look_of_text, least_leaves -/
def spLookT (K : PySem.W.Frag) : Sp := fun vs H Q _ => ∃ (m lim : Nat), vs = [.int (m : Nat), .int (lim : Nat)] ∧ ∀ b, H b = none → Q (.ref b) (upd H b (.tup [.str "text", .int ((min m (lim + 1) : Nat) : Int)]))
def aStr (m : Nat) : Str := Txt.mul "a" (m : Int)
theorem aStr_len (m : Nat) : (aStr m).length = m := by
  unfold aStr Txt.mul
  have e1 : ("a" : Str).length = 1 := rfl
  split
  · have e : Str.empty.length = 0 := rfl
    omega
  · split
    · rename_i h
      rw [e1] at h ⊢
      simp only [Bool.or_eq_true, beq_iff_eq] at h
      rcases h with h | h
      · omega
      · exact absurd h (by decide)
    · have e := size_rep ("a" : Str).cps (m : Int).toNat #[]
      have e3 : ("a" : Str).cps.size = 1 := rfl
      show ((List.replicate (m : Int).toNat ("a" : Str).cps).foldl (· ++ ·) #[]).size = m
      rw [e, e3]
      simp
theorem aStr_lt (m : Nat) : Lt (aStr m) := (mul_lt (x := "a") (by unfold Lt; decide +kernel)).1
def baseL (ak : List Nat) (lim : Nat) : List LRow := (.non, 1, .none) :: ((List.range (lim + 2)).map (fun m => ((.txt m, 1 + m, .str (aStr m)) : LRow)) ++ [(.lst ak, 1, .list [])])
def LeafAt (K : PySem.W.Frag) (H : Hp) (t : Addr) (r : LRow) : Prop := ∃ (b : Addr) (vv : V), SqT K H t [.ref b, .int ((r.2.1 : Nat) : Int), vv] ∧ Dp K H (.ref b) (keyD r.1.key) ∧ Dp K H vv r.2.2
theorem LeafAt.up {K : PySem.W.Frag} {H G : Hp} {t : Addr} {r : LRow} (h : LeafAt K H t r) (s : Same H G) : LeafAt K G t r := by
  obtain ⟨b, vv, h1, h2, h3⟩ := h
  exact ⟨b, vv, same_sqt s h1, dp_same s _ _ h2, dp_same s _ _ h3⟩
/-- rows one by one -/
inductive Each2 {α β : Type} (R : α → β → Prop) : List α → List β → Prop where
  | nil : Each2 R [] []
  | cons {a b as bs} : R a b → Each2 R as bs → Each2 R (a :: as) (b :: bs)
theorem Each2.len {α β : Type} {R : α → β → Prop} : ∀ {as : List α} {bs : List β}, Each2 R as bs → as.length = bs.length
  | _, _, .nil => rfl
  | _, _, .cons _ h => by rw [List.length_cons, List.length_cons, h.len]
theorem Each2.imp {α β : Type} {R S : α → β → Prop} (f : ∀ a b, R a b → S a b) : ∀ {as : List α} {bs : List β}, Each2 R as bs → Each2 S as bs
  | _, _, .nil => .nil
  | _, _, .cons h t => .cons (f _ _ h) (t.imp f)
theorem Each2.app {α β : Type} {R : α → β → Prop} : ∀ {as as' : List α} {bs bs' : List β}, Each2 R as bs → Each2 R as' bs' → Each2 R (as ++ as') (bs ++ bs')
  | _, _, _, _, .nil, k => k
  | _, _, _, _, .cons h t, k => .cons h (t.app k)
theorem Each2.get {α β : Type} {R : α → β → Prop} : ∀ {as : List α} {bs : List β} {i : Nat} {a : α}, Each2 R as bs → as[i]? = some a → ∃ b, bs[i]? = some b ∧ R a b
  | _, _, i, a, .nil, e => by cases e
  | _, _, 0, a, .cons h _, e => by
    cases e
    exact ⟨_, rfl, h⟩
  | _, _, i + 1, a, .cons _ t, e => t.get (i := i) e
theorem Each2.memR {α β : Type} {R : α → β → Prop} {as : List α} {bs : List β} (h : Each2 R as bs) {b : β} (hb : b ∈ bs) : ∃ a ∈ as, R a b := by
  induction h with
  | nil => cases hb
  | cons h1 h2 ih =>
    rcases List.mem_cons.mp hb with rfl | z
    · exact ⟨_, List.mem_cons_self, h1⟩
    · obtain ⟨a, ha, r⟩ := ih z
      exact ⟨a, List.mem_cons_of_mem _ ha, r⟩
theorem del_upd {G G2 : Hp} {D : Addr} (s : Same G G2) {o : HO} : Same (L2.del G D) (L2.del (upd G2 D o) D) := fun b u e => by
  obtain ⟨hb, e⟩ := del_some e
  rw [del_ne hb, upd_ne hb]
  exact s _ _ e
def spLeaves (K : PySem.W.Frag) : Sp := fun vs H Q _ => ∃ (rc : Addr) (as : List Addr) (gs : List Sx), vs = [.ref rc] ∧ RecX K H rc as gs ∧ gs.length ≤ 600 ∧ askX gs ≤ 60 ∧ ∀ (H' : Hp) (L : Addr) (ts : List Addr) (ak : List Nat) (lim : Nat), Same H H' → H L = none → H' L = some (.lst (ts.map V.ref)) → Each2 (LeafAt K H') ts (baseL ak lim) → lim ≤ 3 → TextLe gs lim → ak.length ≤ 600 ∧ ak.length ≤ askX gs → ak.Nodup → (∀ k, k ∈ ak ↔ Askd gs k) → Q (.ref L) H'
section
variable {P : Program} {w : World} {K : PySem.W.Frag} {mg : Str → Option Value} {base : Heap}
theorem scLookT : FnScope ["letters", "limit"] ["letters", "limit"] (defScope s_look_of_text) := ⟨rfl, rfl, rfl, by decide +kernel, rfl, by decide +kernel, by decide +kernel⟩
theorem ok_lookT {f : Addr} {fd : FuncData} (F : Fun K "look_of_text" "look_of_text" s_look_of_text f fd) (N : Nr mg) : FnOk P w K mg base CX0 1 f fd ["letters", "limit"] (spLookT K) := by
  refine F.ok scLookT (fun vs H Q E h => ?_) (fun cdv A outer s H vs Q E hr h => ?_)
  · obtain ⟨m, lim, rfl, _⟩ := h
    rfl
  · obtain ⟨m, lim, rfl, q⟩ := h
    refine ⟨_, pss_one (ps_ret (pe_tup (pa_cons pe_str (pa_cons (pe_callB (call_min2 rfl) (by rfl) N.min (by decide +kernel) (pa_cons (pv 0) (pa_cons (pe_op op_add (pv 1) pe_int) pa_nil))) pa_nil)))), ?_⟩
    refine ⟨_, rfl, _, rfl, _, _, rfl, rfl, _, _, rfl, (by show 2 ≤ sizeLine; decide), fun b nb => ?_⟩
    have e : (if (lim : Int) + 1 < (m : Int) then (lim : Int) + 1 else (m : Int)) = ((min m (lim + 1) : Nat) : Int) := by
      split <;> omega
    have z := q b nb
    rw [← e] at z
    exact z
theorem scLeaves : FnScope ["recipe", "limit", "texts", "many"] ["recipe"] (defScope s_least_leaves) := ⟨rfl, rfl, rfl, by decide +kernel, rfl, by decide +kernel, by decide +kernel⟩
theorem ok_leaves {f fL fT fA : Addr} {fd dL dT dA : FuncData} (F : Fun K "least_leaves" "least_leaves" s_least_leaves f fd) (N : Nr mg)
    (GL : FnOk P w K mg base CX0 1 fL dL ["recipe"] (spLetters K)) (gL : mg "letters_told_apart" = some (.ref fL)) (kL : PySem.W.keepIn K (.ref fL) = true) (bL : Binds K dL ["recipe"] [])
    (GT : FnOk P w K mg base CX0 1 fT dT ["letters", "limit"] (spLookT K)) (gT : mg "look_of_text" = some (.ref fT)) (kT : PySem.W.keepIn K (.ref fT) = true) (bT : Binds K dT ["letters", "limit"] [])
    (GA : FnOk P w K mg base CX0 1 fA dA ["recipe"] (spAskedS K)) (gA : mg "asked_steps" = some (.ref fA)) (kA : PySem.W.keepIn K (.ref fA) = true) (bA : Binds K dA ["recipe"] []) : FnOk P w K mg base CX0 2 f fd ["recipe"] (spLeaves K) := by
  refine F.ok scLeaves (fun vs H Q E h => ?_) (fun cdv A outer s H vs Q E hr h => ?_)
  · obtain ⟨rc, as, gs, rfl, _⟩ := h
    rfl
  · obtain ⟨rc, as, gs, rfl, R, hz, hx, q⟩ := h
    refine ⟨_, pss_cons (ps_set (i := 1) scLeaves.nd rfl (.inr rfl) (pe_call GL hr (by rfl) gL kL bL .nil pass0 (pa_cons (pv 0) pa_nil))) <|
      pss_cons (ps_setLc (i := 2) (own := [("many", 3)]) (g := gName 3) (tt := tYes) (te := tTup (tCons (tCall (spLookT K) [] E0 (tCons (tVar 3) (tCons (tVar 1) tNil))) (tCons (tOp (rI0 fun i j => .int (i + j)) (tC (.int 1)) (tVar 3)) (tCons (tOp rMulS (tC (.str "a")) (tVar 3)) tNil)))) rfl scLeaves.nd rfl rfl (sw_true rfl rfl rfl (by decide +kernel)) (pi_range1 (by rfl) N.range (pa_cons (pe_op op_add (pv 1) pe_int) pa_nil))
        (blkOk_by (own := [("many", 3)]) (N := ["recipe", "limit", "texts", "many"]) (sc := defScope s_least_leaves) (by decide +kernel))
        (fun _ _ _ _ _ => pg_name (i := 3) scLeaves.nd rfl (Or.inl rfl)) (fun _ _ _ _ _ => pts_nil) (fun _ _ _ _ _ => pe_tup (pa_cons (pe_call GT hr (by rfl) gT kT bT .nil pass0 (pa_cons (pv 3) (pa_cons (pv 1) pa_nil))) (pa_cons (pe_op op_add pe_int (pv 3)) (pa_cons (pe_op op_mulS pe_str (pv 3)) pa_nil))))) <|
      pss_one (ps_ret (pe_lst (pa_cons (pe_tup (pa_cons (pe_tup (pa_cons pe_str (pa_cons pe_int pa_nil))) (pa_cons pe_int (pa_cons pe_non pa_nil)))) (StX.pa_star (pv 2) (pa_cons (pe_tup (pa_cons (pe_tup (pa_cons pe_str (pa_cons (pe_call GA hr (by rfl) gA kA bA .nil pass0 (pa_cons (pv 0) pa_nil)) pa_nil))) (pa_cons pe_int (pa_cons (pe_lst pa_nil) pa_nil)))) pa_nil))))), ?_⟩
    refine ⟨_, rfl, rc, as, gs, rfl, R, hz, fun H1 lim s1 hlim hT => ?_⟩
    refine ⟨_, rfl, _, _, rfl, rfl, (lim : Int) + 2, rfl, by omega, by omega, fun D nD => ?_⟩
    have e2 : ((lim : Int) + 2).toNat = lim + 2 := by omega
    rw [e2]
    refine walk_turns (walk_range (lo := 0) (n := lim + 2)) (fun i G => ∃ ts : List Addr, G D = some (.lst (ts.map V.ref)) ∧ Same H1 G ∧ Each2 (LeafAt K (L2.del G D)) ts ((List.range i).map (fun m => ((.txt m, 1 + m, .str (aStr m)) : LRow)))) ⟨[], upd_same, same_upd nD, .nil⟩ (fun _ _ _ _ => trivial) ?_ ?_
    · rintro i x G G' hi ⟨ts, hD, sm, hE⟩ ⟨rfl, ex⟩
      have ex2 : x = .int (i : Nat) := by
        rw [ex]
        show V.int (0 + ((i : Nat) : Int)) = _
        rw [Int.zero_add]
      subst ex2
      have tl : ts.length = i := by
        rw [hE.len, List.length_map, List.length_range]
      have em : min i (lim + 1) = i := by omega
      refine ⟨rfl, _, rfl, _, rfl, i, lim, rfl, fun b nb => ?_⟩
      rw [em]
      have sb := same_upd (o := .tup [.str "text", .int ((i : Nat) : Int)]) nb
      refine ⟨_, rfl, _, _, rfl, rfl, _, rfl, "a", i, rfl, rfl, by omega, (by show (1 : Nat) ≤ 1000; decide), (by show 3 ≤ sizeLine; decide), fun t nt => ?_⟩
      have st := same_upd (o := .tup [.ref b, .int (1 + (i : Int)), .str (aStr i)]) nt
      refine ⟨_, st _ _ (sb _ _ hD), ?_, ts ++ [t], ?_, same_fresh nD (sm.trans (sb.trans st)), ?_⟩
      · rw [List.length_map, tl]
        exact Nat.lt_of_le_of_lt (show i ≤ 10 by omega) (by decide)
      · rw [upd_same, List.map_append]
        rfl
      have nbD : D ≠ b := ne_of_none hD nb
      have ntD : D ≠ t := ne_of_none (sb _ _ hD) nt
      have sd := del_upd (G := G') (D := D) (sb.trans st) (o := .lst (ts.map V.ref ++ [.ref t]))
      rw [List.range_succ, List.map_append]
      refine (hE.imp fun _ _ z => z.up sd).app (.cons ⟨b, .str (aStr i), ?_, ?_, .str _⟩ .nil)
      · have e3 : (1 : Int) + (i : Int) = ((1 + i : Nat) : Int) := by omega
        refine SqT.of ?_
        rw [del_ne ntD.symm, upd_ne ntD.symm, upd_same]
        show some (HO.tup [V.ref b, .int (1 + (i : Int)), .str (aStr i)]) = some (.tup [V.ref b, .int ((1 + i : Nat) : Int), .str (aStr i)])
        rw [e3]
      · refine at_lk (lk := .txt i) (u := .int ((i : Nat) : Int)) (SqT.of ?_) rfl
        rw [del_ne nbD.symm, upd_ne nbD.symm]
        exact st _ _ upd_same
    rintro G ⟨ts, hD, sm, hE⟩
    refine ⟨(by show 2 ≤ sizeLine; decide), fun b nb => ⟨(by show 3 ≤ sizeLine; decide), fun t0 nt0 => ?_⟩⟩
    have sb := same_upd (o := .tup [.str "nothing", .int 0]) nb
    have st0 := same_upd (o := .tup [.ref b, .int 1, .non]) nt0
    have sA := sm.trans (sb.trans st0)
    have tl : ts.length = lim + 2 := by rw [hE.len, List.length_map, List.length_range]
    refine ⟨_, rfl, D, _, rfl, .inr (SqL.of (st0 _ _ (sb _ _ hD))), _, rfl, rc, as, gs, rfl, R.up (s1.trans sA), hz, hx, fun H2 La ak s2 nLa hLa hal hnd hask => ⟨(by show 2 ≤ sizeLine; decide), fun b2 nb2 => ⟨Nat.zero_le _, fun le nle => ⟨(by show 3 ≤ sizeLine; decide), fun t2 nt2 => ⟨?_, fun L nL => ?_⟩⟩⟩⟩⟩
    · refine Nat.le_trans (show _ ≤ 1000 from ?_) (by decide)
      simp only [List.length_cons, List.length_append, List.length_map, List.length_nil, tl]
      omega
    have sb2 := same_upd (o := .tup [.str "list", .ref La]) nb2
    have sle := same_upd (o := .lst []) nle
    have st2 := same_upd (o := .tup [.ref b2, .int 1, .ref le]) nt2
    have sL := same_upd (o := .lst (.ref t0 :: (ts.map V.ref ++ [.ref t2]))) nL
    have sB := sb2.trans (sle.trans (st2.trans sL))
    refine q _ L (t0 :: (ts ++ [t2])) ak lim (s1.trans (sA.trans (s2.trans sB))) ((s1.trans (sA.trans (s2.trans (sb2.trans (sle.trans st2))))).free nL) ?_ ?_ hlim hT hal hnd hask
    · rw [upd_same]
      simp only [List.map_cons, List.map_append, List.map_nil]
    refine .cons ⟨b, .non, SqT.of ((s2.trans sB) _ _ upd_same), at_lk (lk := .non) (u := .int 0) (SqT.of ((st0.trans (s2.trans sB)) _ _ upd_same)) rfl, .non⟩ ((hE.imp fun _ _ z => z.up (del_sub.trans (sb.trans (st0.trans (s2.trans sB))))).app (.cons ⟨b2, .ref le, SqT.of (sL _ _ upd_same), ?_, ?_⟩ .nil))
    · exact at_lk (lk := .lst ak) (u := .ref La) (SqT.of ((sle.trans (st2.trans sL)) _ _ upd_same)) ⟨La, rfl, SqT.of (sB _ _ hLa)⟩
    · exact .lst (SqL.of ((st2.trans sL) _ _ upd_same)) .nil
end
end TX
namespace TX
open PySem PySem.Spec PyProof.Rows L2
/-! ### d.values(), d.items(), list(d.values()) -/
def vwO (r a : Addr) : HO := .ext fun h => h.IsValuesView r a
def itO (r a : Addr) : HO := .ext fun h => h.IsItemsView r a
/-- the values of rows -/
def gvals (xs : List GRow) : List V := xs.map (·.2.2)
def tDVals (P : Program) (w : World) (K : PySem.W.Frag) (td : TE) : TE := fun σ H Q => td σ H fun x H1 => ∃ a xs, x = .ref a ∧ Dg P w H1 a xs ∧ GKeys K H1 xs ∧ ∀ r, H1 r = none → Q (.ref r) (upd H1 r (vwO r a))
def tDItems (P : Program) (w : World) (K : PySem.W.Frag) (td : TE) : TE := fun σ H Q => td σ H fun x H1 => ∃ a xs, x = .ref a ∧ Dg P w H1 a xs ∧ GKeys K H1 xs ∧ ∀ r, H1 r = none → Q (.ref r) (upd H1 r (itO r a))
section
variable {X : Cx} {o : Expr} {apos cpos : Pos} {td : TE}
theorem GRel.at_ {xs : List GRow} {ys : List (NestedKey × Addr × Value)} (r : GRel xs ys) : xs.length = ys.length ∧ ∀ (i : Nat) x y, xs[i]? = some x → ys[i]? = some y → x.1 = y.1 ∧ x.2.1 = y.2.1 ∧ RelV x.2.2 y.2.2 := by
  induction r with
  | nil => exact ⟨rfl, fun i x y h => by simp at h⟩
  | @cons p q ps qs h t ih =>
    refine ⟨by simp only [List.length_cons, ih.1], fun i x y hx hy => ?_⟩
    cases i with
    | zero =>
      have e1 : p = x := by simpa using hx
      have e2 : q = y := by simpa using hy
      rw [← e1, ← e2]
      exact h
    | succ i => exact ih.2 i x y (by simpa using hx) (by simpa using hy)
theorem pe_dvals (ho : PE X o td) (ha : attributeBase o "values" X.env (eval o X.env) = eval o X.env := by rfl) (hp : (apos.endLine == cpos.line) = true := by rfl) : PE X (.Call (.Attribute o "values" apos) [] [] cpos) (tDVals X.prog X.w X.K td) := by
  refine ⟨fun pins s σ H Q I h => ?_⟩
  refine wpAny_Call_method ha rfl hp F.plainAttrs_dict F.slot_dict_values F.type_dict_values (thn (ho.run pins s σ H _ I h) fun u s1 ⟨x, H1, I1, rx, a, xs, ex, e, hk, q⟩ => ?_)
  subst ex
  cases rx
  obtain ⟨hz, hm, ys, r, dd⟩ := dg_of I1 e hk
  obtain ⟨es, ep, hr, _, _⟩ := dd.raw
  have hr' := hr
  obtain ⟨ob, g1, g2, g3⟩ := hr
  refine ⟨dd.typeIs, fun b eb => ?_, PyProof.Rows.callWith_method0 (call_meetsIn F.slot_dict_values dd.typeIs F.entry_dict_values (F.args_dict_values_1 _) (meets_dict_values_raw a hm) ⟨⟨es, ep, hr'⟩, ?_⟩)⟩
  · cases eb
    exact ⟨ob, g1, g2.2.1⟩
  · have hn : (s1.heap.push { cls := .type "dict_values", data := .fields #[.ref a] }).get? s1.heap.objs.size = some { cls := .type "dict_values", data := .fields #[.ref a] } := Heap.get?_push_size _ rfl
    refine ⟨.ref s1.heap.objs.size, _, I1.laid (a := s1.heap.objs.size) (o := vwO s1.heap.objs.size a) (t' := s1.toks) (fun _ _ q => Heap.get?_push_of_some _ q) (Nat.le_refl _) ⟨⟨_, hn, rfl, rfl⟩, ⟨_, hn⟩, fun g1 g2 ⟨o', e', c'⟩ kp => ⟨o', kp _ e', c'⟩⟩, rfl, q _ (I1.hok.fresh (Nat.le_refl _))⟩
theorem pe_ditems (ho : PE X o td) (ha : attributeBase o "items" X.env (eval o X.env) = eval o X.env := by rfl) (hp : (apos.endLine == cpos.line) = true := by rfl) : PE X (.Call (.Attribute o "items" apos) [] [] cpos) (tDItems X.prog X.w X.K td) := by
  refine ⟨fun pins s σ H Q I h => ?_⟩
  refine wpAny_Call_method ha rfl hp F.plainAttrs_dict F.slot_dict_items F.type_dict_items (thn (ho.run pins s σ H _ I h) fun u s1 ⟨x, H1, I1, rx, a, xs, ex, e, hk, q⟩ => ?_)
  subst ex
  cases rx
  obtain ⟨hz, hm, ys, r, dd⟩ := dg_of I1 e hk
  obtain ⟨es, ep, hr, _, _⟩ := dd.raw
  have hr' := hr
  obtain ⟨ob, g1, g2, g3⟩ := hr
  refine ⟨dd.typeIs, fun b eb => ?_, PyProof.Rows.callWith_method0 (call_meetsIn F.slot_dict_items dd.typeIs F.entry_dict_items (F.args_dict_items_1 _) (meets_dict_items_raw a hm) ⟨⟨es, ep, hr'⟩, ?_⟩)⟩
  · cases eb
    exact ⟨ob, g1, g2.2.1⟩
  · have hn : (s1.heap.push { cls := .type "dict_items", data := .fields #[.ref a] }).get? s1.heap.objs.size = some { cls := .type "dict_items", data := .fields #[.ref a] } := Heap.get?_push_size _ rfl
    refine ⟨.ref s1.heap.objs.size, _, I1.laid (a := s1.heap.objs.size) (o := itO s1.heap.objs.size a) (t' := s1.toks) (fun _ _ q => Heap.get?_push_of_some _ q) (Nat.le_refl _) ⟨⟨_, hn, rfl, rfl⟩, ⟨_, hn⟩, fun g1 g2 ⟨o', e', c'⟩ kp => ⟨o', kp _ e', c'⟩⟩, rfl, q _ (I1.hok.fresh (Nat.le_refl _))⟩
theorem call_list_dv (hc : X.calm = true) : CallR X (.type "list") (fun vs H Q => ∃ r a xs, vs = [.ref r] ∧ H r = some (vwO r a) ∧ Dg X.prog X.w H a xs ∧ GKeys X.K H xs ∧ ∀ l, H l = none → Q (.ref l) (upd H l (.lst (gvals xs)))) := by
  intro pins s σ H vs us Q I rr h
  obtain ⟨r, a, xs, rfl, hv, hd, hk, q⟩ := h
  obtain ⟨u, rfl, ru⟩ := vals1 rr
  cases ru
  obtain ⟨hz, hm, ys, rel, dd⟩ := dg_of I hd hk
  obtain ⟨es, ep, hr, hsz, hat⟩ := dd.raw
  obtain ⟨hview, _, _⟩ := (show ObjOk X.prog X.w H s.heap r (vwO r a) from I.hok r _ hv)
  obtain ⟨rl, rat⟩ := rel.at_
  have nf : H s.heap.objs.size = none := I.hok.fresh (Nat.le_refl _)
  refine PySem.W.kdl_call (KdlSrc.rawValues (d := a) (r := r) (es := es) (ep := ep)) (I.ok.hd hc) ⟨hview, hr⟩ (by omega) fun h' tk acc c' hkp hS hacc => ⟨.ref _, _, I.laid (t' := tk) (o := .lst (gvals xs)) hkp (Nat.le_refl _) ⟨?_, acc.toList, c', ?_, ?_⟩, rfl, q _ nf⟩
  · simp only [gvals, List.length_map]
    exact hz
  · refine vals_get _ _ ?_ fun j v u hv hu => ?_
    · have e := hacc.1
      simp only [gvals, List.length_map, Array.length_toList]
      omega
    · obtain ⟨hi, eu⟩ := hacc.2 j u (by simpa using hu)
      obtain ⟨y, hy, _, ey, _⟩ := hat j hi
      have hv' : (xs.map (·.2.2))[j]? = some v := hv
      rw [List.getElem?_map] at hv'
      obtain ⟨x, hx, ex⟩ := Option.map_eq_some_iff.mp hv'
      obtain ⟨_, _, z⟩ := rat j x y hx hy
      rw [← ex, eu, ey]
      exact z
  · simpa using hS
end
end TX
namespace TX
open PySem PySem.Spec PyProof.Rows L2
/-! ### for key, value in d.items() -/
def dGX (P : Program) (w : World) (a : Addr) (xs : List GRow) (es : Array DictEntry) (ep : Nat) : Heap → Prop := fun h => dGP P w a xs h ∧ h.DictRaw a es ep
def Itdi (P : Program) (w : World) (a : Addr) (xs : List GRow) (es : Array DictEntry) (ep : Nat) : It :=
  ⟨fun i H => H a = some (.ext (dGX P w a xs es ep)) ∧ i < xs.length, fun i H v H' => ∃ T x, v = .ref T ∧ H T = none ∧ H' = upd H T (.tup [.ref x.2.1, x.2.2]) ∧ xs[i]? = some x, fun i H => H a = some (.ext (dGX P w a xs es ep)) ∧ i = xs.length⟩
theorem dGX_at {P : Program} {w : World} {h : Heap} {a : Addr} {xs : List GRow} {es : Array DictEntry} {ep : Nat} (e : dGX P w a xs es ep h) : es.size = xs.length ∧ ∀ (i : Nat) (hi : i < es.size), ∃ x, xs[i]? = some x ∧ es[i].key = .ref x.2.1 ∧ RelV x.2.2 es[i].val := by
  obtain ⟨⟨_, _, ys, r, o, es', ep', h1, h2, h3, h4, _⟩, o2, g1, g2, g3⟩ := e
  have eo : o2 = o := by
    rw [h1] at g1
    exact (Option.some.inj g1).symm
  subst eo
  rw [h3] at g3
  injection g3 with e1 e2
  subst e1
  obtain ⟨rl, rat⟩ := r.at_
  have sz : es'.size = ys.length := by
    rw [← Array.length_toList, h4, List.length_map]
  refine ⟨by omega, fun i hi => ?_⟩
  have hy : i < ys.length := by omega
  have hx : i < xs.length := by omega
  have e3 : es'[i] = entryOfKey (nestedKind P w) ys[i] := by
    have : es'.toList[i]? = (ys.map (entryOfKey (nestedKind P w)))[i]? := by rw [h4]
    rw [List.getElem?_map, List.getElem?_eq_getElem hy] at this
    have e4 : es'.toList[i]? = some es'[i] := by simp [hi]
    rw [e4] at this
    exact Option.some.inj this
  obtain ⟨c1, c2, c3⟩ := rat i _ _ (List.getElem?_eq_getElem hx) (List.getElem?_eq_getElem hy)
  refine ⟨xs[i], List.getElem?_eq_getElem hx, ?_, ?_⟩
  · rw [e3, c2]
    rfl
  · rw [e3]
    exact c3
theorem turn_ditems {P : Program} {w : World} {K : PySem.W.Frag} {elts : List Expr} {kk : Nat} {tpos : Pos} (a it : Addr) (xs : List GRow) (es : Array DictEntry) (ep : Nat) (hne : a ≠ it) :
    Turn P w K (.Tuple elts kk tpos) (Itdi P w a xs es ep) [it] it (fun i h => ∃ ok ov, IsItemIter h it a i es.size ep ok ov) where
  mem := by simp
  obj := fun i h st b hb => by
    obtain ⟨ok, ov, e⟩ := st
    rw [List.mem_singleton.mp hb]
    exact ⟨_, e, fun v q => nomatch q⟩
  keep := fun i h h' st k => by
    obtain ⟨ok, ov, e⟩ := st
    exact ⟨ok, ov, k it (by simp) _ e⟩
  item := by
    intro X hP hw hK hc i pins s σ H E I hf st hg
    subst hP hw hK
    obtain ⟨hq, hx⟩ := hg
    have hX := (show ObjOk X.prog X.w H s.heap a (.ext (dGX X.prog X.w a xs es ep)) from I.hok a _ hq).1
    obtain ⟨hsz, hat⟩ := dGX_at hX
    have hi : i < es.size := by omega
    refine (GoesN.rawItems (elts := elts) (x1 := kk) (pos := tpos) (I.ok.hd hc) it a hne es ep).goes i s (fun u s2 => ∃ x H', Inv X pins σ H' s2 ∧ RelV x u ∧ (Itdi X.prog X.w a xs es ep).yld i H x H' ∧ (∃ ok ov, IsItemIter s2.heap it a (i + 1) es.size ep ok ov) ∧ ∀ b ∈ [it], H' b = none) E hi ⟨st, hX.2⟩ fun v h' tk ⟨T, hi', ev, hT, htup⟩ st' hk htk => ?_
    subst ev
    obtain ⟨x, hxx, ek, ev⟩ := hat i hi
    rw [ek] at htup
    have new : ObjOk X.prog X.w (upd H T (.tup [.ref x.2.1, x.2.2])) h' T (.tup [.ref x.2.1, x.2.2]) := ⟨by show 2 ≤ sizeLine; decide, [.ref x.2.1, es[i].val], .cons rfl (.cons ev .nil), htup⟩
    refine ⟨.ref T, _, I.turnedNew (ch := [it]) (t' := tk) (fun b ob hb q => hk b ob hb q) hf hT new, rfl, ⟨T, x, rfl, I.hok.fresh hT, rfl, hxx⟩, st'.1, fun b hb => ?_⟩
    have hl : b < s.heap.objs.size := by
      obtain ⟨ok, ov, e⟩ := st
      rw [List.mem_singleton.mp hb]
      exact Heap.lt_size e
    have bT : b ≠ T := fun z => by
      rw [z] at hl
      exact absurd hl (Nat.not_lt.mpr hT)
    rw [upd_ne bT]
    exact (hf b hb).1
  done := by
    intro X hP hw hK hc i pins s σ H E I hf st hg
    subst hP hw hK
    obtain ⟨hq, hx⟩ := hg
    have hX := (show ObjOk X.prog X.w H s.heap a (.ext (dGX X.prog X.w a xs es ep)) from I.hok a _ hq).1
    obtain ⟨hsz, hat⟩ := dGX_at hX
    have hi : i = es.size := by omega
    subst hi
    obtain ⟨f0, f1, f2, f3, f4, f5⟩ := hf it (by simp)
    exact (GoesN.rawItems (elts := elts) (x1 := kk) (pos := tpos) (I.ok.hd hc) it a hne es ep).stops s (fun s1 => Inv X pins σ H s1) E ⟨st, hX.2⟩ fun h' tk hk htk => I.turned (t' := tk) (fun b o hb q => hk b o (by simpa using hb) q) f0 f1 f3 f4 f5
  self := fun A i s Q E st h => let ⟨_, _, e⟩ := st; wpAny_pyIter_itemiter e h
def iDItems (P : Program) (w : World) (te : TE) : TI := fun σ H R => te σ H fun x H1 => ∃ r a xs, x = .ref r ∧ H1 r = some (itO r a) ∧ Dg P w H1 a xs ∧ ∀ es ep, R (Itdi P w a xs es ep) (upd H1 a (.ext (dGX P w a xs es ep)))
theorem pi_ditems {X : Cx} {e : Expr} {te : TE} {tpos : Pos} {elts : List Expr} {kk : Nat} (he : PE X e te) : PI X (.Tuple elts kk tpos) e (iDItems X.prog X.w te) := by
  refine ⟨fun pins s σ H R I h => thn (he.run pins s σ H _ I h) fun u s1 ⟨x, H1, I1, rx, r, a, xs, ex, hv, hd, q⟩ => ?_⟩
  subst ex
  cases rx
  obtain ⟨f, hf, hP⟩ := hd
  have hp := hP _ (show ObjOk X.prog X.w H1 s1.heap a (.ext f) from I1.hok a _ hf).1
  obtain ⟨hz, hm, ys, rel, o, es, ep, h1, h2, h3, h4, h5⟩ := id hp
  obtain ⟨hview, _, _⟩ := (show ObjOk X.prog X.w H1 s1.heap r (itO r a) from I1.hok r _ hv)
  have hr : s1.heap.DictRaw a es ep := ⟨o, h1, h2, h3⟩
  have I2 : Inv X pins σ (upd H1 a (.ext (dGX X.prog X.w a xs es ep))) s1 := d_write (t' := s1.toks) I1 (by rw [hf]; exact True.intro) (Heap.SameBut.refl _ _) ⟨o, h1⟩ ⟨⟨hp, hr⟩, ⟨o, h1⟩, fun g1 g2 c kp => ?_⟩
  · refine wpAny_pyIter_items_raw hview hr ?_
    have I3 : Inv X pins σ (upd H1 a (.ext (dGX X.prog X.w a xs es ep))) { s1 with heap := s1.heap.push { cls := .type "dict_itemiterator", data := .fields #[.none, .bool false, .ref a, .int 0 0, .int (es.size : Nat) 0, .int (ep : Nat) 0, .none, .none] } } := I2.kept (t' := s1.toks) fun b u q => Heap.get?_push_of_some _ q
    refine ⟨s1.heap.objs.size, [s1.heap.objs.size], _, _, _, rfl, I3, turn_ditems a s1.heap.objs.size xs es ep (Nat.ne_of_lt (Heap.lt_size h1)), ⟨.none, .none, Heap.get?_push_size _ rfl⟩, fun b hb => ?_, q es ep⟩
    rw [List.mem_singleton.mp hb]
    exact I2.fpOk (Nat.le_refl _) (I2.hok.fresh (Nat.le_refl _))
  · obtain ⟨⟨c1, c2, ys', c3, o', es', ep', d1, d2, d3, d4, d5⟩, o2, e1, e2, e3⟩ := c
    exact ⟨⟨c1, c2, ys', c3, o', es', ep', kp _ d1, d2, d3, d4, d5⟩, o2, kp _ e1, e2, e3⟩
theorem walk_ditems {P : Program} {w : World} {a : Addr} {xs : List GRow} {es : Array DictEntry} {ep : Nat} : Walk (Itdi P w a xs es ep) xs.length (fun H => H a = some (.ext (dGX P w a xs es ep))) (fun i H v H' => ∃ T x, v = .ref T ∧ H T = none ∧ H' = upd H T (.tup [.ref x.2.1, x.2.2]) ∧ xs[i]? = some x) :=
  ⟨fun _ _ hi q => ⟨q, hi⟩, fun _ q => ⟨q, rfl⟩, fun _ _ _ _ _ _ y => y⟩
end TX
namespace TX
open PySem PySem.Spec PyProof.Rows L2
/-! ### list_rows -/
def listRow (r : LRow) : Option (List Nat × Nat × PyData) := match r.1 with
  | .lst sh => some (sh, r.2.1, r.2.2)
  | _ => none
def listRows (rs : List LRow) : List (List Nat × Nat × PyData) := rs.filterMap listRow
def ListAt (K : PySem.W.Frag) (H : Hp) (t : Addr) (r : List Nat × Nat × PyData) : Prop := ∃ (b : Addr) (vv : V), SqT K H t [.ref b, .int ((r.2.1 : Nat) : Int), vv] ∧ SqT K H b (r.1.map fun (n : Nat) => V.int n) ∧ Dp K H vv r.2.2
theorem ListAt.up {K : PySem.W.Frag} {H G : Hp} {t : Addr} {r : List Nat × Nat × PyData} (h : ListAt K H t r) (s : Same H G) : ListAt K G t r := by
  obtain ⟨b, vv, h1, h2, h3⟩ := h
  exact ⟨b, vv, same_sqt s h1, same_sqt s h2, dp_same s _ _ h3⟩
/-- all but a stays -/
def Kp (a : Addr) (H G : Hp) : Prop := ∀ b o, b ≠ a → H b = some o → G b = some o
theorem Kp.refl (a : Addr) (H : Hp) : Kp a H H := fun _ _ _ e => e
theorem Kp.trans {a : Addr} {H G G' : Hp} (h : Kp a H G) (k : Kp a G G') : Kp a H G' := fun b o n e => k b o n (h b o n e)
theorem Kp.of {a : Addr} {H G : Hp} (s : Same H G) : Kp a H G := fun b o _ e => s b o e
theorem Kp.del {a : Addr} {H G : Hp} (h : Kp a H G) : Same (L2.del H a) (L2.del G a) := kept_del h
theorem Kp.set {a : Addr} {H : Hp} {o : HO} : Kp a H (upd H a o) := fun b u n e => by
  rw [upd_ne n]
  exact e
theorem Told.keys {K : PySem.W.Frag} {H : Hp} {gs : List Sx} {xs : List GRow} {rs : List LRow} (h : Each2 (Told K H gs) xs rs) : GKeys K H xs := fun x hx => by
  obtain ⟨i, hi⟩ := List.mem_iff_getElem?.mp hx
  obtain ⟨r, _, t⟩ := h.get hi
  rw [t.key]
  exact ⟨t.at_, Lk.key_dep _⟩
def spListRows (P : Program) (w : World) (K : PySem.W.Frag) : Sp := fun vs H Q _ => ∃ (a : Addr) (gs : List Sx) (xs : List GRow) (rs : List LRow), vs = [.ref a] ∧ Dg P w H a xs ∧ Each2 (Told K (L2.del H a) gs) xs rs ∧ xs.length ≤ 1000 ∧
  ∀ (H' : Hp) (D : Addr) (ts : List Addr), Kp a H H' → H D = none → H' D = some (.lst (ts.map V.ref)) → Dg P w H' a xs → Each2 (ListAt K (L2.del H' a)) ts (listRows rs) → Q (.ref D) H'
section
variable {P : Program} {w : World} {K : PySem.W.Frag} {mg : Str → Option Value} {base : Heap}
theorem Dg.obj {P : Program} {w : World} {H : Hp} {a : Addr} {xs : List GRow} (h : Dg P w H a xs) : ∃ f, H a = some (.ext f) := let ⟨f, e, _⟩ := h; ⟨f, e⟩
theorem Dg.up {P : Program} {w : World} {H G : Hp} {a : Addr} {xs : List GRow} (h : Dg P w H a xs) (s : Same H G) : Dg P w G a xs := let ⟨f, e, z⟩ := h; ⟨f, s _ _ e, z⟩
theorem nx_prog {CX : CXT} {P : Program} {w : World} {K : PySem.W.Frag} {mg : Str → Option Value} {base : Heap} {N : List Str} {q : Str} {sc : Scope} {f : Addr} {cdv : Value} {A : Around} {outer : List Env} {s : Shared} {H : Hp} {E : XK} : (cxOf CX P w K mg base N q sc f cdv A outer s H E).nox.prog = P := rfl
theorem nx_w {CX : CXT} {P : Program} {w : World} {K : PySem.W.Frag} {mg : Str → Option Value} {base : Heap} {N : List Str} {q : Str} {sc : Scope} {f : Addr} {cdv : Value} {A : Around} {outer : List Env} {s : Shared} {H : Hp} {E : XK} : (cxOf CX P w K mg base N q sc f cdv A outer s H E).nox.w = w := rfl
theorem scListRows : FnScope ["rows", "look", "row"] ["rows"] (defScope s_list_rows) := ⟨rfl, rfl, rfl, by decide +kernel, rfl, by decide +kernel, by decide +kernel⟩
theorem ok_listRows {f : Addr} {fd : FuncData} (F : Fun K "list_rows" "list_rows" s_list_rows f fd) : FnOk P w K mg base CX0 1 f fd ["rows"] (spListRows P w K) := by
  refine F.ok scListRows (fun vs H Q E h => ?_) (fun cdv A outer s H vs Q E hr h => ?_)
  · obtain ⟨a, gs, xs, rs, rfl, _⟩ := h
    rfl
  · obtain ⟨a, gs, xs, rs, rfl, hd, hE, hz, q⟩ := h
    refine ⟨_, pss_one (ps_ret (pe_lc (own := [("look", 1), ("row", 2)]) (g := gTup K 2 (gCons (gName 1) (gCons (gName 2) gNil))) (tt := tTest (tOp rEq (tOp (rIxT K) (tVar 1) (tC (.int 0))) (tC (.str "list")))) (te := tTup (tCons (tOp (rIxT K) (tVar 1) (tC (.int 1))) (tCons (tOp (rIxT K) (tVar 2) (tC (.int 0))) (tCons (tOp (rIxT K) (tVar 2) (tC (.int 1))) tNil)))) rfl scListRows.nd (pi_ditems (pe_ditems (pv 0)))
      (blkOk_by (own := [("look", 1), ("row", 2)]) (N := ["rows", "look", "row"]) (sc := defScope s_list_rows) (by decide +kernel))
      (fun _ _ _ _ _ => pg_tup rfl (pgs_cons (pg_name (i := 1) scListRows.nd rfl (Or.inl rfl)) (pgs_cons (pg_name (i := 2) scListRows.nd rfl (Or.inl rfl)) pgs_nil))) (fun _ _ _ _ _ => pts_one (pt_cmpR op_eq (pe_ix ix_tup (pv 1) pe_int (fun _ _ => rfl)) pe_str (nomark _)))
      (fun _ _ _ _ _ => pe_tup (pa_cons (pe_ix ix_tup (pv 1) pe_int (fun _ _ => rfl)) (pa_cons (pe_ix ix_tup (pv 2) pe_int (fun _ _ => rfl)) (pa_cons (pe_ix ix_tup (pv 2) pe_int (fun _ _ => rfl)) pa_nil)))))), ?_⟩
    obtain ⟨f0, ha0⟩ := hd.obj
    have keys := Told.keys hE
    refine ⟨_, rfl, a, xs, rfl, hd, fun x hx => ⟨dp_same del_sub _ _ (keys x hx).1, (keys x hx).2⟩, fun r nr => ?_⟩
    have s1 := same_upd (o := itO r a) nr
    have har : a ≠ r := ne_of_none ha0 nr
    refine ⟨r, a, xs, rfl, upd_same, hd.up s1, fun es ep => ?_⟩
    rw [nx_prog, nx_w]
    intro D nD
    generalize hH2 : upd (upd H r (itO r a)) a (.ext (dGX P w a xs es ep)) = H2 at *
    have k2 : Kp a H H2 := by
      rw [← hH2]
      exact (Kp.of s1).trans Kp.set
    have ha2 : H2 a = some (.ext (dGX P w a xs es ep)) := by rw [← hH2, upd_same]
    have haD : a ≠ D := ne_of_none ha2 nD
    refine walk_turns walk_ditems (fun i G => ∃ ts : List Addr, G D = some (.lst (ts.map V.ref)) ∧ Same H2 G ∧ Each2 (ListAt K (L2.del (L2.del G a) D)) ts (listRows (rs.take i)) ∧ ts.length ≤ i) ⟨[], upd_same, same_upd nD, .nil, Nat.le_refl _⟩ (fun i G hi ⟨_, _, sm, _⟩ => sm _ _ ha2) ?_ ?_
    · rintro i v G G' hi ⟨ts, hD, sm, hL, tl⟩ ⟨T1, x, rfl, nT, rfl, hx⟩
      obtain ⟨lr, er, tr⟩ := hE.get hx
      obtain ⟨u, hk, hu⟩ := lk_at tr.at_
      obtain ⟨t, vv, aA, ex, a1, b1, c1⟩ := tr.val
      have il : i < xs.length := (List.getElem?_eq_some_iff.mp hx).1
      have tk1 : listRows (rs.take (i + 1)) = listRows (rs.take i) ++ (listRow lr).toList := by
        unfold listRows
        rw [List.take_add_one, er, List.filterMap_append]
        cases hl : listRow lr <;> simp [hl]
      have sT1 := same_upd (o := .tup [.ref x.2.1, x.2.2]) nT
      have kG : Kp a H (upd G T1 (.tup [.ref x.2.1, x.2.2])) := k2.trans (Kp.of (sm.trans sT1))
      have sV : Same (L2.del H a) (upd G T1 (.tup [.ref x.2.1, x.2.2])) := kG.del.trans del_sub
      have haT : a ≠ T1 := ne_of_none (sm _ _ ha2) nT
      have hDT : D ≠ T1 := ne_of_none hD nT
      have dk : ∀ {G1 G2 : Hp}, Same G1 G2 → Same (L2.del (L2.del G1 a) D) (L2.del (L2.del G2 a) D) := fun s => del_mono (del_mono s)
      rw [tk1]
      refine ⟨T1, _, rfl, SqT.of upd_same, rfl, _, _, rfl, _, _, rfl, rfl, rfl, _, rfl, x.2.1, _, 0, _, rfl, rfl, same_sqt sV hk, atI_nat (j := 0) rfl, rfl, _, rfl, ?_⟩
      obtain ⟨lk, sz, d⟩ := lr
      cases lk with
      | non =>
        refine sF (by simp only [Lk.kind]; decide +kernel) ⟨ts, sT1 _ _ hD, sm.trans sT1, ?_, by omega⟩
        simp only [listRow, Option.toList_none, List.append_nil]
        exact hL.imp fun _ _ z => z.up (dk sT1)
      | txt m =>
        refine sF (by simp only [Lk.kind]; decide +kernel) ⟨ts, sT1 _ _ hD, sm.trans sT1, ?_, by omega⟩
        simp only [listRow, Option.toList_none, List.append_nil]
        exact hL.imp fun _ _ z => z.up (dk sT1)
      | lst sh =>
        obtain ⟨b, rfl, hb⟩ := hu
        refine sT rfl ⟨_, rfl, x.2.1, _, 1, _, rfl, rfl, same_sqt sV hk, atI_nat (j := 1) rfl, _, rfl, t, _, 0, _, ex, rfl, same_sqt sV a1, atI_nat (j := 0) rfl, _, rfl, t, _, 1, _, ex, rfl, same_sqt sV a1, atI_nat (j := 1) rfl, (by show 3 ≤ sizeLine; decide), fun t2 nt2 => ?_⟩
        have st2 := same_upd (o := .tup [.ref b, .int ((sz : Nat) : Int), vv]) nt2
        have ht2D : D ≠ t2 := ne_of_none (sT1 _ _ hD) nt2
        have ht2a : a ≠ t2 := ne_of_none (sT1 _ _ (sm _ _ ha2)) nt2
        refine ⟨_, st2 _ _ (sT1 _ _ hD), ?_, ts ++ [t2], ?_, same_fresh nD (sm.trans (sT1.trans st2)), ?_, by rw [List.length_append]; show ts.length + 1 ≤ i + 1; omega⟩
        · rw [List.length_map]
          exact Nat.lt_of_le_of_lt (show ts.length ≤ 1000 by omega) (by decide)
        · rw [upd_same, List.map_append]
          rfl
        have up1 : Same (L2.del (L2.del G a) D) (L2.del (L2.del (upd (upd (upd G T1 (.tup [.ref x.2.1, x.2.2])) t2 (.tup [.ref b, .int ((sz : Nat) : Int), vv])) D (.lst (ts.map V.ref ++ [.ref t2]))) a) D) := fun b u e => by
          obtain ⟨hb, e⟩ := del_some e
          obtain ⟨hb2, e⟩ := del_some e
          rw [del_ne hb, del_ne hb2, upd_ne hb]
          exact st2 _ _ (sT1 _ _ e)
        have up2 : Same (L2.del H a) (L2.del (L2.del (upd (upd (upd G T1 (.tup [.ref x.2.1, x.2.2])) t2 (.tup [.ref b, .int ((sz : Nat) : Int), vv])) D (.lst (ts.map V.ref ++ [.ref t2]))) a) D) := fun b u e => by
          obtain ⟨hb, e⟩ := del_some e
          have hbD : b ≠ D := fun z => by
            have := k2 b u hb e
            rw [z, nD] at this
            cases this
          rw [del_ne hbD, del_ne hb, upd_ne hbD]
          exact st2 _ _ (kG b u hb e)
        refine (hL.imp fun _ _ z => z.up up1).app (.cons ⟨b, vv, SqT.of ?_, same_sqt up2 hb, dp_same up2 _ _ b1⟩ .nil)
        rw [del_ne ht2D.symm, del_ne ht2a.symm, upd_ne ht2D.symm, upd_same]
    rintro G ⟨ts, hD, sm, hL, _⟩
    rw [hE.len, List.take_length] at hL
    have nDH : H D = none := by
      cases e : H D with
      | none => rfl
      | some o => rw [k2 D o haD.symm e] at nD; cases nD
    refine q G D ts (k2.trans (Kp.of sm)) nDH hD ⟨_, sm _ _ ha2, fun h z => z.1⟩ (hL.imp fun _ _ z => z.up del_sub)
end
end TX
namespace TX
open PySem PySem.Spec PyProof.Rows L2
/-! ### rows of a dict: what a put does -/
def subs : List Nat → List (List Nat)
  | [] => [[]]
  | a :: l => subs l ++ (subs l).map (a :: ·)
theorem subs_len : ∀ l : List Nat, (subs l).length = 2 ^ l.length
  | [] => rfl
  | a :: l => by
    simp only [subs, List.length_append, List.length_map, subs_len l, List.length_cons, Nat.pow_succ]
    omega
theorem filter_subs (p : Nat → Bool) : ∀ l : List Nat, l.filter p ∈ subs l
  | [] => by simp [subs]
  | a :: l => by
    have := filter_subs p l
    simp only [subs, List.filter_cons]
    split
    · exact List.mem_append_right _ (List.mem_map_of_mem this)
    · exact List.mem_append_left _ this
def lkU (ak : List Nat) (lim : Nat) : List Lk := .non :: ((List.range (lim + 2)).map Lk.txt ++ (subs ak).map Lk.lst)
theorem lkU_len (ak : List Nat) (lim : Nat) : (lkU ak lim).length = lim + 3 + 2 ^ ak.length := by
  simp only [lkU, List.length_cons, List.length_append, List.length_map, List.length_range, subs_len]
  omega
theorem lkU_in {gs : List Sx} {ak : List Nat} {lim : Nat} {d : PyData} (hd : valD d) : lkOf gs ak lim d ∈ lkU ak lim := by
  cases d with
  | none => exact List.mem_cons_self
  | str x =>
    refine List.mem_cons_of_mem _ (List.mem_append_left _ (List.mem_map.mpr ⟨_, ?_, rfl⟩))
    rw [List.mem_range]
    omega
  | list es => exact List.mem_cons_of_mem _ (List.mem_append_right _ (List.mem_map_of_mem (filter_subs _ _)))
  | _ => exact hd.elim
theorem Sound.inU {gs : List Sx} {ak : List Nat} {lim : Nat} {rows : List LRow} (h : Sound gs ak lim rows) : ∀ r ∈ rows, r.1 ∈ lkU ak lim := fun r hr => by
  obtain ⟨h1, h2, h3⟩ := h r hr
  rw [← h3]
  exact lkU_in h1
theorem base_sound (gs : List Sx) (ak : List Nat) (lim : Nat) : Sound gs ak lim (baseL ak lim) := fun r hr => by
  unfold baseL at hr
  rcases List.mem_cons.mp hr with rfl | hr
  · exact ⟨trivial, rfl, rfl⟩
  · rcases List.mem_append.mp hr with hr | hr
    · obtain ⟨m, hm, rfl⟩ := List.mem_map.mp hr
      rw [List.mem_range] at hm
      refine ⟨aStr_lt m, ?_, ?_⟩
      · simp only [sz, aStr_len]
        omega
      · simp only [lkOf, aStr_len]
        congr 1
        omega
    · cases List.mem_singleton.mp hr
      refine ⟨trivial, rfl, ?_⟩
      simp [lkOf]
theorem base_based (ak : List Nat) (lim : Nat) : Based ak lim (baseL ak lim) := by
  refine ⟨⟨_, List.mem_cons_self, rfl, Nat.le_refl _⟩, fun m hm => ⟨(.txt m, 1 + m, .str (aStr m)), ?_, rfl, Nat.le_refl _⟩, ⟨(.lst ak, 1, .list []), ?_, rfl, Nat.le_refl _⟩⟩
  · exact List.mem_cons_of_mem _ (List.mem_append_left _ (List.mem_map.mpr ⟨m, by rw [List.mem_range]; omega, rfl⟩))
  · exact List.mem_cons_of_mem _ (List.mem_append_right _ (List.mem_singleton.mpr rfl))
theorem base_len (ak : List Nat) (lim : Nat) : (baseL ak lim).length = lim + 4 := by
  simp only [baseL, List.length_cons, List.length_append, List.length_map, List.length_range, List.length_nil]
theorem base_nodup (ak : List Nat) (lim : Nat) : ((baseL ak lim).map (·.1)).Nodup := by
  simp only [baseL, List.map_cons, List.map_append, List.map_map, List.map_nil]
  rw [List.nodup_cons]
  refine ⟨fun h => ?_, ?_⟩
  · rcases List.mem_append.mp h with h | h
    · obtain ⟨m, _, e⟩ := List.mem_map.mp h
      cases e
    · cases List.mem_singleton.mp h
  · rw [List.nodup_append]
    refine ⟨?_, by simp, fun x hx y hy e => ?_⟩
    · rw [List.nodup_iff_pairwise_ne, List.pairwise_map]
      refine (List.nodup_iff_pairwise_ne.mp List.nodup_range).imp fun h e => h ?_
      simp only [Function.comp] at e
      exact Lk.txt.inj e
    · obtain ⟨m, _, e2⟩ := List.mem_map.mp hx
      rw [List.mem_singleton.mp hy, ← e2] at e
      cases e
def Bnd (n0 : Nat) (rows : List LRow) : Prop := n0 ≤ rows.length ∧ ∀ r ∈ rows, r.2.1 ≤ 5 * 2 ^ (rows.length - n0)
theorem base_bnd {ak : List Nat} {lim : Nat} (h : lim ≤ 3) : Bnd (lim + 4) (baseL ak lim) := by
  refine ⟨by rw [base_len]; exact Nat.le_refl _, fun r hr => ?_⟩
  rw [base_len, Nat.sub_self]
  unfold baseL at hr
  rcases List.mem_cons.mp hr with rfl | hr
  · decide
  · rcases List.mem_append.mp hr with hr | hr
    · obtain ⟨m, hm, rfl⟩ := List.mem_map.mp hr
      rw [List.mem_range] at hm
      show 1 + m ≤ 5 * 2 ^ 0
      omega
    · cases List.mem_singleton.mp hr
      show 1 ≤ 5 * 2 ^ 0
      decide
section
variable {rows : List LRow} {lk : Lk} {s n0 : Nat} {v : PyData}
theorem putL_new (h : ∀ r ∈ rows, r.1 ≠ lk) : putL rows lk s v = rows ++ [(lk, s, v)] := by
  unfold putL
  rw [if_neg]
  intro z
  obtain ⟨r, hr, e⟩ := List.any_eq_true.mp z
  exact h r hr (by simpa using e)
theorem putL_old_len (h : ∃ r ∈ rows, r.1 = lk) : (putL rows lk s v).length = rows.length := by
  unfold putL
  obtain ⟨r, hr, e⟩ := h
  rw [if_pos (List.any_eq_true.mpr ⟨r, hr, by simpa using e⟩), List.length_map]
theorem Bnd.put (h : Bnd n0 rows) {M N : Nat} (hM : M ≤ 5 * 2 ^ (rows.length - n0)) (hN : N ≤ 5 * 2 ^ (rows.length - n0)) (hs : s = M + N) (hnew : (∀ r ∈ rows, r.1 ≠ lk) ∨ ∃ r ∈ rows, r.1 = lk ∧ s < r.2.1) : Bnd n0 (putL rows lk s v) ∧ rows.length ≤ (putL rows lk s v).length := by
  rcases hnew with z | ⟨q, hq, e, l⟩
  · have e1 : (putL rows lk s v).length = rows.length + 1 := by
      rw [putL_new z, List.length_append]
      rfl
    have e2 : rows.length + 1 - n0 = (rows.length - n0) + 1 := by
      have := h.1
      omega
    refine ⟨⟨by have := h.1; omega, fun r hr => ?_⟩, by omega⟩
    rw [e1, e2, Nat.pow_succ]
    rcases putL_mem hr with rfl | hr
    · show s ≤ _
      omega
    · have := h.2 r hr
      omega
  · have e1 : (putL rows lk s v).length = rows.length := putL_old_len ⟨q, hq, e⟩
    refine ⟨⟨by have := h.1; omega, fun r hr => ?_⟩, by omega⟩
    rw [e1]
    rcases putL_mem hr with rfl | hr
    · have := h.2 q hq
      show s ≤ _
      omega
    · exact h.2 r hr
end
section
variable {K : PySem.W.Frag} {H : Hp} {gs : List Sx}
theorem told_find : ∀ {xs : List GRow} {rs : List LRow}, Each2 (Told K H gs) xs rs → ∀ lk : Lk, (gfind xs lk.key = none ∧ ∀ r ∈ rs, r.1 ≠ lk) ∨ ∃ x r, x ∈ xs ∧ gfind xs lk.key = some x.2.2 ∧ r ∈ rs ∧ r.1 = lk ∧ Told K H gs x r
  | _, _, .nil, lk => .inl ⟨rfl, fun r hr => nomatch hr⟩
  | _, _, @Each2.cons _ _ _ x r xs rs t h, lk => by
    by_cases e : r.1 = lk
    · refine .inr ⟨x, r, List.mem_cons_self, ?_, List.mem_cons_self, e, t⟩
      unfold gfind
      rw [List.find?_cons_of_pos (by rw [t.key, e]; exact decide_eq_true rfl)]
      rfl
    · have ne : ¬ x.1 = lk.key := fun z => e (Lk.key_inj (by rw [← t.key, z]))
      have f : gfind (x :: xs) lk.key = gfind xs lk.key := by
        unfold gfind
        rw [List.find?_cons_of_neg (by simpa using ne)]
      rcases told_find h lk with ⟨h1, h2⟩ | ⟨y, q, h1, h2, h3, h4, h5⟩
      · refine .inl ⟨by rw [f, h1], fun q hq => ?_⟩
        rcases List.mem_cons.mp hq with rfl | hq
        · exact e
        · exact h2 q hq
      · exact .inr ⟨y, q, List.mem_cons_of_mem _ h1, by rw [f, h2], List.mem_cons_of_mem _ h3, h4, h5⟩
theorem told_put {xs : List GRow} {rs : List LRow} (h : Each2 (Told K H gs) xs rs) {lk : Lk} {s : Nat} {d : PyData} {b t : Addr} (hn : Told K H gs (lk.key, b, .ref t) (lk, s, d)) : Each2 (Told K H gs) (gput xs lk.key b (.ref t)) (putL rs lk s d) := by
  have rep : ∀ {xs : List GRow} {rs : List LRow}, Each2 (Told K H gs) xs rs → Each2 (Told K H gs) (xs.map (fun x => if x.1 = lk.key then (x.1, x.2.1, .ref t) else x)) (rs.map (fun r => if r.1 = lk then (lk, s, d) else r)) := by
    intro xs rs h
    induction h with
    | nil => exact .nil
    | @cons x r xs rs t0 h ih =>
      refine .cons ?_ ih
      show Told K H gs (if x.1 = lk.key then (x.1, x.2.1, .ref t) else x) (if r.1 = lk then (lk, s, d) else r)
      by_cases e : r.1 = lk
      · have ek : x.1 = lk.key := by rw [t0.key, e]
        rw [if_pos ek, if_pos e]
        refine ⟨by rw [t0.key, e], ?_, hn.val⟩
        have := t0.at_
        rw [e] at this
        exact this
      · have ek : ¬ x.1 = lk.key := fun z => e (Lk.key_inj (by rw [← t0.key, z]))
        rw [if_neg ek, if_neg e]
        exact t0
  rcases told_find h lk with ⟨h1, h2⟩ | ⟨y, q, h1, h2, h3, h4, h5⟩
  · rw [putL_new h2]
    unfold gput
    rw [h1, if_neg (by simp)]
    exact h.app (.cons hn .nil)
  · unfold gput putL
    rw [h2, if_pos (show (some y.2.2).isSome = true from rfl), if_pos (List.any_eq_true.mpr ⟨q, h3, by simpa using h4⟩)]
    exact rep h
end
end TX
namespace TX
open PySem PySem.Spec PyProof.Rows L2
/-! ### the state of least_rows -/
theorem sql_ext {K : PySem.W.Frag} {H : Hp} {a b : Addr} {xs : List V} {f : Heap → Prop} (ha : H a = some (.ext f)) (h : SqL K H b xs) : SqL K (L2.del H a) b xs := by
  have ne : ∀ {o : HO}, H b = some o → (∀ f, o ≠ .ext f) → b ≠ a := fun e k z => by
    rw [z, ha] at e
    exact k f (Option.some.inj e).symm
  rcases h with (h | ⟨o, h⟩) | h
  · exact .inl (.inl (by rw [del_ne (ne h fun _ z => nomatch z)]; exact h))
  · exact .inl (.inr ⟨o, by rw [del_ne (ne h fun _ z => nomatch z)]; exact h⟩)
  · exact .inr h
theorem sqt_ext {K : PySem.W.Frag} {H : Hp} {a b : Addr} {xs : List V} {f : Heap → Prop} (ha : H a = some (.ext f)) (h : SqT K H b xs) : SqT K (L2.del H a) b xs := by
  have ne : ∀ {o : HO}, H b = some o → (∀ f, o ≠ .ext f) → b ≠ a := fun e k z => by
    rw [z, ha] at e
    exact k f (Option.some.inj e).symm
  rcases h with (h | ⟨o, h⟩) | h
  · exact .inl (.inl (by rw [del_ne (ne h fun _ z => nomatch z)]; exact h))
  · exact .inl (.inr ⟨o, by rw [del_ne (ne h fun _ z => nomatch z)]; exact h⟩)
  · exact .inr h
mutual
theorem dp_ext {K : PySem.W.Frag} {H : Hp} {a : Addr} {f : Heap → Prop} (ha : H a = some (.ext f)) : ∀ (d : PyData) (v : V), Dp K H v d → Dp K (L2.del H a) v d
  | .none, _, h => by cases h; exact .non
  | .bool b, _, h => by cases h; exact .bl b
  | .int i, _, h => by cases h; exact .int i
  | .str x, _, h => by cases h; exact .str x
  | .list ds, _, h => by
    cases h with
    | lst h1 h2 => exact .lst (sql_ext ha h1) (dpAll_ext ha _ _ h2)
  | .tuple ds, _, h => by
    cases h with
    | tup h1 h2 => exact .tup (sqt_ext ha h1) (dpAll_ext ha _ _ h2)
  | .dict _, _, h => by cases h
theorem dpAll_ext {K : PySem.W.Frag} {H : Hp} {a : Addr} {f : Heap → Prop} (ha : H a = some (.ext f)) : ∀ (ds : List PyData) (vs : List V), DpAll K H vs ds → DpAll K (L2.del H a) vs ds
  | [], _, h => by cases h; exact .nil
  | d :: ds, _, h => by
    cases h with
    | cons h1 h2 => exact .cons (dp_ext ha _ _ h1) (dpAll_ext ha _ _ h2)
end
def bigN (ak : List Nat) (lim : Nat) : Nat := 10 * 2 ^ (lkU ak lim).length + 1
structure Lr (P : Program) (w : World) (K : PySem.W.Frag) (H : Hp) (gs : List Sx) (ak : List Nat) (lim : Nat) (a : Addr) (G : Hp) (xs : List GRow) (rs : List LRow) : Prop where
  s : Same H G
  dg : Dg P w G a xs
  ea : Each2 (Told K (L2.del G a) gs) xs rs
  so : Sound gs ak lim rs
  ba : Based ak lim rs
  nd : (rs.map (·.1)).Nodup
  bd : Bnd (lim + 4) rs
section
variable {P : Program} {w : World} {K : PySem.W.Frag} {H : Hp} {gs : List Sx} {ak : List Nat} {lim : Nat} {a : Addr} {G G3 : Hp} {xs : List GRow} {rs : List LRow}
theorem Lr.up (h : Lr P w K H gs ak lim a G xs rs) (s : Same G G3) : Lr P w K H gs ak lim a G3 xs rs := ⟨h.s.trans s, h.dg.up s, h.ea.imp fun _ _ z => z.up (del_mono s), h.so, h.ba, h.nd, h.bd⟩
theorem Lr.kp (h : Lr P w K H gs ak lim a G xs rs) (na : H a = none) (k : Kp a G G3) (d : Dg P w G3 a xs) : Lr P w K H gs ak lim a G3 xs rs := ⟨fun b o e => k b o (ne_of_none e na) (h.s b o e), d, h.ea.imp fun _ _ z => z.up k.del, h.so, h.ba, h.nd, h.bd⟩
theorem Lr.len (h : Lr P w K H gs ak lim a G xs rs) : rs.length ≤ (lkU ak lim).length := by
  have := nodup_le (rs.map (·.1)) (lkU ak lim) h.nd fun x hx => by
    obtain ⟨r, hr, e⟩ := List.mem_map.mp hx
    rw [← e]
    exact h.so.inU r hr
  rwa [List.length_map] at this
theorem Lr.keys (h : Lr P w K H gs ak lim a G xs rs) : GKeys K G xs := fun x hx => ⟨dp_same del_sub _ _ (Told.keys h.ea x hx).1, (Told.keys h.ea x hx).2⟩
theorem row_one {rs : List LRow} (nd : (rs.map (·.1)).Nodup) {r q : LRow} (hr : r ∈ rs) (hq : q ∈ rs) (e : r.1 = q.1) : r = q := by
  obtain ⟨i, hi⟩ := List.mem_iff_getElem?.mp hr
  obtain ⟨j, hj⟩ := List.mem_iff_getElem?.mp hq
  obtain ⟨hi2, ei⟩ := List.getElem?_eq_some_iff.mp hi
  obtain ⟨hj2, ej⟩ := List.getElem?_eq_some_iff.mp hj
  have ij : i = j := by
    refine (List.getElem_inj (xs := rs.map (·.1)) (h₀ := by rw [List.length_map]; exact hi2) (h₁ := by rw [List.length_map]; exact hj2) nd).mp ?_
    rw [List.getElem_map, List.getElem_map, ei, ej, e]
  subst ij
  rw [← ei, ← ej]
theorem Lr.put {lk : Lk} {s M N : Nat} {d : PyData} {b t : Addr} (h : Lr P w K H gs ak lim a G xs rs) (na : H a = none) (sG : Same G G3) (hn : Told K (L2.del G3 a) gs (lk.key, b, .ref t) (lk, s, d)) (hv : valD d) (hz : sz d = s) (hl : lkOf gs ak lim d = lk)
    (hM : M ≤ 5 * 2 ^ (rs.length - (lim + 4))) (hN : N ≤ 5 * 2 ^ (rs.length - (lim + 4))) (hs : s = M + N) (hnew : (∀ r ∈ rs, r.1 ≠ lk) ∨ ∃ r ∈ rs, r.1 = lk ∧ s < r.2.1) :
    Lr P w K H gs ak lim a (upd G3 a (dGO P w a (gput xs lk.key b (.ref t)))) (gput xs lk.key b (.ref t)) (putL rs lk s d) ∧ pot (lkU ak lim) (bigN ak lim) (putL rs lk s d) < pot (lkU ak lim) (bigN ak lim) rs ∧ rs.length ≤ (putL rs lk s d).length := by
  have h3 := h.up sG
  have kp : Kp a G3 (upd G3 a (dGO P w a (gput xs lk.key b (.ref t)))) := Kp.set
  obtain ⟨bd, ln⟩ := h.bd.put hM hN hs (v := d) hnew
  have le : ∀ r ∈ rs, r.1 = lk → s ≤ r.2.1 := fun r hr e => by
    rcases hnew with z | ⟨q, hq, e2, l⟩
    · exact absurd e (z r hr)
    · rw [row_one h.nd hr hq (by rw [e, e2])]
      exact Nat.le_of_lt l
  refine ⟨⟨fun c o e => kp c o (ne_of_none e na) (h3.s c o e), Dg.of upd_same, (told_put h3.ea hn).imp fun _ _ z => z.up kp.del, h.so.put hv hz hl, h.ba.put le, keys_put h.nd, bd⟩, ?_, ln⟩
  refine pot_put h.nd h.so.inU (by rw [← hl]; exact lkU_in hv) ?_ hnew
  have hp : 2 ^ (rs.length - (lim + 4)) ≤ 2 ^ (lkU ak lim).length := Nat.pow_le_pow_right (by decide) (Nat.le_trans (Nat.sub_le _ _) h.len)
  unfold bigN
  omega
end
end TX
namespace TX
open PySem PySem.Spec PyProof.Rows L2
/-! ### least_rows -/
theorem es_len : ∀ es : List PyData, es.length ≤ szAll es
  | [] => Nat.le_refl _
  | d :: es => by
    have := es_len es
    have : 1 ≤ sz d := by cases d <;> simp [sz]
    simp only [List.length_cons, szAll]
    omega
theorem dpAll_push {K : PySem.W.Frag} {H : Hp} : ∀ {es : List PyData} {us : List V} {e : PyData} {v : V}, DpAll K H us es → Dp K H v e → DpAll K H (us ++ [v]) (es ++ [e])
  | [], us, e, v, h, k => by
    cases h
    exact .cons k .nil
  | d :: es, us, e, v, h, k => by
    cases h with
    | cons h1 h2 => exact .cons h1 (dpAll_push h2 k)
def spRows (K : PySem.W.Frag) : Sp := fun vs H Q _ => ∃ (rc : Addr) (as : List Addr) (gs : List Sx), vs = [.ref rc] ∧ RecX K H rc as gs ∧ gs.length ≤ 600 ∧ askX gs ≤ 3 ∧ ∀ (G : Hp) (l : Addr) (xs : List GRow) (rs : List LRow) (ak : List Nat) (lim : Nat), Same H G → H l = none → G l = some (.lst (gvals xs)) → Each2 (Told K G gs) xs rs → Sound gs ak lim rs → Based ak lim rs → Closed gs rs → (∀ r ∈ rs, r.2.1 ≤ 640) → rs.length ≤ 14 → Asks gs ak lim → (∀ k ∈ ak, k < gs.length) → Q (.ref l) G
section
variable {P : Program} {w : World} {K : PySem.W.Frag} {mg : Str → Option Value} {base : Heap}
theorem scRows : FnScope ["recipe", "rows", "look", "size", "value", "growing", "shared", "more", "item", "answers", "number"] ["recipe"] (defScope s_least_rows) := ⟨rfl, rfl, rfl, by decide +kernel, rfl, by decide +kernel, by decide +kernel⟩
theorem ok_rows {f fL fR fA : Addr} {fd dL dR dA : FuncData} (F : Fun K "least_rows" "least_rows" s_least_rows f fd) (T : Nm mg)
    (GL : FnOk P w K mg base CX0 2 fL dL ["recipe"] (spLeaves K)) (gL : mg "least_leaves" = some (.ref fL)) (kL : PySem.W.keepIn K (.ref fL) = true) (bL : Binds K dL ["recipe"] [])
    (GR : FnOk P w K mg base CX0 1 fR dR ["rows"] (spListRows P w K)) (gR : mg "list_rows" = some (.ref fR)) (kR : PySem.W.keepIn K (.ref fR) = true) (bR : Binds K dR ["rows"] [])
    (GA : FnOk P w K mg base CX0 3 fA dA ["recipe", "look"] (spAnswers K)) (gA : mg "answers_to" = some (.ref fA)) (kA : PySem.W.keepIn K (.ref fA) = true) (bA : Binds K dA ["recipe", "look"] []) : FnOk P w K mg base CX0 4 f fd ["recipe"] (spRows K) := by
  refine F.ok scRows (fun vs H Q E h => ?_) (fun cdv A outer s H vs Q E hr h => ?_)
  · obtain ⟨rc, as, gs, rfl, _⟩ := h
    rfl
  · obtain ⟨rc, as, gs, rfl, R, hz, hx, q⟩ := h
    have hu := hr.units
    have hr2 := hr.mono (show 2 ≤ 3 by decide)
    have hr1 := hr.mono (show 1 ≤ 3 by decide)
    refine ⟨_, pss_cons (ps_set (i := 1) scRows.nd rfl (.inl rfl) pe_dnewG) <|
      pss_cons (ps_for PassesOwn.never rfl (pi_list (pe_call GL hr2 (by rfl) gL kL bL .nil pass0 (pa_cons (pv 0) pa_nil))) (pg_tup rfl (pgs_cons (pg_name (i := 2) scRows.nd rfl (.inl rfl)) (pgs_cons (pg_name (i := 3) scRows.nd rfl (.inl rfl)) (pgs_cons (pg_name (i := 4) scRows.nd rfl (.inl rfl)) pgs_nil))))
        (pss_one (ps_dputG hu (pv 1) (pv 2) (pe_tup (pa_cons (pv 3) (pa_cons (pv 4) (pa_cons (pe_call GA hr (by rfl) gA kA bA .nil pass0 (pa_cons (pv 0) (pa_cons (pv 2) pa_nil))) pa_nil)))) (by rfl)))) <|
      pss_cons (ps_set (i := 5) scRows.nd rfl (.inl rfl) pe_bl) <|
      pss_cons (ps_while PassesOwn.never (pt_val (pv 5)) (
        pss_cons (ps_set (i := 5) scRows.nd rfl (.inl rfl) pe_bl) <|
        pss_one (ps_for PassesOwn.never rfl (pi_list (pe_call GR hr1 (by rfl) gR kR bR .nil pass0 (pa_cons (pv 1) pa_nil))) (pg_tup rfl (pgs_cons (pg_name (i := 6) scRows.nd rfl (.inl rfl)) (pgs_cons (pg_name (i := 3) scRows.nd rfl (.inl rfl)) (pgs_cons (pg_name (i := 4) scRows.nd rfl (.inl rfl)) pgs_nil))))
          (pss_one (ps_for PassesOwn.never rfl (pi_list (pe_callTy (call_list_dv rfl) (by rfl) T.lst (by decide +kernel) (pa_cons (pe_dvals (pv 1)) pa_nil))) (pg_tup rfl (pgs_cons (pg_name (i := 7) scRows.nd rfl (.inl rfl)) (pgs_cons (pg_name (i := 8) scRows.nd rfl (.inl rfl)) (pgs_cons (pg_name (i := 9) scRows.nd rfl (.inr rfl)) pgs_nil)))) (
            pss_cons (ps_set (i := 2) scRows.nd rfl (.inl rfl) (pe_tup (pa_cons pe_str (pa_cons (pe_callTy call_tuple_of (by rfl) T.tpl (by decide +kernel) (pa_cons
              (pe_lc (own := [("number", 10)]) (g := gName 10) (tt := tB (tOp (rIxL K) (tVar 9) (tVar 10))) (te := tVar 10) rfl scRows.nd (pi_tup (pv 6)) (blkOk_by (own := [("number", 10)]) (N := ["recipe", "rows", "look", "size", "value", "growing", "shared", "more", "item", "answers", "number"]) (sc := defScope s_least_rows) (by decide +kernel))
                (fun _ _ _ _ _ => pg_name (i := 10) scRows.nd rfl (Or.inl rfl)) (fun _ _ _ _ _ => pts_one (pt_val (pe_ix ix_list (pv 9) (pv 10) (fun _ _ => rfl)))) (fun _ _ _ _ _ => pv 10)) pa_nil)) pa_nil)))) <|
            pss_one (ps_if (PW.pt (pw_or (pt_cmp (pc_dnotinG hu (pv 2) (pv 1)) (by with_unfolding_all rfl)) (pw_or1 (pt_cmpR op_lt (pe_op op_add (pv 3) (pv 7)) (pe_ix ix_tup (pe_dgetG hu (pv 1) (pv 2) (fun _ _ => rfl)) pe_int (fun _ _ => rfl)) (nomark _)))))
              (pss_cons (ps_dputG hu (pv 1) (pv 2) (pe_tup (pa_cons (pe_op op_add (pv 3) (pv 7)) (pa_cons (pe_lst (StX.pa_star (pv 4) (pa_cons (pv 8) pa_nil))) (pa_cons (pe_call GA hr (by rfl) gA kA bA .nil pass0 (pa_cons (pv 0) (pa_cons (pv 2) pa_nil))) pa_nil)))) (by rfl)) <|
               pss_one (ps_set (i := 5) scRows.nd rfl (.inl rfl) pe_bl)) pss_nil))))))) <|
      pss_one (ps_ret (pe_callTy (call_list_dv rfl) (by rfl) T.lst (by decide +kernel) (pa_cons (pe_dvals (pv 1)) pa_nil))), ?_⟩
    intro a na
    have s1 := same_upd (H := H) (o := dGO P w a []) na
    have d1 : Dg P w (upd H a (dGO P w a [])) a [] := Dg.of upd_same
    refine ⟨_, rfl, rc, as, gs, rfl, R.up s1, hz, by omega, fun H2 L ts ak lim s2 nL hL hE hlim hT hal hnd hask => ?_⟩
    have d2 := d1.up s2
    obtain ⟨f2, ha2⟩ := d2.obj
    have aL : a ≠ L := by
      obtain ⟨f1, ha1⟩ := d1.obj
      exact ne_of_none ha1 nL
    have hEd : Each2 (LeafAt K (L2.del H2 a)) ts (baseL ak lim) := hE.imp fun t r ⟨b, vv, z1, z2, z3⟩ => ⟨b, vv, sqt_ext ha2 z1, dp_ext ha2 _ _ z2, dp_ext ha2 _ _ z3⟩
    have sH2 := s1.trans s2
    have AK : Asks gs ak lim := ⟨fun i k e => (hask k).mpr (.inl ⟨i, e⟩), fun i k e => (hask i).mpr (.inr ⟨k, e⟩), hT, R.part⟩
    have hak : ∀ k ∈ ak, k < gs.length := fun k hk => by
      rcases (hask k).mp hk with ⟨i, e⟩ | ⟨j, e⟩
      · have := R.part i _ e k (by simp [Sx.parts])
        have := (List.getElem?_eq_some_iff.mp e).1
        omega
      · exact (List.getElem?_eq_some_iff.mp e).1
    have aklen : ak.length ≤ 3 := by omega
    have ulen : (lkU ak lim).length ≤ 14 := by
      rw [lkU_len]
      have : 2 ^ ak.length ≤ 2 ^ 3 := Nat.pow_le_pow_right (by decide) aklen
      omega
    refine ⟨L, rfl, ⟨_, SqL.of hL⟩, for_it (walk_list (K := K) (a := L) (xs := ts.map V.ref)) (fun i σ G => ∃ (xs : List GRow) (y2 y3 y4 : Option V), σ = [some (.ref rc), some (.ref a), y2, y3, y4, none, none, none, none, none, none] ∧ Same H G ∧ Dg P w G a xs ∧ Each2 (Told K (L2.del G a) gs) xs ((baseL ak lim).take i) ∧ Kp a H2 G) ⟨[], none, none, none, rfl, sH2, d2, .nil, Kp.refl _ _⟩ (fun i σ G hi ⟨_, _, _, _, _, _, _, _, k⟩ => SqL.of (k _ _ aL.symm hL)) ?_ ?_⟩
    · rintro i x σ G G' hi ⟨xs, y2, y3, y4, rfl, sG, dG, eG, kG⟩ ⟨rfl, hx⟩
      obtain ⟨t, et, rfl⟩ : ∃ t, ts[i]? = some t ∧ x = .ref t := by
        rw [List.getElem?_map] at hx
        cases z : ts[i]? with
        | none => rw [z] at hx; cases hx
        | some t =>
          rw [z] at hx
          exact ⟨t, rfl, (Option.some.inj hx).symm⟩
      obtain ⟨r, er, lf⟩ := hEd.get et
      obtain ⟨b, vv, z1, z2, z3⟩ := lf.up kG.del
      refine ⟨t, _, rfl, same_sqt del_sub z1, rfl, _, _, rfl, _, _, rfl, _, _, rfl, rfl, ?_⟩
      refine ⟨_, rfl, _, rfl, _, rfl, _, rfl, rc, b, as, gs, r.1, rfl, R.up sG, dp_same del_sub _ _ z2, hz, fun G1 LA sA hLA nLA => ?_⟩
      refine ⟨(by show 3 ≤ sizeLine; decide), fun t2 nt2 => ?_⟩
      have st2 := same_upd (o := .tup [.int ((r.2.1 : Nat) : Int), vv, .ref LA]) nt2
      obtain ⟨fG, haG⟩ := dG.obj
      have aLA : a ≠ LA := ne_of_none haG nLA
      have at2 : a ≠ t2 := ne_of_none (sA _ _ haG) nt2
      have sG2 := sA.trans st2
      have xl : xs.length ≤ 14 := by
        rw [eG.len, List.length_take]
        have := base_len ak lim
        omega
      have hn : Told K (L2.del (upd G1 t2 (.tup [.int ((r.2.1 : Nat) : Int), vv, .ref LA])) a) gs (r.1.key, b, .ref t2) (r.1, r.2.1, r.2.2) := by
        refine ⟨rfl, dp_same (del_mono sG2) _ _ z2, t2, vv, LA, rfl, SqT.of ?_, dp_same (del_mono sG2) _ _ z3, SqL.of ?_⟩
        · rw [del_ne at2.symm, upd_same]
        · rw [del_ne aLA.symm]
          exact st2 _ _ hLA
      have keysG : GKeys K (upd G1 t2 (.tup [.int ((r.2.1 : Nat) : Int), vv, .ref LA])) xs := fun x hx => ⟨dp_same (del_sub.trans sG2) _ _ (Told.keys eG x hx).1, (Told.keys eG x hx).2⟩
      refine ⟨_, rfl, _, rfl, a, b, xs, r.1.key, rfl, rfl, dG.up sG2, keysG, dp_same (del_sub.trans sG2) _ _ z2, Lk.key_dep _, Nat.lt_of_le_of_lt xl (by decide), ?_⟩
      have kp : Kp a (upd G1 t2 (.tup [.int ((r.2.1 : Nat) : Int), vv, .ref LA])) (upd (upd G1 t2 (.tup [.int ((r.2.1 : Nat) : Int), vv, .ref LA])) a (dGO P w a (gput xs r.1.key b (.ref t2)))) := Kp.set
      have new : ∀ q ∈ (baseL ak lim).take i, q.1 ≠ r.1 := fun q hq e => by
        have nd := base_nodup ak lim
        have hq2 := List.mem_of_mem_take hq
        have := row_one nd hq2 (List.mem_of_getElem? er) e
        rw [this] at hq
        obtain ⟨j, hj⟩ := List.mem_iff_getElem?.mp hq
        have hj' := (List.getElem?_eq_some_iff.mp hj).1
        rw [List.length_take] at hj'
        rw [List.getElem?_take_of_lt (by omega)] at hj
        obtain ⟨hi1, ei⟩ := List.getElem?_eq_some_iff.mp er
        obtain ⟨hj1, ej⟩ := List.getElem?_eq_some_iff.mp hj
        have : i = j := (List.getElem_inj (xs := (baseL ak lim).map (·.1)) (h₀ := by rw [List.length_map]; exact hi1) (h₁ := by rw [List.length_map]; exact hj1) nd).mp (by rw [List.getElem_map, List.getElem_map, ei, ej])
        omega
      refine ⟨gput xs r.1.key b (.ref t2), _, _, _, rfl, fun c o e => kp c o (ne_of_none e na) ((sG.trans sG2) c o e), Dg.of upd_same, ?_, kG.trans ((Kp.of sG2).trans kp)⟩
      have z := told_put (eG.imp fun _ _ z => z.up (del_mono sG2)) hn
      rw [putL_new new] at z
      have tk1 : (baseL ak lim).take (i + 1) = (baseL ak lim).take i ++ [(r.1, r.2.1, r.2.2)] := by
        rw [List.take_add_one, er]
        rfl
      rw [tk1]
      exact z.imp fun _ _ y => y.up kp.del
    rintro σ G ⟨xs, y2, y3, y4, rfl, sG, dG, eG, kG⟩
    rw [List.length_map, hE.len, List.take_length] at eG
    have L0 : Lr P w K H gs ak lim a G xs (baseL ak lim) := ⟨sG, dG, eG, base_sound gs ak lim, base_based ak lim, base_nodup ak lim, base_bnd hlim⟩
    have small : ∀ {G : Hp} {xs : List GRow} {rs : List LRow}, Lr P w K H gs ak lim a G xs rs → ∀ M, M ≤ 5 * 2 ^ (rs.length - (lim + 4)) → M ≤ 640 := fun {G xs rs} h M hM => by
      have l1 := h.len
      have l2 := lkU_len ak lim
      have : 2 ^ ak.length ≤ 2 ^ 3 := Nat.pow_le_pow_right (by decide) aklen
      have : 2 ^ (rs.length - (lim + 4)) ≤ 2 ^ 7 := Nat.pow_le_pow_right (by decide) (by omega)
      omega
    refine ⟨fun m σ G => ∃ (xs : List GRow) (rs : List LRow) (y2 y3 y4 y6 y7 y8 y9 : Option V) (g : Bool), σ = [some (.ref rc), some (.ref a), y2, y3, y4, some (.bl g), y6, y7, y8, y9, none] ∧ Lr P w K H gs ak lim a G xs rs ∧ (g = false → Closed gs rs) ∧ m = 2 * pot (lkU ak lim) (bigN ak lim) rs + (if g = true then 1 else 0),
      ⟨_, xs, baseL ak lim, y2, y3, y4, none, none, none, none, true, rfl, L0, fun z => (nomatch z), rfl⟩, ?_⟩
    clear L0 eG dG sG kG xs y2 y3 y4 G
    rintro m σ G ⟨xs, rs, y2, y3, y4, y6, y7, y8, y9, g, rfl, L0, hcl, rfl⟩
    refine ⟨_, rfl, g, rfl, ?_⟩
    cases g with
    | false =>
      refine iteF ⟨_, rfl, a, xs, rfl, L0.dg, L0.keys, fun r nr => ?_⟩
      have sr := same_upd (o := vwO r a) nr
      refine ⟨r, a, xs, rfl, upd_same, L0.dg.up sr, L0.keys.up sr, fun l nl => ?_⟩
      have sl := same_upd (o := .lst (gvals xs)) nl
      exact q _ l xs rs ak lim (L0.s.trans (sr.trans sl)) ((L0.s.trans sr).free nl) upd_same (L0.ea.imp fun _ _ z => z.up (del_sub.trans (sr.trans sl))) L0.so L0.ba (hcl rfl) (fun r hr => small L0 _ (L0.bd.2 r hr)) (Nat.le_trans L0.len (by omega)) AK hak
    | true =>
    refine iteT ⟨fun σ' G' => ∃ (xs' : List GRow) (rs' : List LRow) (y2 y3 y4 y6 y7 y8 y9 : Option V) (g : Bool), σ' = [some (.ref rc), some (.ref a), y2, y3, y4, some (.bl g), y6, y7, y8, y9, none] ∧ Lr P w K H gs ak lim a G' xs' rs' ∧ (g = false → Closed gs rs') ∧ pot (lkU ak lim) (bigN ak lim) rs' ≤ pot (lkU ak lim) (bigN ak lim) rs ∧ (g = true → pot (lkU ak lim) (bigN ak lim) rs' < pot (lkU ak lim) (bigN ak lim) rs), ?_, ?_⟩
    · rintro σ' G' ⟨xs', rs', z2, z3, z4, z6, z7, z8, z9, g, rfl, L1, c1, p1, p2⟩
      refine ⟨2 * pot (lkU ak lim) (bigN ak lim) rs' + (if g = true then 1 else 0), ?_, xs', rs', z2, z3, z4, z6, z7, z8, z9, g, rfl, L1, c1, rfl⟩
      cases g with
      | true =>
        have := p2 rfl
        rw [if_pos rfl]
        omega
      | false =>
        rw [if_neg (by decide), if_pos rfl]
        omega
    have xl : xs.length ≤ 14 := by
      rw [L0.ea.len]
      exact Nat.le_trans L0.len ulen
    refine ⟨_, rfl, a, gs, xs, rs, rfl, L0.dg, L0.ea, by omega, fun G1 D0 ts0 k1 nD0 hD0 d1 e1 => ?_⟩
    have L1 := L0.kp na k1 d1
    obtain ⟨f1, ha1⟩ := d1.obj
    have aD0 : D0 ≠ a := fun z => by
      rw [z, ha1] at hD0
      cases hD0
    refine ⟨D0, rfl, ⟨_, SqL.of hD0⟩, for_it (walk_list (K := K) (a := D0) (xs := ts0.map V.ref)) (fun j σ G => ∃ (xs' : List GRow) (rs' : List LRow) (y2 y3 y4 y6 y7 y8 y9 : Option V) (g : Bool), σ = [some (.ref rc), some (.ref a), y2, y3, y4, some (.bl g), y6, y7, y8, y9, none] ∧ Lr P w K H gs ak lim a G xs' rs' ∧ Kp a G1 G ∧ rs.length ≤ rs'.length ∧ pot (lkU ak lim) (bigN ak lim) rs' ≤ pot (lkU ak lim) (bigN ak lim) rs ∧ (g = true → pot (lkU ak lim) (bigN ak lim) rs' < pot (lkU ak lim) (bigN ak lim) rs) ∧
      (g = false → rs' = rs ∧ ∀ j', j' < j → ∀ l, (listRows rs)[j']? = some l → ∀ q ∈ rs, hasRow rs (.lst (l.1.filter fun k => predAt gs k q.2.2)) (l.2.1 + q.2.1)))
      ⟨xs, rs, y2, y3, y4, y6, y7, y8, y9, false, rfl, L1, Kp.refl _ _, Nat.le_refl _, Nat.le_refl _, fun z => (nomatch z), fun _ => ⟨rfl, fun j' h => absurd h (Nat.not_lt_zero _)⟩⟩
      (fun j σ G hj ⟨_, _, _, _, _, _, _, _, _, _, _, _, k, _⟩ => SqL.of (k _ _ aD0 hD0)) ?_ ?_⟩
    · rintro j x σ G G' hj ⟨xs', rs', z2, z3, z4, z6, z7, z8, z9, g, rfl, Lm, km, lm, pm, pg, pc⟩ ⟨rfl, hx⟩
      obtain ⟨t, et, rfl⟩ : ∃ t, ts0[j]? = some t ∧ x = .ref t := by
        rw [List.getElem?_map] at hx
        cases z : ts0[j]? with
        | none => rw [z] at hx; cases hx
        | some t =>
          rw [z] at hx
          exact ⟨t, rfl, (Option.some.inj hx).symm⟩
      obtain ⟨l, el, lt⟩ := e1.get et
      obtain ⟨b, vv, w1, w2, w3⟩ := lt.up km.del
      obtain ⟨sh, size, d⟩ := l
      -- what is known of the row of a list
      obtain ⟨r0, hr0, er0⟩ := List.mem_filterMap.mp (List.mem_of_getElem? el)
      have fl : r0.1 = .lst sh ∧ r0.2.1 = size ∧ r0.2.2 = d := by
        obtain ⟨k0, s0, d0⟩ := r0
        cases k0 with
        | lst s => cases er0; exact ⟨rfl, rfl, rfl⟩
        | _ => cases er0
      obtain ⟨vd, szd, lkd⟩ := L0.so r0 hr0
      rw [fl.2.2] at vd szd lkd
      rw [fl.2.1] at szd
      rw [fl.1] at lkd
      have sizeB := L0.bd.2 r0 hr0
      rw [fl.2.1] at sizeB
      obtain ⟨es, rfl⟩ : ∃ es, d = .list es := by
        cases d with
        | list es => exact ⟨es, rfl⟩
        | none => cases lkd
        | str x => cases lkd
        | _ => exact vd.elim
      have esh : sh = ak.filter fun k => es.all (predAt gs k) := by
        simp only [lkOf, Lk.lst.injEq] at lkd
        exact lkd.symm
      have shA : ∀ k ∈ sh, k ∈ ak := fun k hk => by
        rw [esh] at hk
        exact (List.mem_filter.mp hk).1
      have shl : sh.length ≤ 3 := by
        rw [esh]
        exact Nat.le_trans (List.length_filter_le _ _) aklen
      obtain ⟨p, us, rfl, hus, hes⟩ : ∃ p us, vv = .ref p ∧ SqL K (L2.del G' a) p us ∧ DpAll K (L2.del G' a) us es := by
        cases w3 with
        | lst h1 h2 => exact ⟨_, _, rfl, h1, h2⟩
      have usl : us.length ≤ 640 := by
        have := es_len es
        have := DpAll.length hes
        have := small L0 size sizeB
        simp only [sz] at szd
        omega
      refine ⟨t, _, rfl, same_sqt del_sub w1, rfl, _, _, rfl, _, _, rfl, _, _, rfl, rfl, ?_⟩
      refine ⟨_, rfl, a, xs', rfl, Lm.dg, Lm.keys, fun r nr => ?_⟩
      have sr := same_upd (o := vwO r a) nr
      refine ⟨r, a, xs', rfl, upd_same, Lm.dg.up sr, Lm.keys.up sr, fun l nl => ?_⟩
      have sl := same_upd (o := .lst (gvals xs')) nl
      have hl0 : (upd (upd G' r (vwO r a)) l (.lst (gvals xs'))) l = some (.lst (gvals xs')) := upd_same
      have sG2 := sr.trans sl
      obtain ⟨fm, ham⟩ := Lm.dg.obj
      have al : l ≠ a := fun z => by
        have := ne_of_none (sr _ _ ham) nl
        exact this z.symm
      generalize upd (upd G' r (vwO r a)) l (.lst (gvals xs')) = G2 at *
      have L2' := Lm.up sG2
      refine ⟨l, rfl, ⟨_, SqL.of hl0⟩, for_it (walk_list (K := K) (a := l) (xs := gvals xs')) (fun i σ G => ∃ (xs2 : List GRow) (rs2 : List LRow) (y2 y7 y8 y9 : Option V) (g : Bool), σ = [some (.ref rc), some (.ref a), y2, some (.int ((size : Nat) : Int)), some (.ref p), some (.bl g), some (.ref b), y7, y8, y9, none] ∧ Lr P w K H gs ak lim a G xs2 rs2 ∧ Kp a G2 G ∧ rs'.length ≤ rs2.length ∧ pot (lkU ak lim) (bigN ak lim) rs2 ≤ pot (lkU ak lim) (bigN ak lim) rs ∧ (g = true → pot (lkU ak lim) (bigN ak lim) rs2 < pot (lkU ak lim) (bigN ak lim) rs) ∧
        (g = false → rs2 = rs ∧ rs' = rs ∧ (∀ j', j' < j → ∀ l, (listRows rs)[j']? = some l → ∀ q ∈ rs, hasRow rs (.lst (l.1.filter fun k => predAt gs k q.2.2)) (l.2.1 + q.2.1)) ∧ ∀ i', i' < i → ∀ q, rs[i']? = some q → hasRow rs (.lst (sh.filter fun k => predAt gs k q.2.2)) (size + q.2.1)))
        ⟨xs', rs', z2, z7, z8, z9, g, rfl, L2', Kp.refl _ _, Nat.le_refl _, pm, pg, fun hg => ⟨(pc hg).1, (pc hg).1, (pc hg).2, fun i' h => absurd h (Nat.not_lt_zero _)⟩⟩
        (fun i σ G hi ⟨_, _, _, _, _, _, _, _, _, k, _⟩ => SqL.of (k _ _ al hl0)) ?_ ?_⟩
      · rintro i x σ G30 G3 hi ⟨xs2, rs2, y2, y7, y8, y9, g2, rfl, Ln, kn, ln, pn, pgn, pcn⟩ ⟨rfl, hx⟩
        have hx' := hx
        unfold gvals at hx'
        rw [List.getElem?_map] at hx'
        obtain ⟨row, erow, rfl⟩ : ∃ row, xs'[i]? = some row ∧ x = row.2.2 := by
          cases z : xs'[i]? with
          | none => rw [z] at hx'; cases hx'
          | some y =>
            rw [z] at hx'
            exact ⟨y, rfl, (Option.some.inj hx').symm⟩
        obtain ⟨qr, eq, tq⟩ := L2'.ea.get erow
        obtain ⟨lkq, more, e⟩ := qr
        obtain ⟨tt, vq, aA, ett, t1, t2', t3⟩ := (tq.up kn.del).val
        have hqr := List.mem_of_getElem? eq
        obtain ⟨ve, sze, lke⟩ := Lm.so _ hqr
        have moreB := Lm.bd.2 _ hqr
        have inD : Same (L2.del G3 a) G3 := del_sub
        have upG : Same (L2.del G' a) (L2.del G3 a) := (del_mono sG2).trans kn.del
        have b1 := same_sqt upG w2
        have hus3 : SqL K G3 p us := inD.seq (upG.seq hus)
        have hes3 := dpAll_same upG _ _ hes
        have ans : ∀ k, k ∈ sh → (answersL lkq [] gs)[k]? = some (predAt gs k e) := fun k hk => by
          have kl := hak k (shA k hk)
          have z := answersL_ok AK ve gs [] [] rfl rfl (fun k hk => nomatch hk) k kl
          rw [show lkOf gs ak lim e = lkq from lke] at z
          rw [← z, List.getD_eq_getElem?_getD]
          have : k < (answersL lkq [] gs).length := by
            rw [answersL_len]
            simpa using kl
          rw [List.getElem?_eq_getElem this]
          rfl
        refine ⟨tt, _, ett, same_sqt inD t1, rfl, _, _, rfl, _, _, rfl, _, _, rfl, rfl, ?_⟩
        -- the look
        refine ⟨_, rfl, b, rfl, ⟨_, same_sqt inD b1⟩, fun D nD => walk_turns (walk_tup (K := K) (a := b) (xs := sh.map fun (n : Nat) => V.int n)) (fun i G => G D = some (.lst (((sh.take i).filter fun k => predAt gs k e).map fun (n : Nat) => V.int n)) ∧ Same G3 G) ⟨upd_same, same_upd nD⟩ (fun i G hi ⟨_, sm⟩ => same_sqt (inD.trans sm) b1) ?_ ?_⟩
        · rintro i2 x2 G4 G4' hi2 ⟨hD, sm⟩ ⟨rfl, hx2⟩
          rw [List.getElem?_map] at hx2
          cases ek : sh[i2]? with
          | none => rw [ek] at hx2; cases hx2
          | some k =>
          rw [ek] at hx2
          cases hx2
          have hk := List.mem_of_getElem? ek
          have tk1 : (sh.take (i2 + 1)).filter (fun k => predAt gs k e) = (sh.take i2).filter (fun k => predAt gs k e) ++ if predAt gs k e = true then [k] else [] := by
            rw [List.take_add_one, ek, List.filter_append]
            congr 1
            simp [List.filter_cons]
          rw [tk1]
          refine ⟨rfl, _, rfl, _, rfl, aA, _, _, _, rfl, rfl, sm.seq (inD.seq t3), atI_nat (j := k) (v := .bl (predAt gs k e)) ?_, _, rfl, ?_⟩
          · rw [List.getElem?_map, ans k hk]
            rfl
          cases hb : predAt gs k e with
          | true =>
            refine iteT ⟨_, rfl, _, hD, ?_, ?_, same_fresh nD sm⟩
            · rw [List.length_map]
              exact Nat.lt_of_le_of_lt (show _ ≤ 3 from Nat.le_trans (List.length_filter_le _ _) (by rw [List.length_take]; omega)) (by decide)
            · rw [upd_same, if_pos rfl, List.map_append]
              rfl
          | false =>
            refine iteF ⟨?_, sm⟩
            rw [if_neg (by decide), List.append_nil]
            exact hD
        rintro G4 ⟨hD, sm⟩
        rw [List.length_map, List.take_length] at hD
        refine ⟨D, _, rfl, .inl ⟨SqL.of hD, fun tl ntl => ⟨(by show 2 ≤ sizeLine; decide), fun bl nbl => ?_⟩⟩⟩
        have stl := same_upd (o := .tup ((sh.filter fun k => predAt gs k e).map fun (n : Nat) => V.int n)) ntl
        have sbl := same_upd (o := .tup [.str "list", .ref tl]) nbl
        have dl : Dp K (upd (upd G4 tl (.tup ((sh.filter fun k => predAt gs k e).map fun (n : Nat) => V.int n))) bl (.tup [.str "list", .ref tl])) (.ref bl) (keyD (Lk.lst (sh.filter fun k => predAt gs k e)).key) :=
          at_lk (lk := .lst (sh.filter fun k => predAt gs k e)) (u := .ref tl) (SqT.of upd_same) ⟨tl, rfl, SqT.of (sbl _ _ upd_same)⟩
        have sG5 := sm.trans (stl.trans sbl)
        generalize upd (upd G4 tl (.tup ((sh.filter fun k => predAt gs k e).map fun (n : Nat) => V.int n))) bl (.tup [.str "list", .ref tl]) = G5 at *
        have lkn : lkOf gs ak lim (.list (es ++ [e])) = .lst (sh.filter fun k => predAt gs k e) := by
          rw [look_push, ← esh]
        generalize hlk : Lk.lst (sh.filter fun k => predAt gs k e) = lk at *
        have L5 := Ln.up sG5
        have xl2 : xs2.length ≤ 14 := by
          rw [L5.ea.len]
          exact Nat.le_trans L5.len ulen
        obtain ⟨f5, ha5⟩ := L5.dg.obj
        have nb0 : lim + 4 ≤ rs.length := L0.bd.1
        have pw1 : 2 ^ (rs.length - (lim + 4)) ≤ 2 ^ (rs2.length - (lim + 4)) := Nat.pow_le_pow_right (by decide) (by omega)
        have pw2 : 2 ^ (rs'.length - (lim + 4)) ≤ 2 ^ (rs2.length - (lim + 4)) := Nat.pow_le_pow_right (by decide) (by omega)
        -- the put
        have hput : ∀ (σ5 : L2.St), σ5 = [some (.ref rc), some (.ref a), some (.ref bl), some (.int ((size : Nat) : Int)), some (.ref p), some (.bl g2), some (.ref b), some (.int ((more : Nat) : Int)), some vq, some (.ref aA), none] → ((∀ r ∈ rs2, r.1 ≠ lk) ∨ ∃ r ∈ rs2, r.1 = lk ∧ size + more < r.2.1) →
            ∀ (G6 : Hp) (LA t2 L6 : Addr), Same G5 G6 → G6 LA = some (.lst ((answersL lk [] gs).map V.bl)) → G6 t2 = some (.tup [.int ((size : Nat) + (more : Nat) : Int), .ref L6, .ref LA]) → G6 L6 = some (.lst (us ++ [vq])) →
            Lr P w K H gs ak lim a (upd G6 a (dGO P w a (gput xs2 lk.key bl (.ref t2)))) (gput xs2 lk.key bl (.ref t2)) (putL rs2 lk (size + more) (.list (es ++ [e]))) ∧ pot (lkU ak lim) (bigN ak lim) (putL rs2 lk (size + more) (.list (es ++ [e]))) < pot (lkU ak lim) (bigN ak lim) rs2 ∧ rs2.length ≤ (putL rs2 lk (size + more) (.list (es ++ [e]))).length := by
          intro σ5 _ hnew G6 LA t2 L6 s6 hLA ht2 hL6
          have ha6 := s6 _ _ ha5
          have ne : ∀ {c : Addr} {o : HO}, G6 c = some o → (∀ f, o ≠ .ext f) → c ≠ a := fun e k z => by
            rw [z, ha6] at e
            exact k _ (Option.some.inj e).symm
          have up6 : Same (L2.del G3 a) (L2.del G6 a) := del_mono (sG5.trans s6)
          refine L5.put (M := size) (N := more) na s6 ?_ ?_ ?_ lkn (by omega) ?_ rfl hnew
          · refine ⟨rfl, dp_same (del_mono s6) _ _ (dp_ext ha5 _ _ dl), t2, .ref L6, LA, rfl, SqT.of ?_, .lst (xs := us ++ [vq]) (SqL.of ?_) ?_, SqL.of ?_⟩
            · rw [del_ne (ne ht2 fun _ z => nomatch z), ht2]
              rfl
            · rw [del_ne (ne hL6 fun _ z => nomatch z)]
              exact hL6
            · exact dpAll_push (dpAll_same up6 _ _ hes3) (dp_same up6 _ _ t2')
            · rw [del_ne (ne hLA fun _ z => nomatch z)]
              exact hLA
          · exact (valAll_push es e).mpr ⟨vd, ve⟩
          · simp only [sz] at szd
            have sze' : sz e = more := sze
            simp only [sz, szAll_push]
            omega
          · have : more ≤ 5 * 2 ^ (rs'.length - (lim + 4)) := moreB
            omega
        have skip : ∀ (lo : Nat), (∃ r ∈ rs2, r.1 = lk ∧ r.2.1 ≤ size + more) → ∀ (G6 : Hp), Same G5 G6 → ∃ (xs3 : List GRow) (rs3 : List LRow) (y2 y7 y8 y9 : Option V) (g : Bool), [some (.ref rc), some (.ref a), some (.ref bl), some (.int ((size : Nat) : Int)), some (.ref p), some (.bl g2), some (.ref b), some (.int ((more : Nat) : Int)), some vq, some (.ref aA), none] = [some (.ref rc), some (.ref a), y2, some (.int ((size : Nat) : Int)), some (.ref p), some (.bl g), some (.ref b), y7, y8, y9, none] ∧ Lr P w K H gs ak lim a G6 xs3 rs3 ∧ Kp a G2 G6 ∧ rs'.length ≤ rs3.length ∧ pot (lkU ak lim) (bigN ak lim) rs3 ≤ pot (lkU ak lim) (bigN ak lim) rs ∧ (g = true → pot (lkU ak lim) (bigN ak lim) rs3 < pot (lkU ak lim) (bigN ak lim) rs) ∧
            (g = false → rs3 = rs ∧ rs' = rs ∧ (∀ j', j' < j → ∀ l, (listRows rs)[j']? = some l → ∀ q ∈ rs, hasRow rs (.lst (l.1.filter fun k => predAt gs k q.2.2)) (l.2.1 + q.2.1)) ∧ ∀ i', i' < i + 1 → ∀ q, rs[i']? = some q → hasRow rs (.lst (sh.filter fun k => predAt gs k q.2.2)) (size + q.2.1)) := by
          intro _ hrow G6 s6
          refine ⟨xs2, rs2, _, _, _, _, g2, rfl, L5.up s6, kn.trans (Kp.of (sG5.trans s6)), ln, pn, pgn, fun hg => ?_⟩
          obtain ⟨e1', e2', c1, c2⟩ := pcn hg
          refine ⟨e1', e2', c1, fun i' hi' q hq => ?_⟩
          by_cases hii : i' = i
          · rw [hii, ← e2', eq] at hq
            cases hq
            obtain ⟨r, hr, er, lr⟩ := hrow
            rw [← e1', hlk]
            exact ⟨r, hr, er, lr⟩
          · exact c2 i' (by omega) q hq
        have keys5 := L5.keys
        refine ⟨_, rfl, _, rfl, a, bl, xs2, lk.key, rfl, rfl, L5.dg, keys5, dl, Lk.key_dep _, _, rfl, ?_⟩
        have fin : ((∀ r ∈ rs2, r.1 ≠ lk) ∨ ∃ r ∈ rs2, r.1 = lk ∧ size + more < r.2.1) → ∀ (G6 : Hp) (LA t2 L6 : Addr), Same G5 G6 → G6 LA = some (.lst ((answersL lk [] gs).map V.bl)) → G6 t2 = some (.tup [.int ((size : Nat) + (more : Nat) : Int), .ref L6, .ref LA]) → G6 L6 = some (.lst (us ++ [vq])) →
            ∃ (xs3 : List GRow) (rs3 : List LRow) (y2 y7 y8 y9 : Option V) (g : Bool), [some (.ref rc), some (.ref a), some (.ref bl), some (.int ((size : Nat) : Int)), some (.ref p), some (.bl true), some (.ref b), some (.int ((more : Nat) : Int)), some vq, some (.ref aA), none] = [some (.ref rc), some (.ref a), y2, some (.int ((size : Nat) : Int)), some (.ref p), some (.bl g), some (.ref b), y7, y8, y9, none] ∧ Lr P w K H gs ak lim a (upd G6 a (dGO P w a (gput xs2 lk.key bl (.ref t2)))) xs3 rs3 ∧ Kp a G2 (upd G6 a (dGO P w a (gput xs2 lk.key bl (.ref t2)))) ∧ rs'.length ≤ rs3.length ∧ pot (lkU ak lim) (bigN ak lim) rs3 ≤ pot (lkU ak lim) (bigN ak lim) rs ∧ (g = true → pot (lkU ak lim) (bigN ak lim) rs3 < pot (lkU ak lim) (bigN ak lim) rs) ∧
            (g = false → rs3 = rs ∧ rs' = rs ∧ (∀ j', j' < j → ∀ l, (listRows rs)[j']? = some l → ∀ q ∈ rs, hasRow rs (.lst (l.1.filter fun k => predAt gs k q.2.2)) (l.2.1 + q.2.1)) ∧ ∀ i', i' < i + 1 → ∀ q, rs[i']? = some q → hasRow rs (.lst (sh.filter fun k => predAt gs k q.2.2)) (size + q.2.1)) := by
          intro hnew G6 LA t2 L6 s6 hLA ht2 hL6
          obtain ⟨z1, z2, z3⟩ := hput _ rfl hnew G6 LA t2 L6 s6 hLA ht2 hL6
          exact ⟨_, _, _, _, _, _, true, rfl, z1, (kn.trans (Kp.of (sG5.trans s6))).trans Kp.set, by omega, by omega, fun _ => by omega, fun z => (nomatch z)⟩
        have hus5 : SqL K G5 p us := sG5.seq hus3
        have lenA : (answersL lk [] gs).length ≤ 600 := by
          rw [answersL_len]
          simpa using hz
        have l41 : (us ++ [vq]).length ≤ sizeLine := by
          rw [List.length_append]
          exact Nat.le_trans (show us.length + 1 ≤ 1000 by omega) (by decide)
        rcases told_find L5.ea lk with ⟨h1, h2⟩ | ⟨y, r1, h1, h2, h3, h4, h5⟩
        · rw [h1]
          refine iteT (iteT ?_)
          refine ⟨_, rfl, _, rfl, _, _, rfl, rfl, _, rfl, p, us, rfl, .inr hus5, _, rfl, l41, fun L6 nL6 => ⟨_, rfl, _, rfl, rc, bl, as, gs, lk, rfl, R.up (L5.s.trans (same_upd nL6)), dp_same (same_upd nL6) _ _ dl, hz, fun G6 LA sA hLA nLA => ⟨(by show 3 ≤ sizeLine; decide), fun t2 nt2 => ?_⟩⟩⟩
          have s6 := (same_upd (o := .lst (us ++ [vq])) nL6).trans (sA.trans (same_upd (o := .tup [.int ((size : Nat) + (more : Nat) : Int), .ref L6, .ref LA]) nt2))
          exact ⟨_, rfl, _, rfl, a, bl, xs2, lk.key, rfl, rfl, L5.dg.up s6, keys5.up s6, dp_same s6 _ _ dl, Lk.key_dep _, Nat.lt_of_le_of_lt xl2 (by decide), fin (.inl h2) _ LA t2 L6 s6 (same_upd nt2 _ _ hLA) upd_same ((sA.trans (same_upd nt2)) _ _ upd_same)⟩
        · rw [h2]
          obtain ⟨t0, vv0, aA0, et0, u1, u2, u3⟩ := h5.val
          refine iteF ⟨_, rfl, _, rfl, _, _, rfl, rfl, _, rfl, _, rfl, a, bl, xs2, lk.key, _, rfl, rfl, L5.dg, keys5, dl, Lk.key_dep _, h2, t0, _, 0, _, et0, rfl, same_sqt del_sub u1, atI_nat (j := 0) rfl, _, _, rfl, rfl, _, rfl, ?_⟩
          by_cases hlt : size + more < r1.2.1
          · rw [decide_eq_true (show (size : Int) + (more : Int) < (r1.2.1 : Int) by omega)]
            refine iteT ?_
            refine ⟨_, rfl, _, rfl, _, _, rfl, rfl, _, rfl, p, us, rfl, .inr hus5, _, rfl, l41, fun L6 nL6 => ⟨_, rfl, _, rfl, rc, bl, as, gs, lk, rfl, R.up (L5.s.trans (same_upd nL6)), dp_same (same_upd nL6) _ _ dl, hz, fun G6 LA sA hLA nLA => ⟨(by show 3 ≤ sizeLine; decide), fun t2 nt2 => ?_⟩⟩⟩
            have s6 := (same_upd (o := .lst (us ++ [vq])) nL6).trans (sA.trans (same_upd (o := .tup [.int ((size : Nat) + (more : Nat) : Int), .ref L6, .ref LA]) nt2))
            exact ⟨_, rfl, _, rfl, a, bl, xs2, lk.key, rfl, rfl, L5.dg.up s6, keys5.up s6, dp_same s6 _ _ dl, Lk.key_dep _, Nat.lt_of_le_of_lt xl2 (by decide), fin (.inr ⟨r1, h3, h4, hlt⟩) _ LA t2 L6 s6 (same_upd nt2 _ _ hLA) upd_same ((sA.trans (same_upd nt2)) _ _ upd_same)⟩
          · rw [decide_eq_false (show ¬ (size : Int) + (more : Int) < (r1.2.1 : Int) by omega)]
            exact iteF (skip 0 ⟨r1, h3, h4, by omega⟩ G5 (Same.refl _))
      rintro σ G3 ⟨xs2, rs2, y2, y7, y8, y9, g2, rfl, Ln, kn, ln, pn, pgn, pcn⟩
      refine ⟨xs2, rs2, y2, _, _, _, y7, y8, y9, g2, rfl, Ln, (km.trans (Kp.of sG2)).trans kn, by omega, pn, pgn, fun hg => ?_⟩
      obtain ⟨e1', e2', c1, c2⟩ := pcn hg
      refine ⟨e1', fun j' hj' l' hl' q hq => ?_⟩
      by_cases hjj : j' = j
      · rw [hjj, el] at hl'
        cases hl'
        obtain ⟨i', hi'⟩ := List.mem_iff_getElem?.mp hq
        refine c2 i' ?_ q hi'
        have := (List.getElem?_eq_some_iff.mp hi').1
        have e3 : (gvals xs').length = rs'.length := by
          unfold gvals
          rw [List.length_map, Lm.ea.len]
        rw [e3, e2']
        exact this
      · exact c1 j' (by omega) l' hl' q hq
    rintro σ G' ⟨xs', rs', z2, z3, z4, z6, z7, z8, z9, g, rfl, Lm, km, lm, pm, pg, pc⟩
    refine ⟨xs', rs', z2, z3, z4, z6, z7, z8, z9, g, rfl, Lm, fun hg => ?_, pm, pg⟩
    obtain ⟨rfl, hc⟩ := pc hg
    intro r hr sh er q hq
    have hm : (sh, r.2.1, r.2.2) ∈ listRows rs' := List.mem_filterMap.mpr ⟨r, hr, by unfold listRow; rw [er]⟩
    obtain ⟨i, hi⟩ := List.mem_iff_getElem?.mp hm
    have il := (List.getElem?_eq_some_iff.mp hi).1
    exact hc i (by rw [List.length_map, e1.len]; exact il) _ hi q hq
end
end TX
namespace TX
open PySem PySem.Spec PyProof.Rows L2
/-! ### min(list, key=f), where f's calls make new things alone -/
theorem cmp_lt {P : Program} {w : World} {A : Around} {k M : Int} {u t : Tok} {s : Shared} {Q E : Value → Shared → Prop} (q : Q (.bool (decide (k < M))) s) : wpAny (model P w) A (richCompare .Lt (.int k u) (.int M t)) Q E s :=
  CmpOf.ints_lt (P := fun i v => ∃ t, v = .int (if i = 0 then k else M) t) (fun i => if i = 0 then k else M) (fun i v h => h) 0 1 (.int k u) (.int M t) s Q E ⟨u, rfl⟩ ⟨t, rfl⟩ q
/-- f gives kf of the items -/
def KeyFn (P : Program) (w : World) (A : Around) (s0 : Shared) (f : Value) (items : Array Value) (kf : Nat → Int) : Prop :=
  ∀ (i : Nat) (v : Value), items[i]? = some v → ∀ (h : Heap) (tk : Nat) (Q E : Value → Shared → Prop), (∀ b o, s0.heap.get? b = some o → h.get? b = some o) →
    (∀ (h' : Heap) (tk' : Nat) (t : Tok), (∀ b o, h.get? b = some o → h'.get? b = some o) → Q (.int (kf i) t) { s0 with heap := h', toks := tk' }) → wpAny (model P w) A (call f [v]) Q E { s0 with heap := h, toks := tk }
def LeastIs (items : Array Value) (kf : Nat → Int) (j : Nat) (old : Array Value) : Prop := (j = 0 ∧ old = #[]) ∨ ∃ i v t, old = #[v, .int (kf i) t] ∧ items[i]? = some v ∧ i < j ∧ ∀ y, y < j → kf i ≤ kf y
theorem min_loopK {P : Program} {w : World} {A : Around} (hh : A.handled = none) {l I S : Addr} {qa : Addr} {items : Array Value} {kf : Nat → Int} (s0 : Shared) (hk : KeyFn P w (A.under (.builtin "min.loop" ⟨[.ref I, .ref qa, .ref S], []⟩)) s0 (.ref qa) items kf) (hne : l ≠ I) (hSI : S ≠ I) (hSl : S ≠ l) (hz : 0 < items.size) (hI0 : s0.heap.get? I = none) (hS0 : s0.heap.get? S = none) {R : Result → Shared → Prop}
    (q : ∀ (i : Nat) (v : Value) (h' : Heap) (tk : Nat), items[i]? = some v → (∀ y, y < items.size → kf i ≤ kf y) → (∀ b o, s0.heap.get? b = some o → h'.get? b = some o) → R (.ok (.ret v)) { s0 with heap := h', toks := tk }) :
    ∀ (r j : Nat) (h : Heap) (tk c : Nat) (old : Array Value), items.size - j = r → j ≤ items.size → h.IsListIter I l j → h.IsList l items → h.get? S = some { cls := .type "list", data := .seq old c } → LeastIs items kf j old → (∀ b o, s0.heap.get? b = some o → h.get? b = some o) →
      codeAny (model P w) A (.builtin "min.loop" ⟨[.ref I, .ref qa, .ref S], []⟩) R { s0 with heap := h, toks := tk }
  | 0, j, h, tk, c, old, hr, hj, hI, hl, hS, hb, fr => by
    have ej : j = items.size := by omega
    have none_ : items[j]? = none := by rw [ej]; simp
    refine codeAny_builtin F.entry_min_loop ?_
    refine wpAny_bind (wpAny_seqItems hS rfl ?_)
    refine wpAny_bind (wpAny_tryCatch ?_)
    refine wpAny_pyNext_list_end hh hI hl none_ fun h' hx => ?_
    have hS' := hx S _ hSI hS
    have fr' : ∀ b o, s0.heap.get? b = some o → h'.get? b = some o := fun b o e => hx b o (fun z => by rw [z, hI0] at e; cases e) (fr b o e)
    rcases hb with ⟨hj0, rfl⟩ | ⟨i, v, t, rfl, hv, _, hle⟩
    · omega
    · wp_walk
      exact q i v _ tk hv (fun y hy => hle y (by omega)) fun b o e => (Heap.get?_update_ne _ _ _ _ (fun z => by rw [z, hS0] at e; cases e)).trans (fr' b o e)
  | r + 1, j, h, tk, c, old, hr, hj, hI, hl, hS, hb, fr => by
    have jl : j < items.size := by omega
    obtain ⟨x, hx⟩ : ∃ x, items[j]? = some x := ⟨items[j], Array.getElem?_eq_getElem jl⟩
    refine codeAny_builtin F.entry_min_loop ?_
    refine wpAny_bind (wpAny_seqItems hS rfl ?_)
    refine wpAny_bind (wpAny_tryCatch ?_)
    refine wpAny_pyNext_list_item hI hl hx fun h' hI' hsb => ?_
    have hS' := (hsb.2 S hSI).trans hS
    have hl' : h'.IsList l items := by
      obtain ⟨o, e, r⟩ := hl
      exact ⟨o, (hsb.2 l hne).trans e, r⟩
    have fr' : ∀ b o, s0.heap.get? b = some o → h'.get? b = some o := fun b o e => (hsb.2 b (fun z => by rw [z, hI0] at e; cases e)).trans (fr b o e)
    refine wpAny_bind (wpAny_tryCatch (wpAny_holding (hk j x hx h' tk _ _ fr' fun h2 tk2 u kp => ?_)))
    have hS2 := kp _ _ hS'
    have hI2 : h2.IsListIter I l (j + 1) := by
      obtain ⟨o, e, z⟩ := hI'
      exact ⟨o, kp _ _ e, z⟩
    have hl2 : h2.IsList l items := by
      obtain ⟨o, e, z⟩ := hl'
      exact ⟨o, kp _ _ e, z⟩
    have fr2 : ∀ b o, s0.heap.get? b = some o → h2.get? b = some o := fun b o e => kp _ _ (fr' b o e)
    have stp : ∀ (old2 : Array Value), LeastIs items kf (j + 1) #[x, .int (kf j) u] → (Code.builtin "min.loop" ⟨[.ref I, .ref qa, .ref S], []⟩).quiet = true ∧ codeAny (model P w) A (.builtin "min.loop" ⟨[.ref I, .ref qa, .ref S], []⟩) R { s0 with heap := h2.update S (Obj.mapSeq fun _ => #[x, .int (kf j) u]), toks := tk2 } := fun _ lst => by
      refine ⟨Code.quiet_builtin _ (by decide +kernel), min_loopK hh s0 hk hne hSI hSl hz hI0 hS0 q r (j + 1) _ tk2 _ _ (by omega) (by omega) ?_ ?_ ((Heap.get?_update_self _ hS2 rfl).trans rfl) lst fun b o e => (Heap.get?_update_ne _ _ _ _ (fun z => by rw [z, hS0] at e; cases e)).trans (fr2 b o e)⟩
      · obtain ⟨o, e, z⟩ := hI2
        exact ⟨o, (Heap.get?_update_ne _ _ _ _ (Ne.symm hSI)).trans e, z⟩
      · obtain ⟨o, e, z⟩ := hl2
        exact ⟨o, (Heap.get?_update_ne _ _ _ _ (Ne.symm hSl)).trans e, z⟩
    rcases hb with ⟨hj0, rfl⟩ | ⟨i, v, t, rfl, hv, hij, hle⟩
    · wp_walk
      exact stp #[] (.inr ⟨j, x, u, rfl, hx, Nat.lt_succ_self j, fun y hy => by
        have : y = j := by omega
        rw [this]
        exact Int.le_refl _⟩)
    · refine wpAny_bind (wpAny_tryCatch (wpAny_holding (wpAny_bind (cmp_lt ?_))))
      refine wpAny_bind (wpAny_holding (wpAny_truthy_bool ?_))
      refine wpAny_bind (wpAny_letGo (wpAny_pure ?_))
      by_cases hlt : kf j < kf i
      · rw [decide_eq_true hlt]
        wp_walk
        exact stp #[] (.inr ⟨j, x, u, rfl, hx, Nat.lt_succ_self j, fun y hy => by
          rcases Nat.lt_succ_iff_lt_or_eq.mp hy with z | z
          · have := hle y z
            omega
          · rw [z]
            exact Int.le_refl _⟩)
      · rw [decide_eq_false hlt]
        wp_walk
        refine ⟨Code.quiet_builtin _ (by decide +kernel), min_loopK hh s0 hk hne hSI hSl hz hI0 hS0 q r (j + 1) _ tk2 _ _ (by omega) (by omega) hI2 hl2 hS2 (.inr ⟨i, v, t, rfl, hv, by omega, fun y hy => ?_⟩) fr2⟩
        rcases Nat.lt_succ_iff_lt_or_eq.mp hy with z | z
        · exact hle y z
        · rw [z]
          omega
theorem min_key {P : Program} {w : World} {A : Around} {E : Value → Shared → Prop} {s : Shared} {l qa : Addr} {items : Array Value} {kf : Nat → Int} {Q : Value → Shared → Prop} (hh : A.handled = none) (hl : s.heap.IsList l items) (hz : 0 < items.size) (hk : KeyFn P w A.in1 s (.ref qa) items kf)
    (q : ∀ (i : Nat) (v : Value) (h' : Heap) (tk : Nat), items[i]? = some v → (∀ y, y < items.size → kf i ≤ kf y) → (∀ b o, s.heap.get? b = some o → h'.get? b = some o) → Q v { s with heap := h', toks := tk }) :
    wpAny (model P w) A (call (.builtin "min") [.ref l] [("key", .ref qa)]) Q E s := by
  have lh : l < s.heap.objs.size := by
    obtain ⟨o, e, _⟩ := hl
    exact Heap.lt_size e
  refine kmk_tree F.kind_min F.plain_min F.entry_min (kmk_min_key _ _) ?_
  refine wpAny_bind (wpAny_of_eq rfl ?_)
  refine wpAny_bind (wpAny_pure ?_)
  refine wpAny_bind (wpAny_pyIter_list hl ?_)
  refine wpAny_bind (wpAny_newList ?_)
  have hl2 := (hl.push { cls := .type "list_iterator", data := .fields #[.ref l, .int 0 0] }).push { cls := .type "list", data := .seq #[] }
  have hz2 : (s.heap.push { cls := .type "list_iterator", data := .fields #[.ref l, .int 0 0] }).objs.size = s.heap.objs.size + 1 := Heap.size_push _ _
  have old : ∀ b o, s.heap.get? b = some o → ((s.heap.push { cls := .type "list_iterator", data := .fields #[.ref l, .int 0 0] }).push { cls := .type "list", data := .seq #[] }).get? b = some o := fun b o e => Heap.get?_push_of_some _ (Heap.get?_push_of_some _ e)
  refine wpAny_pure ⟨plainId_quiet F.plain_min_loop _, ?_⟩
  refine min_loopK hh s ?_ (Nat.ne_of_lt lh) ?_ ?_ hz (Heap.get?_none_of_le (Nat.le_refl _)) (Heap.get?_none_of_le ?_) q items.size 0 _ s.toks _ #[] (Nat.sub_zero _) (Nat.zero_le _) ?_ hl2 (Heap.get?_push_size _ rfl) (.inl ⟨rfl, rfl⟩) old
  · rw [Around.under_plainId F.plain_min_loop]
    exact hk
  · show (s.heap.push _).objs.size ≠ s.heap.objs.size
    rw [hz2]
    omega
  · show (s.heap.push _).objs.size ≠ l
    rw [hz2]
    exact Nat.ne_of_gt (Nat.lt_succ_of_lt lh)
  · show s.heap.objs.size ≤ (s.heap.push _).objs.size
    rw [hz2]
    exact Nat.le_succ _
  · exact ⟨_, Heap.get?_push_of_some _ (Heap.get?_push_size _ rfl), rfl, rfl⟩
end TX
namespace TX
open PySem PySem.Spec PyProof.Rows L2 LamX
/-! ### min(list, key=lambda row: row[0]) -/
/-- the rows of a list: tuples whose first item is an int -/
def FirstInt (K : PySem.W.Frag) (H : Hp) (a : Addr) (n : Int) : Prop := ∃ us, SqT K H a (.int n :: us)
theorem sqL_extN {K : PySem.W.Frag} {H H' : Hp} {a : Addr} {xs : List V} (e : ExtN H H') (h : SqL K H a xs) : SqL K H' a xs := by
  rcases h with (h | ⟨o, h⟩) | h
  · exact .inl (.inl (e _ _ h fun _ z => nomatch z))
  · exact .inl (.inr ⟨o, e _ _ h fun _ z => nomatch z⟩)
  · exact .inr h
theorem sqT_extN {K : PySem.W.Frag} {H H' : Hp} {a : Addr} {xs : List V} (e : ExtN H H') (h : SqT K H a xs) : SqT K H' a xs := by
  rcases h with (h | ⟨o, h⟩) | h
  · exact .inl (.inl (e _ _ h fun _ z => nomatch z))
  · exact .inl (.inr ⟨o, e _ _ h fun _ z => nomatch z⟩)
  · exact .inr h
section
variable {X : Cx} {pins : List (Addr × Obj)} {σ : L2.St} {H : Hp} {s : Shared}
/-- a call of the lambda -/
theorem first_of {P : Program} {w : World} {A : Around} {s : Shared} {f c' : Addr} {q : Str} {params : Arguments} {scope : Scope} {pm ctv : Value} {p1 p2 p3 : Pos} {j : Nat} {its : Array Value} {t : Addr} {k : Int} {tok : Tok} {Q E : Value → Shared → Prop}
    (hroom : A.depth < recursionLimit) (hl : s.heap.NoLimit) (hf : s.heap.get? f = some (PySem.W.kla_obj "<lambda>" q params (.Subscript (.Name "row" p1) (.Constant (.int 0) j p3) p2) scope [] pm c' ctv)) (hk : scope.kind = .function) (hco : scope.isCoroutine = false) (hgen : scope.isGenerator = false)
    (hn : scope.names = [(("row" : Str), NameKind.local)]) (hb : ∀ v : Value, bindArgs (PySem.W.kla_fn "<lambda>" q params (.Subscript (.Name "row" p1) (.Constant (.int 0) j p3) p2) scope [] pm (.ref c') ctv) ⟨[v], []⟩ = pure [(("row" : Str), v)]) (hc : s.heap.CodeRec (.ref c') q)
    (ht : IsTup s.heap t its) (h0 : its[0]? = some (.int k tok)) (hz : 0 < its.size)
    (qq : ∀ (h' : Heap) (tk' : Nat) (t : Tok), (∀ b o, s.heap.get? b = some o → h'.get? b = some o) → Q (.int k t) { s with heap := h', toks := tk' }) : wpAny (model P w) A (call (.ref f) [.ref t]) Q E s := by
  refine wpAny_call (PySem.W.kla_callFunE hroom hf rfl hco hgen rfl hc ?_)
  rw [hb]
  refine wpAny_pure (wpAny_newFunctionEnv (fun y hy => ?_) (fun y hy => ?_) (fun h₁ hns hsb => ⟨hl.fresh _ hsb, ?_⟩) hk)
  · rw [hn] at hy
    cases List.mem_singleton.mp hy
    exact fun z => nomatch z
  · cases List.mem_singleton.mp hy
    rw [hn]
    rfl
  have kp : ∀ b o, s.heap.get? b = some o → h₁.get? b = some o := fun b o e => hsb.extBut b o (Nat.ne_of_lt (Heap.lt_size e)) (Heap.get?_push_of_some _ e)
  refine PySem.W.kla_codeExpr (wpAny_Subscript_Constant_late (wpAny_Name (wpAny_loadName_local hk ?_ hns rfl (wpAny_Constant_int ⟨_, _, F.slot_tuple_getitem.lookup, ?_, ?_⟩))))
  · show scope.names.lookup ("row" : Str) = some .local
    rw [hn]
    rfl
  · exact (ht.keeps kp).typeIs
  · exact getItem_tuple (j := 0) (x := .int k tok) (ht.keeps kp) (by decide) (by decide) (by simp [seqIndex?, hz]) h0 (qq _ _ _ kp)
/-- the least row of those at l, by its first item -/
def tMinL (K : PySem.W.Frag) (P : Addr) (q : Str) (ta : TA) : TE := fun σ H Q => ta σ H fun vs H1 => ∃ (a : Addr) (rows : List (Addr × Int)), vs = [.ref a] ∧ SqL K H1 a (rows.map fun r => V.ref r.1) ∧ (∀ r ∈ rows, FirstInt K H1 r.1 r.2) ∧ rows ≠ [] ∧ TabS H1 P q ∧
  ∀ r ∈ rows, (∀ r' ∈ rows, r.2 ≤ r'.2) → ∀ H2, ExtN H1 H2 → TabS H2 P q → Q (.ref r.1) H2
theorem pe_minL {X : Cx} {e : Expr} {ta : TA} {c P : Addr} {q : Str} {params : Arguments} {scope : Scope} {p pos lpos kpos p1 p2 p3 : Pos} {j : Nat} (hc : X.calm = true) (hr : Room 1 X.A) (hg : Gl X "min") (hm : X.mg "min" = none) (ha : PA X [e] ta) (TB : TabB X.base X.mg c P) (hcode : X.env.code = .ref c) (hq : X.env.qual ++ "<lambda>" = q)
    (hk : scope.kind = .function) (hco : scope.isCoroutine = false) (hgen : scope.isGenerator = false) (hn : scope.names = [(("row" : Str), NameKind.local)])
    (hb : ∀ (pm ctv : Value) (c' : Addr) (v : Value), bindArgs (PySem.W.kla_fn "<lambda>" q params (.Subscript (.Name "row" p1) (.Constant (.int 0) j p3) p2) scope [] pm (.ref c') ctv) ⟨[v], []⟩ = pure [(("row" : Str), v)]) (hdef : defaultsOf params X.env = ([], []))
    (hs : backTo pos (starEach [e] X.env) = (false, eval e X.env) :: backTo pos (starEach [] X.env) := by rfl) (h1 : ((backTo pos (starEach [e] X.env)).any fun x => x.fst) = false := by rfl) :
    PE X (.Call (.Name "min" p) [e] [⟨some "key", .Lambda params (.Subscript (.Name "row" p1) (.Constant (.int 0) j p3) p2) scope lpos, kpos⟩] pos) (tMinL X.K P q ta) := by
  refine ⟨fun pins s σ H Q I h => ?_⟩
  have ee : eval (.Call (.Name "min" p) [e] [⟨some "key", .Lambda params (.Subscript (.Name "row" p1) (.Constant (.int 0) j p3) p2) scope lpos, kpos⟩] pos) X.env = (do
      let f ← eval (.Name "min" p) X.env
      callWith pos f [] (backTo pos (starEach [e] X.env)) (backToKw pos (keywordEach [⟨some "key", .Lambda params (.Subscript (.Name "row" p1) (.Constant (.int 0) j p3) p2) scope lpos, kpos⟩] X.env))) := by rfl
  rw [ee]
  refine wpAny_bind (ld_blt I hg hm (u := .builtin "min") (by decide +kernel) ?_)
  refine callWith_kw (thn (ha.run pos pins s σ H _ I h) fun us s1 ⟨vs, H1, I1, r1, a, rows, e1, hl, hfi, hne, hT, qq⟩ => ?_) hs h1 (by rfl) (by rfl)
  subst e1
  obtain ⟨u, rfl, ru⟩ := r1.one
  cases ru
  show wpAny _ _ (evalAll ((do let v ← eval (.Lambda params (.Subscript (.Name "row" p1) (.Constant (.int 0) j p3) p2) scope lpos) X.env; standAt pos; pure v) :: (backToKw pos (keywordEach [] X.env)).map (·.2))) _ _ s1
  have hclo : cloFrom X.env.cells scope.names [] = [] := by
    rw [hn]
    rfl
  refine wpAny_evalAll_cons (wpAny_bind (lam_make2 (T := [(P, q)]) I1 TB hcode (by rw [hq]; exact List.mem_singleton.mpr rfl) (fun p hp _ => by rw [List.mem_singleton.mp hp, hq]) (fun p hp => by rw [List.mem_singleton.mp hp]; exact hT) hdef (fun y hy z => by
    rw [hn] at hy
    cases List.mem_singleton.mp hy
    exact nomatch z) fun f c' pm ctv H2 s2 I2 x2 T2 of nf nfr hco' => wpAny_bind (wpAny_standAt (wpAny_pure ?_))))
  rw [hclo, hq] at of
  refine wpAny_evalAll_nil ?_
  show wpAny _ _ (call (.builtin "min") [.ref a] [("key", .ref f)]) _ _ _
  obtain ⟨its, rv, il, _⟩ := I2.list (sqL_extN x2 hl)
  have lenr : its.length = rows.length := by
    have := rv.length
    rw [List.length_map] at this
    exact this.symm
  have at_ : ∀ (i : Nat) (v : Value), its.toArray[i]? = some v → ∃ r, rows[i]? = some r ∧ v = .ref r.1 := fun i v e => by
    have hi : i < rows.length := by
      rw [← lenr]
      have := (Array.getElem?_eq_some_iff.mp e).1
      simpa using this
    obtain ⟨u, eu, ru⟩ := rv.get (i := i) (x := .ref rows[i].1) (by rw [List.getElem?_map, List.getElem?_eq_getElem hi]; rfl)
    have e2 : its[i]? = some v := by simpa using e
    rw [e2] at eu
    cases eu
    cases ru
    exact ⟨rows[i], List.getElem?_eq_getElem hi, rfl⟩
  have n0 : 0 < rows.length := List.length_pos_iff.mpr hne
  refine min_key (kf := fun i => ((rows[i]?).map (·.2)).getD 0) (I2.ok.hd hc) il.isList (by rw [List.size_toArray]; omega) (fun i v hv h tk Q' E' kp qk => ?_) fun i v h' tk hv hle kp => ?_
  · obtain ⟨r, er, rfl⟩ := at_ i v hv
    obtain ⟨us, hus⟩ := hfi r (List.mem_of_getElem? er)
    obtain ⟨its2, rv2, il2, _⟩ := I2.tuple (sqT_extN x2 hus)
    obtain ⟨u0, e0, r0⟩ := rv2.get (i := 0) (x := .int r.2) rfl
    obtain ⟨tok, rfl⟩ := r0
    obtain ⟨_, hcx⟩ := I2.hok c' _ hco'
    have cr := (I2.hok c' _ hco').1
    obtain ⟨oc, vs, t, hoc, hdc, hvc⟩ := cr
    have kf : ((rows[i]?).map (·.2)).getD 0 = r.2 := by rw [er]; rfl
    refine first_of (s := { s2 with heap := h, toks := tk }) ?_ (I2.nolimit.keeps kp) (kp _ _ of) hk hco hgen hn (fun v => hb pm ctv c' v) ⟨c', oc, vs, t, rfl, kp _ _ hoc, hdc, by rw [hq] at hvc; exact hvc⟩ (il2.keeps kp) (by simpa using e0) (by
      have := rv2.length
      rw [List.size_toArray]
      simp only [List.length_cons] at this
      omega) fun h' tk' t k2 => ?_
    · exact hr.depth
    · rw [← kf]
      exact qk h' tk' t k2
  · obtain ⟨r, er, rfl⟩ := at_ i v hv
    refine ⟨.ref r.1, H2, I2.kept kp, rfl, qq r (List.mem_of_getElem? er) (fun r' hr' => ?_) H2 x2 (T2 (P, q) (List.mem_singleton.mpr rfl))⟩
    obtain ⟨i', hi', e'⟩ := List.mem_iff_getElem.mp hr'
    have z := hle i' (by rw [List.size_toArray]; omega)
    rw [er, List.getElem?_eq_getElem hi', e'] at z
    exact z
end
end TX
namespace TX
open PySem PySem.Spec PyProof.Rows L2 LamX
/-! ### least_value -/
theorem fun_okC {P : Program} {w : World} {K : PySem.W.Frag} {mg : Str → Option Value} {base : Heap} {x qual : Str} {st : Stmt} {f c : Addr} {fd : FuncData} {N ps : List Str} {k : Nat} {sp : Sp} (F : Fun K x qual st f fd) (hc : fd.code = .ref c) (S : FnScope N ps (defScope st)) (len : ∀ vs H Q E, sp vs H Q E → vs.length = ps.length)
    (hbody : ∀ (A : Around) (outer : List Env) (s : Shared) (H : Hp) (vs : List V) (Q : VK) (E : XK), Room k (A.deeper (envOfC qual (defScope st) s.heap.objs.size f (.ref c))) → sp vs H Q E →
      ∃ t, PSs (cxOf CX0 P w K mg base N qual (defScope st) f (.ref c) A outer s H E).nox (defBody st) t ∧ t { nx := fun _ H' => Q .non H', rt := Q } (start N vs) H) : FnOk P w K mg base CX0 (k + 1) f fd ps sp := by
  obtain ⟨oc, od, kV, doc, pm, an, cdv, ct, osl, rfl, lk, hcd⟩ := F.ex
  have e : cdv = .ref c := hc
  subst e
  refine fn_of lk hcd S len fun A outer s H vs Q E hr hsp => ?_
  obtain ⟨t, h, q⟩ := hbody A outer s H vs Q E hr hsp
  exact ⟨t, h.nox, q⟩
def lastX (gs : List Sx) : PyData → Bool := predAt gs (gs.length - 1)
theorem Each2.memL {α β : Type} {R : α → β → Prop} {as : List α} {bs : List β} (h : Each2 R as bs) {a : α} (ha : a ∈ as) : ∃ b ∈ bs, R a b := by
  induction h with
  | nil => cases ha
  | cons h1 h2 ih =>
    rcases List.mem_cons.mp ha with rfl | z
    · exact ⟨_, List.mem_cons_self, h1⟩
    · obtain ⟨b, hb, r⟩ := ih z
      exact ⟨b, List.mem_cons_of_mem _ hb, r⟩
mutual
theorem dp_extN {K : PySem.W.Frag} {H H' : Hp} (e : ExtN H H') : ∀ (d : PyData) (v : V), Dp K H v d → Dp K H' v d
  | .none, _, h => by cases h; exact .non
  | .bool b, _, h => by cases h; exact .bl b
  | .int i, _, h => by cases h; exact .int i
  | .str x, _, h => by cases h; exact .str x
  | .list ds, _, h => by
    cases h with
    | lst h1 h2 => exact .lst (sqL_extN e h1) (dpAll_extN e _ _ h2)
  | .tuple ds, _, h => by
    cases h with
    | tup h1 h2 => exact .tup (sqT_extN e h1) (dpAll_extN e _ _ h2)
  | .dict _, _, h => by cases h
theorem dpAll_extN {K : PySem.W.Frag} {H H' : Hp} (e : ExtN H H') : ∀ (ds : List PyData) (vs : List V), DpAll K H vs ds → DpAll K H' vs ds
  | [], _, h => by cases h; exact .nil
  | d :: ds, _, h => by
    cases h with
    | cons h1 h2 => exact .cons (dp_extN e _ _ h1) (dpAll_extN e _ _ h2)
end
def foundL (gs : List Sx) (rs : List LRow) : List LRow := rs.filter fun r => lastX gs r.2.2
def FoundAt (K : PySem.W.Frag) (H : Hp) (t : Addr × Int) (r : LRow) : Prop := t.2 = ((r.2.1 : Nat) : Int) ∧ ∃ vv, SqT K H t.1 [.int ((r.2.1 : Nat) : Int), vv] ∧ Dp K H vv r.2.2
theorem FoundAt.up {K : PySem.W.Frag} {H G : Hp} {t : Addr × Int} {r : LRow} (h : FoundAt K H t r) (s : Same H G) : FoundAt K G t r := by
  obtain ⟨e, vv, h1, h2⟩ := h
  exact ⟨e, vv, same_sqt s h1, dp_same s _ _ h2⟩
theorem ans_last {gs : List Sx} {ak : List Nat} {lim : Nat} (A : Asks gs ak lim) (hne : gs ≠ []) {r : LRow} (hv : valD r.2.2) (hl : lkOf gs ak lim r.2.2 = r.1) : ∃ init, (answersL r.1 [] gs).map V.bl = init ++ [V.bl (lastX gs r.2.2)] := by
  have p1 : 0 < gs.length := List.length_pos_iff.mpr hne
  have len : (answersL r.1 [] gs).length = gs.length := by
    rw [answersL_len]
    simp
  have z := answersL_ok A hv gs [] [] rfl rfl (fun k hk => nomatch hk) (gs.length - 1) (by omega)
  rw [hl] at z
  have ne : answersL r.1 [] gs ≠ [] := List.length_pos_iff.mp (by omega)
  refine ⟨(answersL r.1 [] gs).dropLast.map V.bl, ?_⟩
  have e : (answersL r.1 [] gs).getLast ne = lastX gs r.2.2 := by
    rw [List.getLast_eq_getElem]
    unfold lastX
    rw [← z, List.getD_eq_getElem?_getD]
    simp only [len]
    rw [List.getElem?_eq_getElem (by omega)]
    rfl
  rw [← e]
  conv => lhs; rw [← List.dropLast_concat_getLast ne]
  rw [List.map_append]
  rfl
/-- no value with the same look is smaller -/
def MinL (gs : List Sx) (ak : List Nat) (lim : Nat) (d : PyData) : Prop := valD d ∧ ∀ e, valD e → lkOf gs ak lim e = lkOf gs ak lim d → sz d ≤ sz e
theorem valAll_mid : ∀ {a : List PyData} {e : PyData} {b : List PyData}, valAll (a ++ e :: b) ↔ valAll a ∧ valD e ∧ valAll b
  | [], e, b => by simp [valAll]
  | d :: a, e, b => by simp only [List.cons_append, valAll, valAll_mid (a := a), and_assoc]
theorem szAll_mid : ∀ (a : List PyData) (e : PyData) (b : List PyData), szAll (a ++ e :: b) = szAll a + sz e + szAll b
  | [], e, b => by simp [szAll]
  | d :: a, e, b => by
    simp only [List.cons_append, szAll, szAll_mid a e b]
    omega
theorem MinL.item {gs : List Sx} {ak : List Nat} {lim : Nat} (A : Asks gs ak lim) (hak : ∀ k ∈ ak, k < gs.length) {es : List PyData} (h : MinL gs ak lim (.list es)) {e : PyData} (he : e ∈ es) : MinL gs ak lim e := by
  obtain ⟨a, b, rfl⟩ := List.append_of_mem he
  obtain ⟨va, ve, vb⟩ := valAll_mid.mp h.1
  refine ⟨ve, fun e' ve' hl => ?_⟩
  have z := h.2 (.list (a ++ e' :: b)) (valAll_mid.mpr ⟨va, ve', vb⟩) (by
    simp only [lkOf]
    congr 1
    refine List.filter_congr fun k hk => ?_
    have := same_look A ve' ve hl (hak k hk)
    simp only [List.all_append, List.all_cons, this])
  simp only [sz, szAll_mid] at z
  omega
theorem depth_in {es : List PyData} {m : Nat} (h : ∀ e ∈ es, e.depth ≤ m) : PyData.depthAll es ≤ m := by
  induction es with
  | nil => simp [PyData.depthAll]
  | cons e es ih =>
    have h1 := h e List.mem_cons_self
    have h2 := ih fun e he => h e (List.mem_cons_of_mem _ he)
    simp only [PyData.depthAll]
    omega
theorem rank_lt {rs : List LRow} {s t : Nat} (h : s < t) {r : LRow} (hr : r ∈ rs) (hs : r.2.1 = s) : (rs.filter fun r => decide (r.2.1 < s)).length < (rs.filter fun r => decide (r.2.1 < t)).length := by
  induction rs with
  | nil => cases hr
  | cons q rs ih =>
    have mono : (rs.filter fun r => decide (r.2.1 < s)).length ≤ (rs.filter fun r => decide (r.2.1 < t)).length := by
      clear ih hr
      induction rs with
      | nil => exact Nat.le_refl _
      | cons p rs ih2 =>
        simp only [List.filter_cons]
        by_cases h1 : p.2.1 < s
        · rw [if_pos (by simpa using h1), if_pos (by simp; omega)]
          simp only [List.length_cons]
          omega
        · rw [if_neg (by simpa using h1)]
          split
          · simp only [List.length_cons]
            omega
          · exact ih2
    simp only [List.filter_cons]
    rcases List.mem_cons.mp hr with e | hr
    · rw [← e, hs, if_neg (by simp), if_pos (by simpa using h)]
      simp only [List.length_cons]
      omega
    · have := ih hr
      by_cases h1 : q.2.1 < s
      · rw [if_pos (by simpa using h1), if_pos (by simp; omega)]
        simp only [List.length_cons]
        omega
      · rw [if_neg (by simpa using h1)]
        split
        · simp only [List.length_cons]
          omega
        · exact this
section
variable {gs : List Sx} {ak : List Nat} {lim : Nat} {rows : List LRow}
theorem min_depth (A : Asks gs ak lim) (hak : ∀ k ∈ ak, k < gs.length) (hs : Sound gs ak lim rows) (hb : Based ak lim rows) (hc : Closed gs rows) : ∀ (n : Nat) (d : PyData), sz d ≤ n → MinL gs ak lim d → d.depth ≤ (rows.filter fun r => decide (r.2.1 < sz d)).length + 1
  | 0, d, h, _ => by
    have : 1 ≤ sz d := by cases d <;> simp [sz]
    omega
  | n + 1, d, h, hm => by
    cases d with
    | none => simp [PyData.depth]
    | str x => simp [PyData.depth]
    | list es =>
      have len : ∀ e ∈ es, sz e < sz (.list es) := fun e he => by
        have := sz_mem he
        simp only [sz]
        omega
      have := depth_in (es := es) (m := (rows.filter fun r => decide (r.2.1 < sz (.list es))).length) fun e he => by
        have me := hm.item A hak he
        have ih := min_depth A hak hs hb hc n e (by have := len e he; omega) me
        obtain ⟨r, hr, e1, e2⟩ := least_ok A hak hs hb hc e me.1
        obtain ⟨v1, s1, k1⟩ := hs r hr
        have z := me.2 _ v1 (by rw [k1, e1])
        have := rank_lt (len e he) hr (by omega)
        omega
      simp only [PyData.depth]
      omega
    | _ => exact hm.1.elim
end
def spLeast (K : PySem.W.Frag) (T : Addr) : Sp := fun vs H Q _ => ∃ (rc : Addr) (as : List Addr) (gs : List Sx), vs = [.ref rc] ∧ RecX K H rc as gs ∧ gs ≠ [] ∧ gs.length ≤ 600 ∧ askX gs ≤ 3 ∧ TabS H T "least_value.<locals>.<lambda>" ∧
  ((∀ d, valD d → lastX gs d = false) → ∀ (G : Hp) (e : Addr), ExtN H G → TabS G T "least_value.<locals>.<lambda>" → G e = some (.tup []) → Q (.ref e) G) ∧
  ∀ (d : PyData), valD d → lastX gs d = true → (∀ e, valD e → lastX gs e = true → sz d ≤ sz e) → sz d ≤ 640 ∧ d.depth ≤ 15 → ∀ (G : Hp) (t : Addr) (v : V), ExtN H G → TabS G T "least_value.<locals>.<lambda>" → G t = some (.tup [v]) → Dp K G v d → Q (.ref t) G
section
variable {P : Program} {w : World} {K : PySem.W.Frag} {mg : Str → Option Value} {base : Heap}
theorem scLeast : FnScope ["recipe", "found", "size", "value", "answers"] ["recipe"] (defScope s_least_value) := ⟨rfl, rfl, rfl, by decide +kernel, rfl, by decide +kernel, by decide +kernel⟩
theorem ok_least {f fR c T : Addr} {fd dR : FuncData} (F : Fun K "least_value" "least_value" s_least_value f fd) (hc : fd.code = .ref c) (TB : TabB base mg c T) (N : Nr mg)
    (GR : FnOk P w K mg base CX0 4 fR dR ["recipe"] (spRows K)) (gR : mg "least_rows" = some (.ref fR)) (kR : PySem.W.keepIn K (.ref fR) = true) (bR : Binds K dR ["recipe"] []) : FnOk P w K mg base CX0 5 f fd ["recipe"] (spLeast K T) := by
  refine fun_okC F hc scLeast (fun vs H Q E h => ?_) (fun A outer s H vs Q E hr h => ?_)
  · obtain ⟨rc, as, gs, rfl, _⟩ := h
    rfl
  · obtain ⟨rc, as, gs, rfl, R, hne, hz, hx, hT, q0, q1⟩ := h
    have hr1 := hr.mono (show 1 ≤ 4 by decide)
    refine ⟨_, pss_cons (ps_setLc (i := 1) (own := [("size", 2), ("value", 3), ("answers", 4)]) (g := gTup K 3 (gCons (gName 2) (gCons (gName 3) (gCons (gName 4) gNil)))) (tt := tB (tOp (rIxL K) (tVar 4) (tUn (rU fun i => .int (-i)) (tC (.int 1))))) (te := tTup (tCons (tVar 2) (tCons (tVar 3) tNil))) rfl scLeast.nd rfl rfl (sw_true rfl rfl rfl (by decide +kernel)) (pi_list (pe_call GR hr (by rfl) gR kR bR .nil pass0 (pa_cons (pv 0) pa_nil)))
        (blkOk_by (own := [("size", 2), ("value", 3), ("answers", 4)]) (N := ["recipe", "found", "size", "value", "answers"]) (sc := defScope s_least_value) (by decide +kernel))
        (fun _ _ _ _ _ => pg_tup rfl (pgs_cons (pg_name (i := 2) scLeast.nd rfl (Or.inl rfl)) (pgs_cons (pg_name (i := 3) scLeast.nd rfl (Or.inl rfl)) (pgs_cons (pg_name (i := 4) scLeast.nd rfl (Or.inl rfl)) pgs_nil)))) (fun _ _ _ _ _ => pts_one (pt_val (pe_ix ix_list (pv 4) (pe_un un_neg pe_int) (fun _ _ => rfl))))
        (fun _ _ _ _ _ => pe_tup (pa_cons (pv 2) (pa_cons (pv 3) pa_nil)))) <|
      pss_cons (ps_if (pt_not (pt_truth (pv 1) (by intro _; rfl))) (pss_one (ps_ret (pe_tup pa_nil))) pss_nil) <|
      pss_one (ps_ret (pe_tup (pa_cons (pe_ix ix_tup (pe_minL (P := T) (q := "least_value.<locals>.<lambda>") rfl hr1 (by rfl) N.min (pa_cons (pv 1) pa_nil) TB rfl rfl rfl rfl rfl rfl (fun _ _ _ _ => rfl) rfl) pe_int (fun _ _ => rfl)) pa_nil))), ?_⟩
    refine ⟨_, rfl, rc, as, gs, rfl, R, hz, hx, fun G l xs rs ak lim sG nl hl hE hS hB hC hbd hlen AK hak => ⟨l, rfl, ⟨_, SqL.of hl⟩, fun D nD => walk_turns (walk_list (K := K) (a := l) (xs := gvals xs)) (fun i G' => ∃ ts : List (Addr × Int), G' D = some (.lst (ts.map fun r => V.ref r.1)) ∧ Same G G' ∧ Each2 (FoundAt K (L2.del G' D)) ts (foundL gs (rs.take i)) ∧ ts.length ≤ i) ⟨[], upd_same, same_upd nD, .nil, Nat.le_refl _⟩ (fun i G' hi ⟨_, _, sm, _⟩ => SqL.of (sm _ _ hl)) ?_ ?_⟩⟩
    · rintro i x G1 G' hi ⟨ts, hD, sm, hF, tl⟩ ⟨rfl, hx'⟩
      unfold gvals at hx'
      rw [List.getElem?_map] at hx'
      obtain ⟨row, erow, rfl⟩ : ∃ row, xs[i]? = some row ∧ x = row.2.2 := by
        cases z : xs[i]? with
        | none => rw [z] at hx'; cases hx'
        | some y =>
          rw [z] at hx'
          exact ⟨y, rfl, (Option.some.inj hx').symm⟩
      obtain ⟨r, er, tr⟩ := hE.get erow
      obtain ⟨t, vv, aA, et, a0, b0, c0⟩ := tr.val
      have a1 := same_sqt sm a0
      have c1 := sm.seq c0
      obtain ⟨vd, szd, lkd⟩ := hS r (List.mem_of_getElem? er)
      obtain ⟨init, ei⟩ := ans_last AK hne vd lkd
      rw [ei] at c1
      have tk1 : foundL gs (rs.take (i + 1)) = foundL gs (rs.take i) ++ if lastX gs r.2.2 = true then [r] else [] := by
        unfold foundL
        rw [List.take_add_one, er, List.filter_append]
        congr 1
        simp [List.filter_cons]
      rw [tk1]
      have il : i < rs.length := (List.getElem?_eq_some_iff.mp er).1
      refine ⟨t, _, et, a1, rfl, _, _, rfl, _, _, rfl, _, _, rfl, rfl, rfl, _, rfl, 1, rfl, aA, _, -1, _, rfl, rfl, c1, atI_last _ _, _, rfl, ?_⟩
      cases hb : lastX gs r.2.2 with
      | false =>
        refine iteF ⟨ts, hD, sm, ?_, by omega⟩
        rw [if_neg (by decide), List.append_nil]
        exact hF
      | true =>
        refine iteT ⟨_, rfl, _, rfl, (by show 2 ≤ sizeLine; decide), fun t2 nt2 => ?_⟩
        have st2 := same_upd (o := .tup [.int ((r.2.1 : Nat) : Int), vv]) nt2
        have hD2 : D ≠ t2 := ne_of_none hD nt2
        have nDt : ∀ b o, G b = some o → b ≠ D := fun b o e => ne_of_none e nD
        refine ⟨_, st2 _ _ hD, ?_, ts ++ [(t2, ((r.2.1 : Nat) : Int))], ?_, same_fresh nD (sm.trans st2), ?_, by rw [List.length_append]; show ts.length + 1 ≤ i + 1; omega⟩
        · rw [List.length_map]
          exact Nat.lt_of_le_of_lt (show ts.length ≤ 100 by omega) (by decide)
        · rw [upd_same, List.map_append]
          rfl
        rw [if_pos rfl]
        have upN : Same G (L2.del (upd (upd G' t2 (.tup [.int ((r.2.1 : Nat) : Int), vv])) D (.lst (ts.map (fun r => V.ref r.1) ++ [.ref t2]))) D) := fun b o e => by
          have hb := nDt b o e
          rw [del_ne hb, upd_ne hb]
          exact st2 _ _ (sm _ _ e)
        refine (hF.imp fun _ _ z => z.up (del_upd st2)).app (.cons ⟨rfl, vv, SqT.of ?_, ?_⟩ .nil)
        · rw [del_ne hD2.symm, upd_ne hD2.symm, upd_same]
        · exact dp_same upN _ _ b0
    rintro G' ⟨ts, hD, sm, hF, _⟩
    have lv : (gvals xs).length = rs.length := by
      unfold gvals
      rw [List.length_map, hE.len]
    rw [lv, List.take_length] at hF
    have sHG := sG.trans sm
    have inF : ∀ r, r ∈ foundL gs rs ↔ r ∈ rs ∧ lastX gs r.2.2 = true := fun r => by
      unfold foundL
      rw [List.mem_filter]
    have p1 : 0 < gs.length := List.length_pos_iff.mpr hne
    have has : ∀ d, valD d → lastX gs d = true → ∃ r ∈ foundL gs rs, r.2.1 ≤ sz d := fun d hd hl => by
      obtain ⟨r, hr, e1, e2⟩ := least_ok AK hak hS hB hC d hd
      obtain ⟨v1, _, k1⟩ := hS r hr
      have := same_look AK v1 hd (by rw [k1, e1]) (k := gs.length - 1) (by omega)
      exact ⟨r, (inF r).mpr ⟨hr, by unfold lastX at hl ⊢; rw [this, hl]⟩, e2⟩
    refine ⟨_, rfl, _, .inl ⟨_, SqL.of hD, rfl⟩, ?_⟩
    cases ts with
    | nil =>
      refine iteT ⟨Nat.zero_le _, fun e ne => ?_⟩
      have se := same_upd (o := .tup []) ne
      refine q0 (fun d hd => ?_) _ e (ExtN.of (sHG.trans se)) (hT.ext (sHG.trans se)) upd_same
      cases hb : lastX gs d with
      | false => rfl
      | true =>
        obtain ⟨r, hr, _⟩ := has d hd hb
        have e0 : foundL gs rs = [] := List.eq_nil_of_length_eq_zero (by rw [← hF.len]; rfl)
        rw [e0] at hr
        cases hr
    | cons t0 tr0 =>
      have fi : ∀ r ∈ t0 :: tr0, ∃ q ∈ foundL gs rs, FoundAt K G' r q := fun r hr => by
        obtain ⟨q, hq, z⟩ := hF.memL hr
        exact ⟨q, hq, z.up del_sub⟩
      refine iteF ⟨_, rfl, D, t0 :: tr0, rfl, SqL.of hD, fun r hr => ?_, (fun z => nomatch z), hT.ext sHG, fun r hr hle G2 x2 T2 => ?_⟩
      · obtain ⟨q, _, e, vv, z, _⟩ := fi r hr
        rw [e]
        exact ⟨_, z⟩
      · obtain ⟨q, hq, e, vv, z1, z2⟩ := fi r hr
        obtain ⟨hq1, hq2⟩ := (inF q).mp hq
        obtain ⟨vq, sq, lq⟩ := hS q hq1
        refine ⟨r.1, _, 1, vv, rfl, rfl, sqT_extN x2 z1, atI_nat (j := 1) rfl, (by show 1 ≤ sizeLine; decide), fun t nt => ?_⟩
        have st := same_upd (o := .tup [vv]) nt
        have mn : ∀ d, valD d → lastX gs d = true → sz q.2.2 ≤ sz d := fun d hd hl => by
          obtain ⟨q', hq', le⟩ := has d hd hl
          obtain ⟨r', hr', zr⟩ := hF.memR hq'
          have := hle r' hr'
          rw [e, zr.1] at this
          rw [sq]
          omega
        have mq : MinL gs ak lim q.2.2 := ⟨vq, fun d hd hl => mn d hd (by
          have := same_look AK hd vq hl (k := gs.length - 1) (by omega)
          unfold lastX at hq2 ⊢
          rw [this, hq2])⟩
        have dep : q.2.2.depth ≤ 15 := by
          have := min_depth AK hak hS hB hC _ _ (Nat.le_refl _) mq
          have := List.length_filter_le (fun r : LRow => decide (r.2.1 < sz q.2.2)) rs
          omega
        refine q1 q.2.2 vq hq2 mn ⟨by rw [sq]; exact hbd q hq1, dep⟩ _ t vv ((ExtN.of sHG).trans (x2.trans (ExtN.of st))) (T2.ext st) upd_same (dp_same st _ _ (dp_extN x2 _ _ z2))
end
end TX
namespace TX
open PySem PySem.Spec PyProof.Rows L2
/-! ### bool(a tuple) -/
open PySem.Sem (wp) in
theorem bool_of_tup (l : Addr) (items : Array Value) (hfit : (items.size : Int) < 2 ^ 63) : Meets (Builtin.«bool.__new__» ⟨[.type "bool", .ref l], []⟩) (fun _ R s => IsTup s.heap l items ∧ R (.ok (.ret (.bool (!items.isEmpty)))) { s with toks := s.toks + 1 + 1 }) :=
  Meets.of_wp fun prog w A R s h => by
    obtain ⟨ht, h⟩ := h
    have e := F.conv_sub_bool
    obtain ⟨hp, g, d, tk, os⟩ := s
    repeat (any_goals (first | assumption | (with_reducible refine truthy_tuple ht hfit ?_) | wp_step))
    all_goals first | exact ⟨_, rfl, h⟩ | exact h | skip
theorem call_boolT {X : Cx} : CallR X (.type "bool") (fun xs H Q => ∃ (a : Addr) (zs : List V), xs = [.ref a] ∧ SqT X.K H a zs ∧ Q (.bl (!zs.isEmpty)) H) := by
  intro pins s σ H xs us Q I r h
  obtain ⟨a, zs, rfl, hq, q⟩ := h
  rw [Vals.ref1 r]
  obtain ⟨its, rv, pl, hz⟩ := I.tuple hq
  have hl := line63
  have hlen := rv.length
  have hs : (its.toArray.size : Int) < 2 ^ 63 := by
    rw [List.size_toArray]
    omega
  refine call_bool_1 (bool_of_tup a its.toArray hs) ⟨pl, ?_⟩
  exact ⟨rfl, .bl (!zs.isEmpty), H, I.tok _, by rw [isEmpty_of rv]; rfl, q⟩
end TX
namespace TX
open PySem PySem.Spec PyProof.Rows L2 LamX
/-! ### bool and least of shapes -/
theorem lastX_of (gs : List Sg) : lastX (gs.map Sx.of) = lastP gs := by
  unfold lastX predAt lastP
  rw [predsX_of, List.length_map]
theorem nests_take (gs : List Sx) : ∀ i, i ≤ gs.length → (nestsN gs i).length = ((gs.take i).filter nestB).length
  | 0, _ => rfl
  | i + 1, h => by
    have eg := List.getElem?_eq_getElem (l := gs) (i := i) (by omega)
    have ih := nests_take gs i (by omega)
    unfold nestsN at *
    rw [List.range_succ, List.filter_append, List.length_append, ih, List.take_add_one, eg, List.filter_append, List.length_append]
    congr 1
    have e : isNest gs i = nestB gs[i] := by
      unfold isNest
      rw [eg]
    cases hb : nestB gs[i] with
    | true => simp [List.filter_cons, e, hb]
    | false => simp [List.filter_cons, e, hb]
theorem askX_of : ∀ gs : List Sg, askX (gs.map Sx.of) = asksN gs := by
  intro gs
  unfold askX
  rw [nests_take _ _ (Nat.le_refl _), List.take_length]
  induction gs with
  | nil => rfl
  | cons g gs ih =>
    unfold listsN2 at *
    cases g <;> simp_all [Sx.of, listB, nestB, asksN, Sg.askB, List.filter_cons, List.filterMap_cons] <;> omega
abbrev lamQ : Str := "least_value.<locals>.<lambda>"
def spBoolS (K : PySem.W.Frag) (C T : Addr) : Sp := fun vs H Q _ => ∃ (x : Addr) (gs : List Sg) (Hv : Hp), vs = [.ref x] ∧ Same Hv H ∧ ShAt K Hv C x gs ∧ gs ≠ [] ∧ gs.length ≤ 300 ∧ asksN gs ≤ 3 ∧ TabS H T lamQ ∧
  ∀ (G : Hp) (b : Bool), ExtN H G → TabS G T lamQ → (b = false → ∀ d, valD d → lastP gs d = false) → (b = true → ∃ d, valD d ∧ lastP gs d = true ∧ sz d ≤ 640 ∧ d.depth ≤ 15) → Q (.bl b) G
def spLeastS (K : PySem.W.Frag) (C T : Addr) : Sp := fun vs H Q _ => ∃ (x : Addr) (gs : List Sg) (Hv : Hp), vs = [.ref x] ∧ Same Hv H ∧ ShAt K Hv C x gs ∧ gs ≠ [] ∧ gs.length ≤ 300 ∧ asksN gs ≤ 3 ∧ TabS H T lamQ ∧
  ((∀ d, valD d → lastP gs d = false) → ∀ (G G' : Hp) (v : V), ExtN H G → TabS G T lamQ → Same G G' → Dp K (newp G G') v (.tuple []) → Q v G') ∧
  ∀ (d : PyData), valD d → lastP gs d = true → (∀ e, valD e → lastP gs e = true → sz d ≤ sz e) → sz d ≤ 640 ∧ d.depth ≤ 15 → ∀ (G G' : Hp) (v : V), ExtN H G → TabS G T lamQ → Same G G' → Dp K (newp G G') v (.tuple [d]) → Q v G'
section
variable {P : Program} {w : World} {K : PySem.W.Frag} {mg : Str → Option Value} {base : Heap} {C T : Addr}
theorem of_ne {gs : List Sg} (h : gs ≠ []) : gs.map Sx.of ≠ [] := fun z => h (List.map_eq_nil_iff.mp z)
theorem scBoolS : FnScope ["self"] ["self"] (defScope mShape_bool) := ⟨rfl, rfl, rfl, by decide +kernel, rfl, by decide +kernel, by decide +kernel⟩
theorem ok_boolS {f fL : Addr} {fd dL : FuncData} (F : Fun K "__bool__" "Shape.__bool__" mShape_bool f fd) (E0' : Ek K mg C) (gB : mg "bool" = none)
    (GL : FnOk P w K mg base CX0 5 fL dL ["recipe"] (spLeast K T)) (gL : mg "least_value" = some (.ref fL)) (kL : PySem.W.keepIn K (.ref fL) = true) (bL : Binds K dL ["recipe"] []) : FnOk P w K mg base CX0 6 f fd ["self"] (spBoolS K C T) := by
  refine F.ok scBoolS (fun vs H Q E h => ?_) (fun cdv A outer s H vs Q E hr h => ?_)
  · obtain ⟨x, gs, Hv, rfl, _⟩ := h
    rfl
  · obtain ⟨x, gs, Hv, rfl, sv, ⟨dx, rc, pl, aW, aA, aR, aL, as, ak, ws, ar, lv, hx0, RC, PF, hW, hk⟩, hne, hl, h3, hT, q⟩ := h
    have hx := sv _ _ hx0
    refine ⟨_, pss_one (ps_ret (pe_callTy call_boolT (by rfl) gB (by decide +kernel) (pa_cons (pe_call GL hr (by rfl) gL kL bL .nil pass0 (pa_cons (pe_fld (pv 0) rfl) pa_nil)) pa_nil))), ?_⟩
    refine ⟨_, rfl, x, C, dx, _, _, rfl, hx, E0'.cl, E0'.nR, shF_rec rc pl, rc, as, gs.map Sx.of, rfl, (RC.up sv).x, of_ne hne, by rw [List.length_map]; omega, by rw [askX_of]; exact h3, hT, fun h0 G e xG tG he => ?_, fun d vd ld _ sd G t v xG tG ht hd => ?_⟩
    · rw [lastX_of] at h0
      exact ⟨e, _, rfl, SqT.of he, q G false xG tG (fun _ => h0) (fun z => nomatch z)⟩
    · rw [lastX_of] at ld
      exact ⟨t, _, rfl, SqT.of ht, q G true xG tG (fun z => nomatch z) (fun _ => ⟨d, vd, ld, sd⟩)⟩
theorem scLeastS : FnScope ["self"] ["self"] (defScope mShape_least) := ⟨rfl, rfl, rfl, by decide +kernel, rfl, by decide +kernel, by decide +kernel⟩
theorem ok_leastS {f fL fP fY : Addr} {fd dL dY : FuncData} {k : Nat} (F : Fun K "least" "Shape.least" mShape_least f fd) (E0' : Ek K mg C)
    (GL : FnOk P w K mg base CX0 5 fL dL ["recipe"] (spLeast K T)) (gL : mg "least_value" = some (.ref fL)) (kL : PySem.W.keepIn K (.ref fL) = true) (bL : Binds K dL ["recipe"] [])
    (GY : FnOk P w K mg base CX0 5 fY dY ["thing"] (spCopy K)) (gY : mg "copy_of" = some (.ref fY)) (kY : PySem.W.keepIn K (.ref fY) = true) (bY : Binds K dY ["thing"] []) : FnOk P w K mg base CX0 6 f fd ["self"] (spLeastS K C T) := by
  refine F.ok scLeastS (fun vs H Q E h => ?_) (fun cdv A outer s H vs Q E hr h => ?_)
  · obtain ⟨x, gs, Hv, rfl, _⟩ := h
    rfl
  · obtain ⟨x, gs, Hv, rfl, sv, ⟨dx, rc, pl, aW, aA, aR, aL, as, ak, ws, ar, lv, hx0, RC, PF, hW, hk⟩, hne, hl, h3, hT, q0, q1⟩ := h
    have hx := sv _ _ hx0
    refine ⟨_, pss_one (ps_ret (pe_call GY hr (by rfl) gY kY bY .nil pass0 (pa_cons (pe_call GL hr (by rfl) gL kL bL .nil pass0 (pa_cons (pe_fld (pv 0) rfl) pa_nil)) pa_nil))), ?_⟩
    refine ⟨_, rfl, x, C, dx, _, _, rfl, hx, E0'.cl, E0'.nR, shF_rec rc pl, rc, as, gs.map Sx.of, rfl, (RC.up sv).x, of_ne hne, by rw [List.length_map]; omega, by rw [askX_of]; exact h3, hT, fun h0 G e xG tG he => ?_, fun d vd ld lst sd G t v xG tG ht hd => ?_⟩
    · rw [lastX_of] at h0
      exact ⟨.ref e, .tuple [], G, rfl, Same.refl _, .tup (SqT.of he) .nil, by decide, fun G' v' s' dp => q0 h0 G G' v' xG tG s' dp⟩
    · rw [lastX_of] at ld lst
      refine ⟨.ref t, .tuple [d], G, rfl, Same.refl _, .tup (SqT.of ht) (.cons hd .nil), ?_, fun G' v' s' dp => q1 d vd ld lst sd G G' v' xG tG s' dp⟩
      have := nd_sz d vd
      have := sd.1
      simp only [nd, ndAll]
      omega
end
end TX
namespace TX
open PySem PySem.Spec PyProof.Rows L2 LamX
/-! ### equal shapes, and one within another -/
theorem predsX_end (g : Sx) : ∀ (gs : List Sx) (ps : List (PyData → Bool)), predsX ps (gs ++ [g]) = predsX ps gs ++ [g.pred (predsX ps gs)]
  | [], ps => rfl
  | h :: gs, ps => by
    simp only [List.cons_append, predsX]
    exact predsX_end g gs _
theorem lastX_end (gs : List Sg) (g : Sx) : lastX (gs.map Sx.of ++ [g]) = g.pred (predsOf [] gs) := by
  unfold lastX predAt
  rw [predsX_end, predsX_of, List.length_append, List.length_map]
  have : gs.length + [g].length - 1 = (predsOf [] gs).length := by
    rw [predsOf_len]
    simp
  rw [this, getD_new]
theorem askX_end (gs : List Sg) (g : Sx) (h1 : listB g = none) (h2 : nestB g = false) : askX (gs.map Sx.of ++ [g]) = asksN gs := by
  rw [← askX_of gs]
  unfold askX listsN2
  rw [nests_take _ _ (Nat.le_refl _), nests_take _ _ (Nat.le_refl _), List.take_length, List.take_length, List.filterMap_append, List.filter_append]
  simp [h1, h2]
/-- two shapes that are compared -/
structure Two (K : PySem.W.Frag) (C T : Addr) (H : Hp) (x y : Addr) (gs1 gs2 : List Sg) (Hv : Hp) : Prop where
  sv : Same Hv H
  one : ShAt K Hv C x gs1
  two : ShAt K Hv C y gs2
  n1 : gs1 ≠ []
  n2 : gs2 ≠ []
  l1 : gs1.length ≤ 200
  l2 : gs2.length ≤ 100
  k : asksN gs1 + asksN gs2 ≤ 3
  tab : TabS H T lamQ
def spEqS (K : PySem.W.Frag) (C T : Addr) : Sp := fun vs H Q _ => (∃ (x y : Addr) (gs1 gs2 : List Sg) (Hv : Hp), vs = [.ref x, .ref y] ∧ Two K C T H x y gs1 gs2 Hv ∧
    ∀ (G : Hp) (b : Bool), ExtN H G → TabS G T lamQ → (b = true → ∀ d, valD d → lastP gs1 d = lastP gs2 d) → (b = false → ∃ d, valD d ∧ lastP gs1 d ≠ lastP gs2 d) → Q (.bl b) G) ∨
  ∃ (x : Addr) (y : V) (t : Value), vs = [.ref x, y] ∧ TyX K H y t ∧ PySem.W.kitOne K t (.ref C) = some false ∧ Q (.bl false) H
def spInS (K : PySem.W.Frag) (C T : Addr) : Sp := fun vs H Q _ => ∃ (x y : Addr) (gs1 gs2 : List Sg) (Hv : Hp), vs = [.ref x, .ref y] ∧ Two K C T H x y gs1 gs2 Hv ∧
  ∀ (G : Hp) (b : Bool), ExtN H G → TabS G T lamQ → (b = true → ∀ d, valD d → lastP gs1 d = true → lastP gs2 d = true) → (b = false → ∃ d, valD d ∧ lastP gs1 d = true ∧ lastP gs2 d = false) → Q (.bl b) G
structure Isi (K : PySem.W.Frag) (C : Addr) : Prop where
  ha : PySem.W.findIn K (.ref C) "__class__" = some (some (.builtin "object.__class__"))
  hn : PySem.W.specialIn K (.builtin "object.__class__") "__get__" = some (some (.builtin "getset_descriptor.__get__"))
  htk : PySem.W.takesIn K (.builtin "object.__class__") = some true
  hm : PySem.W.mroIn K C (.type "object") = some true
  me : PySem.W.kitOne K (.ref C) (.ref C) = some true
section
variable {P : Program} {w : World} {K : PySem.W.Frag} {mg : Str → Option Value} {base : Heap} {C T : Addr}
/-- what least_value is asked of both -/
theorem both_args {gs1 gs2 more : List Sg} {j : Nat} {mk : Nat → Nat → Sx} {op : Bool → Bool → Bool} (ha : asksN more ≤ asksN gs2) (hm : more.length ≤ gs2.length) (hp : (predsOf [] (gs1 ++ more)).getD j nv = (predsOf [] gs2).getD (gs2.length - 1) nv)
    (n1 : gs1 ≠ []) (l1 : gs1.length ≤ 200) (l2 : gs2.length ≤ 100) (hk : asksN gs1 + asksN gs2 ≤ 3) (hl : ∀ j k, listB (mk j k) = none ∧ nestB (mk j k) = false) (hpr : ∀ ps j k, (mk j k).pred ps = fun d => op (ps.getD j nv d) (ps.getD k nv d)) :
    ((gs1 ++ more).map Sx.of ++ [mk (gs1.length - 1) j]).length ≤ 600 ∧ askX ((gs1 ++ more).map Sx.of ++ [mk (gs1.length - 1) j]) ≤ 3 ∧ lastX ((gs1 ++ more).map Sx.of ++ [mk (gs1.length - 1) j]) = fun d => op (lastP gs1 d) (lastP gs2 d) := by
  refine ⟨?_, ?_, ?_⟩
  · simp only [List.length_append, List.length_map, List.length_cons, List.length_nil]
    omega
  · rw [askX_end _ _ (hl _ _).1 (hl _ _).2, asksN_app]
    omega
  · rw [lastX_end, hpr]
    have p1 : 0 < gs1.length := List.length_pos_iff.mpr n1
    have ea : (predsOf [] (gs1 ++ more)).getD (gs1.length - 1) nv = lastP gs1 := preds_pre more gs1 (by omega)
    have eb : (predsOf [] (gs1 ++ more)).getD j nv = lastP gs2 := hp
    rw [ea, eb]
theorem scEqS : FnScope ["self", "other"] ["self", "other"] (defScope mShape_eq) := ⟨rfl, rfl, rfl, by decide +kernel, rfl, by decide +kernel, by decide +kernel⟩
theorem ok_eqS {f fL fB : Addr} {fd dL dB : FuncData} (F : Fun K "__eq__" "Shape.__eq__" mShape_eq f fd) (T0 : Ek K mg C) (N : Nm mg) (J : Isi K C)
    (GL : FnOk P w K mg base CX0 5 fL dL ["recipe"] (spLeast K T)) (gL : mg "least_value" = some (.ref fL)) (kL : PySem.W.keepIn K (.ref fL) = true) (bL : Binds K dL ["recipe"] [])
    (GB : FnOk P w K mg base CX0 1 fB dB ["sign", "one", "other"] (spBothX K)) (gB : mg "step_over_both" = some (.ref fB)) (kB : PySem.W.keepIn K (.ref fB) = true) (bB : Binds K dB ["sign", "one", "other"] []) : FnOk P w K mg base CX0 6 f fd ["self", "other"] (spEqS K C T) := by
  refine F.ok scEqS (fun vs H Q E h => ?_) (fun cdv A outer s H vs Q E hr h => ?_)
  · rcases h with ⟨x, y, gs1, gs2, Hv, rfl, _⟩ | ⟨x, y, t, rfl, _⟩ <;> rfl
  · refine ⟨_, pss_one (ps_ret (pe_and (pe_callB call_isi (by rfl) N.isi (by decide +kernel) (pa_cons (pv 1) (pa_cons (pe_glob (v := .ref C) (by rfl) T0.mgC rfl) pa_nil)))
      (pe_one (pe_notT (pe_call GL hr (by rfl) gL kL bL .nil pass0 (pa_cons (pe_call GB (hr.mono (by decide)) (by rfl) gB kB bB .nil pass0 (pa_cons pe_str (pa_cons (pe_fld (pv 0) rfl) (pa_cons (pe_fld (pv 1) rfl) pa_nil)))) pa_nil)))))), ?_⟩
    rcases h with ⟨x, y, gs1, gs2, Hv, rfl, Z, q⟩ | ⟨x, y, t, rfl, hy, hk, q⟩
    · obtain ⟨sv, ⟨dx, rc, pl, aW, aA, aR, aL, as, ak, ws, ar, lv, hx0, RC, _⟩, ⟨dy, rc2, pl2, aW2, aA2, aR2, aL2, as2, ak2, ws2, ar2, lv2, hy0, RC2, _⟩, n1, n2, l1, l2, h3, tab⟩ := Z
      have hx := sv _ _ hx0
      have hy := sv _ _ hy0
      refine ⟨_, rfl, .ref y, .ref C, _, .ref C, _, rfl, .own C, .base (.ins hy T0.cl J.ha J.hn J.htk J.hm), J.me, _, rfl, iteT ?_⟩
      refine ⟨_, rfl, x, C, dx, _, _, rfl, hx, T0.cl, T0.nR, shF_rec rc pl, _, rfl, y, C, dy, _, _, rfl, hy, T0.cl, T0.nR, shF_rec rc2 pl2, Sx.differ, rc, rc2, as, as2, gs1, gs2, Hv, rfl, sv, RC, RC2, n1, n2, by omega, l2, (fun j k => ⟨rfl, rfl, rfl, trivial⟩), fun H' rc' as' more j s RC' hask hml hj hp => ?_⟩
      obtain ⟨h6, h7, h8⟩ := both_args (mk := Sx.differ) (op := fun a b => a != b) hask hml hp n1 l1 l2 h3 (fun _ _ => ⟨rfl, rfl⟩) (fun _ _ _ => rfl)
      refine ⟨rc', as', _, rfl, RC'.up (ov_same sv s), by simp, h6, h7, tab.ext s, fun h0 G e xG tG he => ?_, fun d vd ld _ sd G t v xG tG ht hd => ?_⟩
      · rw [h8] at h0
        exact ⟨false, .inr (.inl ⟨[], SqT.of he, rfl⟩), q G _ ((ExtN.of s).trans xG) tG (fun _ d vd => bne_eq_false_iff_eq.mp (h0 d vd)) (fun z => nomatch z)⟩
      · rw [h8] at ld
        exact ⟨true, .inr (.inl ⟨[v], SqT.of ht, rfl⟩), q G _ ((ExtN.of s).trans xG) tG (fun z => nomatch z) (fun _ => ⟨d, vd, bne_iff_ne.mp ld⟩)⟩
    · exact ⟨_, rfl, y, .ref C, _, .ref C, _, rfl, .own C, hy, hk, _, rfl, iteF q⟩
theorem scInS : FnScope ["self", "other"] ["self", "other"] (defScope mShape_within) := ⟨rfl, rfl, rfl, by decide +kernel, rfl, by decide +kernel, by decide +kernel⟩
theorem ok_inS {f fL fB : Addr} {fd dL dB : FuncData} (F : Fun K "within" "Shape.within" mShape_within f fd) (T0 : Ek K mg C)
    (GL : FnOk P w K mg base CX0 5 fL dL ["recipe"] (spLeast K T)) (gL : mg "least_value" = some (.ref fL)) (kL : PySem.W.keepIn K (.ref fL) = true) (bL : Binds K dL ["recipe"] [])
    (GB : FnOk P w K mg base CX0 1 fB dB ["sign", "one", "other"] (spBothX K)) (gB : mg "step_over_both" = some (.ref fB)) (kB : PySem.W.keepIn K (.ref fB) = true) (bB : Binds K dB ["sign", "one", "other"] []) : FnOk P w K mg base CX0 6 f fd ["self", "other"] (spInS K C T) := by
  refine F.ok scInS (fun vs H Q E h => ?_) (fun cdv A outer s H vs Q E hr h => ?_)
  · obtain ⟨x, y, gs1, gs2, Hv, rfl, _⟩ := h
    rfl
  · obtain ⟨x, y, gs1, gs2, Hv, rfl, Z, q⟩ := h
    refine ⟨_, pss_one (ps_ret (pe_notT (pe_call GL hr (by rfl) gL kL bL .nil pass0 (pa_cons (pe_call GB (hr.mono (by decide)) (by rfl) gB kB bB .nil pass0 (pa_cons pe_str (pa_cons (pe_fld (pv 0) rfl) (pa_cons (pe_fld (pv 1) rfl) pa_nil)))) pa_nil)))), ?_⟩
    obtain ⟨sv, ⟨dx, rc, pl, aW, aA, aR, aL, as, ak, ws, ar, lv, hx0, RC, _⟩, ⟨dy, rc2, pl2, aW2, aA2, aR2, aL2, as2, ak2, ws2, ar2, lv2, hy0, RC2, _⟩, n1, n2, l1, l2, h3, tab⟩ := Z
    have hx := sv _ _ hx0
    have hy := sv _ _ hy0
    refine ⟨_, rfl, x, C, dx, _, _, rfl, hx, T0.cl, T0.nR, shF_rec rc pl, _, rfl, y, C, dy, _, _, rfl, hy, T0.cl, T0.nR, shF_rec rc2 pl2, Sx.minus, rc, rc2, as, as2, gs1, gs2, Hv, rfl, sv, RC, RC2, n1, n2, by omega, l2, (fun j k => ⟨rfl, rfl, rfl, trivial⟩), fun H' rc' as' more j s RC' hask hml hj hp => ?_⟩
    obtain ⟨h6, h7, h8⟩ := both_args (mk := Sx.minus) (op := fun a b => a && !b) hask hml hp n1 l1 l2 h3 (fun _ _ => ⟨rfl, rfl⟩) (fun _ _ _ => rfl)
    refine ⟨rc', as', _, rfl, RC'.up (ov_same sv s), by simp, h6, h7, tab.ext s, fun h0 G e xG tG he => ?_, fun d vd ld _ sd G t v xG tG ht hd => ?_⟩
    · rw [h8] at h0
      refine ⟨false, .inr (.inl ⟨[], SqT.of he, rfl⟩), q G _ ((ExtN.of s).trans xG) tG (fun _ d vd h1 => ?_) (fun z => nomatch z)⟩
      have : (lastP gs1 d && !lastP gs2 d) = false := h0 d vd
      rw [h1] at this
      simpa using this
    · rw [h8] at ld
      simp only [Bool.and_eq_true, Bool.not_eq_true'] at ld
      exact ⟨true, .inr (.inl ⟨[v], SqT.of ht, rfl⟩), q G _ ((ExtN.of s).trans xG) tG (fun z => nomatch z) (fun _ => ⟨d, vd, ld.1, ld.2⟩)⟩
end
end TX
namespace TX
open PySem PySem.Spec PyProof.Rows L2 LamX
/-! ### shapes that are built of shapes -/
/-- a shape of which the values, and bounds of its size, are known -/
def Sv (K : PySem.W.Frag) (C : Addr) (W : Hp) (x : Addr) (p : PyData → Bool) (n k : Nat) : Prop := ∃ gs, ShAt K W C x gs ∧ gs ≠ [] ∧ gs.length ≤ n ∧ asksN gs ≤ k ∧ lastP gs = p
theorem Sv.up {K : PySem.W.Frag} {C : Addr} {W W' : Hp} {x : Addr} {p : PyData → Bool} {n k : Nat} (h : Sv K C W x p n k) (s : Same W W') : Sv K C W' x p n k := by
  obtain ⟨gs, a, b⟩ := h
  exact ⟨gs, a.up s, b⟩
theorem sh_ins {K : PySem.W.Frag} {C : Addr} {W : Hp} {x : Addr} {gs : List Sg} (h : ShAt K W C x gs) : ∃ dx fs, W x = some (.ins C dx fs) := by
  obtain ⟨dx, rc, pl, aW, aA, aR, aL, as, ak, ws, ar, lv, hx0, _⟩ := h
  exact ⟨dx, _, hx0⟩
def Ev (K : PySem.W.Frag) (C : Addr) (te : TE) (σ : L2.St) (H0 : Hp) (p : PyData → Bool) (n k : Nat) : Prop := ∀ (G : Hp) (Q : VK), Same H0 G → (∀ (G' : Hp) (x : Addr), Same G G' → Sv K C G' x p n k → Q (.ref x) G') → te σ G Q
/-- two shapes that have the same values -/
def Eq2 (K : PySem.W.Frag) (C : Addr) (G : Hp) (v : V) : Prop := ∃ (t x y : Addr) (p q : PyData → Bool) (n k m j : Nat), v = .ref t ∧ G t = some (.tup [.ref x, .ref y]) ∧ Sv K C G x p n k ∧ Sv K C G y q m j ∧ (∀ d, valD d → p d = q d) ∧ n ≤ 100 ∧ m ≤ 100 ∧ k + j ≤ 3
theorem Eq2.up {K : PySem.W.Frag} {C : Addr} {G G' : Hp} {v : V} (h : Eq2 K C G v) (s : Same G G') : Eq2 K C G' v := by
  obtain ⟨t, x, y, p, q, n, k, m, j, e, a, b, c, d⟩ := h
  exact ⟨t, x, y, p, q, n, k, m, j, e, s _ _ a, b.up s, c.up s, d⟩
def EvA (K : PySem.W.Frag) (C : Addr) (ta : TA) (σ : L2.St) (H0 : Hp) (l : Nat) : Prop := ∀ (G : Hp) (Q : List V → Hp → Prop), Same H0 G → (∀ (G' : Hp) (vs : List V), Same G G' → vs.length = l → (∀ v ∈ vs, Eq2 K C G' v) → Q vs G') → ta σ G Q
section
variable {K : PySem.W.Frag} {C : Addr} {H0 : Hp} {σ : L2.St} {p q : PyData → Bool} {n k m j : Nat}
theorem ev_var {i : Nat} {x : Addr} (e : σ[i]? = some (some (.ref x))) (h : Sv K C H0 x p n k) : Ev K C (tVar i) σ H0 p n k := fun G Q s q => ⟨_, e, q G x (Same.refl _) (h.up s)⟩
theorem ev_bin {op : Bool → Bool → Bool} {ta tb : TE} (ha : Ev K C ta σ H0 p n k) (hb : Ev K C tb σ H0 q m j) (h1 : n ≤ 100) (h2 : m ≤ 100) (h3 : k + j ≤ 8) : Ev K C (tOp (rOwn2 C (spBin K C op) E0) ta tb) σ H0 (fun d => op (p d) (q d)) (n + m + 1) (k + j) := fun G Q s q0 => ha G _ s fun G1 x s1 vx => hb G1 _ (s.trans s1) fun G2 y s2 vy => by
  obtain ⟨gs1, sh1, ne1, l1, k1, rfl⟩ := vx.up s2
  obtain ⟨gs2, sh2, ne2, l2, k2, rfl⟩ := vy
  obtain ⟨dx, fs, ex⟩ := sh_ins sh1
  obtain ⟨dy, fs2, ey⟩ := sh_ins sh2
  exact ⟨x, y, dx, dy, _, _, rfl, rfl, ex, ey, x, y, gs1, gs2, G2, rfl, Same.refl _, sh1, sh2, ne1, ne2, by omega, by omega, by omega, fun H' z gs s nz sh ne hk hl hp => q0 H' z (s1.trans (s2.trans s)) ⟨gs, sh.up (ov_same (Same.refl _) s), ne, by omega, by omega, hp⟩⟩
theorem last_out (gs : List Sg) : lastP (gs ++ [.outside (gs.length - 1)]) = fun d => !lastP gs d := lastP_snoc _ _
theorem asks_out (gs : List Sg) : asksN (gs ++ [.outside (gs.length - 1)]) = asksN gs := by
  rw [asksN_snoc]
  rfl
theorem ev_inv {ta : TE} (ha : Ev K C ta σ H0 p n k) (h1 : n ≤ 100) (h3 : k ≤ 8) : Ev K C (tUn (fun x H Q => ∃ p dx fs, x = .ref p ∧ H p = some (.ins C dx fs) ∧ spInv K C [.ref p] H Q E0) ta) σ H0 (fun d => !p d) (n + 1) k := fun G Q s q0 => ha G _ s fun G1 x s1 vx => by
  obtain ⟨gs1, sh1, ne1, l1, k1, rfl⟩ := vx
  obtain ⟨dx, fs, ex⟩ := sh_ins sh1
  refine ⟨x, dx, _, rfl, ex, x, gs1, G1, rfl, Same.refl _, sh1, ne1, by omega, by omega, fun H' z s nz sh => q0 H' z (s1.trans s) ⟨_, sh.up (ov_same (Same.refl _) s), by simp, by simp only [List.length_append, List.length_cons, List.length_nil]; omega, by rw [asks_out]; exact k1, last_out gs1⟩⟩
theorem ev_new {sp : Sp} {te : TE} {t : TA} {gs : List Sg} (h : ∀ G Q, Same H0 G → NewS K C G G gs Q → ClX.tCMeth C sp E0 te t σ G Q) (ne : gs ≠ []) : Ev K C (ClX.tCMeth C sp E0 te t) σ H0 (lastP gs) gs.length (asksN gs) := fun G Q s q0 => h G Q s fun H' x s nx sh => q0 H' x s ⟨gs, sh.up (ov_same (Same.refl _) s), ne, Nat.le_refl _, Nat.le_refl _, rfl⟩
theorem ev_one {g : Sg} : Ev K C (ClX.tCMeth C (spOne K C g) E0 (tC (.ref C)) tNil) σ H0 (g.pred []) 1 (asksN [g]) := by
  have := ev_new (K := K) (C := C) (H0 := H0) (σ := σ) (sp := spOne K C g) (te := tC (.ref C)) (t := tNil) (gs := [g]) (fun G Q s nw => ⟨rfl, G, rfl, Same.refl _, nw⟩) (by simp)
  rwa [show lastP [g] = g.pred [] from lastP_snoc [] g] at this
theorem ev_tx0 : Ev K C (ClX.tCMeth C (fun vs H Q E => spTexts K C (vs ++ [.int ((0 : Nat) : Int), hiV none]) H Q E) E0 (tC (.ref C)) tNil) σ H0 (textP 0 none) 1 0 := by
  have := ev_new (K := K) (C := C) (H0 := H0) (σ := σ) (sp := fun vs H Q E => spTexts K C (vs ++ [.int ((0 : Nat) : Int), hiV none]) H Q E) (te := tC (.ref C)) (t := tNil) (gs := [.texts 0 none]) (fun G Q s nw => ⟨rfl, 0, none, G, rfl, Same.refl _, by decide, fun _ z => (nomatch z), nw⟩) (by simp)
  exact this
theorem ev_tx1 {lo : Nat} (h : lo ≤ 3) : Ev K C (ClX.tCMeth C (fun vs H Q E => spTexts K C (vs ++ [hiV none]) H Q E) E0 (tC (.ref C)) (tCons (tC (.int (lo : Nat))) tNil)) σ H0 (textP lo none) 1 0 := by
  have := ev_new (K := K) (C := C) (H0 := H0) (σ := σ) (sp := fun vs H Q E => spTexts K C (vs ++ [hiV none]) H Q E) (te := tC (.ref C)) (t := tCons (tC (.int (lo : Nat))) tNil) (gs := [.texts lo none]) (fun G Q s nw => ⟨rfl, lo, none, G, rfl, Same.refl _, h, fun _ z => (nomatch z), nw⟩) (by simp)
  exact this
theorem ev_tx2 {lo hi : Nat} (h : lo ≤ 3) (h2 : hi ≤ 3) : Ev K C (ClX.tCMeth C (spTexts K C) E0 (tC (.ref C)) (tCons (tC (.int (lo : Nat))) (tCons (tC (.int (hi : Nat))) tNil))) σ H0 (textP lo (some hi)) 1 0 := by
  have := ev_new (K := K) (C := C) (H0 := H0) (σ := σ) (sp := spTexts K C) (te := tC (.ref C)) (t := tCons (tC (.int (lo : Nat))) (tCons (tC (.int (hi : Nat))) tNil)) (gs := [.texts lo (some hi)]) (fun G Q s nw => ⟨rfl, lo, some hi, G, rfl, Same.refl _, h, fun _ z => (Option.some.inj z) ▸ h2, nw⟩) (by simp)
  exact this
theorem last_lists (gs : List Sg) : lastP (gs ++ [.lists (gs.length - 1)]) = listsP (lastP gs) := lastP_snoc _ _
theorem last_nested (gs : List Sg) : lastP (gs ++ [.nested (gs.length - 1)]) = nestP (lastP gs) := lastP_snoc _ _
theorem asks_lists (gs : List Sg) : asksN (gs ++ [.lists (gs.length - 1)]) = asksN gs + 1 := by
  rw [asksN_snoc]
  rfl
theorem asks_nested (gs : List Sg) : asksN (gs ++ [.nested (gs.length - 1)]) = asksN gs + 1 := by
  rw [asksN_snoc]
  rfl
theorem ev_lists {ta : TE} (ha : Ev K C ta σ H0 p n k) (h1 : n ≤ 100) (h3 : k ≤ 7) : Ev K C (ClX.tCMeth C (spOver K C Sg.lists) E0 (tC (.ref C)) (tCons ta tNil)) σ H0 (listsP p) (n + 1) (k + 1) := fun G Q s q0 => ⟨rfl, ha G _ s fun G1 x s1 vx => by
  obtain ⟨gs1, sh1, ne1, l1, k1, rfl⟩ := vx
  exact ⟨x, gs1, G1, rfl, Same.refl _, sh1, ne1, by omega, by omega, fun H' z s nz sh => q0 H' z (s1.trans s) ⟨_, sh.up (ov_same (Same.refl _) s), by simp, by simp only [List.length_append, List.length_cons, List.length_nil]; omega, by rw [asks_lists]; omega, last_lists gs1⟩⟩⟩
theorem ev_nested {ta : TE} (ha : Ev K C ta σ H0 p n k) (h1 : n ≤ 100) (h3 : k ≤ 7) : Ev K C (ClX.tCMeth C (spOver K C Sg.nested) E0 (tC (.ref C)) (tCons ta tNil)) σ H0 (nestP p) (n + 1) (k + 1) := fun G Q s q0 => ⟨rfl, ha G _ s fun G1 x s1 vx => by
  obtain ⟨gs1, sh1, ne1, l1, k1, rfl⟩ := vx
  exact ⟨x, gs1, G1, rfl, Same.refl _, sh1, ne1, by omega, by omega, fun H' z s nz sh => q0 H' z (s1.trans s) ⟨_, sh.up (ov_same (Same.refl _) s), by simp, by simp only [List.length_append, List.length_cons, List.length_nil]; omega, by rw [asks_nested]; omega, last_nested gs1⟩⟩⟩
theorem eva_nil : EvA K C tNil σ H0 0 := fun G Q s q => q G [] (Same.refl _) rfl fun v hv => nomatch hv
theorem eva_cons {t1 t2 : TE} {ta : TA} {l : Nat} (h1 : Ev K C t1 σ H0 p n k) (h2 : Ev K C t2 σ H0 q m j) (he : ∀ d, valD d → p d = q d) (hn : n ≤ 100) (hm : m ≤ 100) (hk : k + j ≤ 3) (hr : EvA K C ta σ H0 l) : EvA K C (tCons (tTup (tCons t1 (tCons t2 tNil))) ta) σ H0 (l + 1) := fun G Q s q0 => h1 G _ s fun G1 x s1 vx => h2 G1 _ (s.trans s1) fun G2 y s2 vy => ⟨(by show 2 ≤ sizeLine; decide), fun t nt => by
  have s3 := same_upd (o := .tup [.ref x, .ref y]) nt
  refine hr _ _ (s.trans (s1.trans (s2.trans s3))) fun G4 vs s4 hl hv => q0 G4 (.ref t :: vs) (s1.trans (s2.trans (s3.trans s4))) (by rw [List.length_cons, hl]) fun v z => ?_
  rcases List.mem_cons.mp z with rfl | z
  · exact ⟨t, x, y, p, q, n, k, m, j, rfl, s4 _ _ upd_same, vx.up (s2.trans (s3.trans s4)), vy.up (s3.trans s4), he, hn, hm, hk⟩
  · exact hv v z⟩
end
end TX
namespace TX
open PySem PySem.Spec PyProof.Rows L2 LamX
/-! ### the pairs of shapes that have the same values -/
theorem all_and (p q : PyData → Bool) : ∀ es : List PyData, es.all (fun d => p d && q d) = (es.all p && es.all q)
  | [] => rfl
  | e :: es => by
    simp only [List.all_cons, all_and p q es]
    cases p e <;> cases q e <;> cases es.all p <;> cases es.all q <;> rfl
theorem lists_and (p q : PyData → Bool) (d : PyData) : listsP (fun d => p d && q d) d = (listsP p d && listsP q d) := by
  cases d with
  | list es => exact all_and p q es
  | _ => rfl
theorem less_self (p : PyData → Bool) : (fun d => (fun a b => a && !b) (p d) (p d)) = Sg.never.pred [] := by
  funext d
  show (p d && !p d) = false
  cases p d <;> rfl
theorem nest_all (p : PyData → Bool) : ∀ es : List PyData, nestAll p es = es.all (nestP p)
  | [] => rfl
  | e :: es => by
    simp only [nestAll, List.all_cons, nest_all p es]
theorem nest_eq (p : PyData → Bool) (d : PyData) : nestP p d = (p d || listsP (nestP p) d) := by
  cases d with
  | list es =>
    simp only [nestP, listsP, nest_all]
  | _ => simp [nestP, listsP]
mutual
theorem nest_nest (p : PyData → Bool) : ∀ d : PyData, nestP (nestP p) d = nestP p d
  | .none => rfl
  | .str _ => rfl
  | .bool _ => rfl
  | .int _ => rfl
  | .tuple _ => rfl
  | .dict _ => rfl
  | .list es => by
    have h := nest_nests p es
    simp only [nestP]
    rw [h]
    cases p (.list es) <;> cases nestAll p es <;> rfl
theorem nest_nests (p : PyData → Bool) : ∀ es : List PyData, nestAll (nestP p) es = nestAll p es
  | [] => rfl
  | e :: es => by
    simp only [nestAll]
    rw [nest_nest p e, nest_nests p es]
end
theorem all_kinds : ∀ d, valD d → ((textP 0 none d || listsP (Sg.every.pred []) d) || Sg.nothing.pred [] d) = Sg.every.pred [] d := by
  intro d v
  cases d with
  | none => rfl
  | str z => simp [textP, Sg.pred]
  | list es => simp [listsP, Sg.pred, textP]
  | _ => exact v.elim
theorem no_both : ∀ d, valD d → (textP 0 none d && listsP (Sg.every.pred []) d) = Sg.never.pred [] d := by
  intro d v
  cases d with
  | none => rfl
  | str z => simp [textP, Sg.pred, listsP]
  | list es => simp [listsP, Sg.pred, textP]
  | _ => exact v.elim
theorem not_text : ∀ d, valD d → ((!textP 0 none d) && !Sg.nothing.pred [] d) = listsP (Sg.every.pred []) d := by
  intro d v
  cases d with
  | none => rfl
  | str z => simp [textP, Sg.pred, listsP]
  | list es => simp [listsP, Sg.pred, textP, noneP]
  | _ => exact v.elim
mutual
theorem all_nested : ∀ d, valD d → nestP (fun d => textP 0 none d || Sg.nothing.pred [] d) d = Sg.every.pred [] d
  | .none, _ => rfl
  | .str z, _ => by simp [nestP, textP, Sg.pred]
  | .list es, v => by
    simp only [nestP]
    rw [all_nesteds es v]
    simp [Sg.pred]
  | .bool _, v => v.elim
  | .int _, v => v.elim
  | .tuple _, v => v.elim
  | .dict _, v => v.elim
theorem all_nesteds : ∀ es, valAll es → nestAll (fun d => textP 0 none d || Sg.nothing.pred [] d) es = true
  | [], _ => rfl
  | e :: es, v => by
    simp only [nestAll]
    rw [all_nested e v.1, all_nesteds es v.2]
    rfl
end
theorem tx_some (lo hi : Nat) (z : Str) : textP lo (some hi) (.str z) = true ↔ lo ≤ z.length ∧ z.length ≤ hi := by
  show (decide (lo ≤ z.length) && decide (z.length ≤ hi)) = true ↔ _
  rw [Bool.and_eq_true, decide_eq_true_iff, decide_eq_true_iff]
theorem tx_no (lo : Nat) (z : Str) : textP lo none (.str z) = true ↔ lo ≤ z.length := by
  show (decide (lo ≤ z.length) && true) = true ↔ _
  rw [Bool.and_true, decide_eq_true_iff]
theorem tx_or : ∀ d, valD d → (textP 1 (some 3) d || textP 0 (some 0) d) = textP 0 (some 3) d := by
  intro d v
  cases d with
  | str z =>
    rw [Bool.eq_iff_iff, Bool.or_eq_true, tx_some, tx_some, tx_some]
    omega
  | _ => rfl
theorem tx_never : ∀ d, valD d → textP 3 (some 1) d = Sg.never.pred [] d := by
  intro d v
  cases d with
  | str z =>
    rw [Bool.eq_iff_iff, tx_some]
    constructor
    · intro z
      omega
    · intro z
      cases z
  | _ => rfl
theorem tx_and : ∀ d, valD d → (textP 2 none d && textP 0 (some 2) d) = textP 2 (some 2) d := by
  intro d v
  cases d with
  | str z =>
    rw [Bool.eq_iff_iff, Bool.and_eq_true, tx_some, tx_some, tx_no]
    omega
  | _ => rfl
def PairsQ (K : PySem.W.Frag) (C : Addr) (H : Hp) (n : Nat) (Q : VK) : Prop := ∀ (G : Hp) (l : Addr) (ts : List V), Same H G → G l = some (.lst ts) → ts.length = n → (∀ v ∈ ts, Eq2 K C G v) → Q (.ref l) G
def spPlain (K : PySem.W.Frag) (C : Addr) : Sp := fun vs H Q _ => ∃ (a b c d : Addr) (pa pb pc pd : PyData → Bool), vs = [.ref a, .ref b, .ref c, .ref d] ∧ Sv K C H a pa 3 0 ∧ Sv K C H b pb 3 0 ∧ Sv K C H c pc 3 0 ∧ Sv K C H d pd 7 1 ∧ PairsQ K C H 15 Q
def spNest (K : PySem.W.Frag) (C : Addr) : Sp := fun vs H Q _ => ∃ (a b : Addr) (pa pb : PyData → Bool), vs = [.ref a, .ref b] ∧ Sv K C H a pa 3 0 ∧ Sv K C H b pb 3 0 ∧ PairsQ K C H 13 Q
section
variable {P : Program} {w : World} {K : PySem.W.Frag} {mg : Str → Option Value} {base : Heap} {C : Addr}
theorem scPlain : FnScope ["_law_a", "_law_b", "_law_c", "_law_d", "_law_every", "_law_never"] ["_law_a", "_law_b", "_law_c", "_law_d"] (defScope s__law_plain) := ⟨rfl, rfl, rfl, by decide +kernel, rfl, by decide +kernel, by decide +kernel⟩
theorem ok_plain {f : Addr} {fd : FuncData} {mc : Value} {fT fL f1 f2 p1 p2 i1 i2 i3 i4 : Addr} {dT dL e1 e2 e3 e4 : FuncData} {fT' g1 g2 g3 g4 q1 q2 q3 q4 : Addr} {dT' : FuncData} (F : Fun K "_law_plain" "_law_plain" s__law_plain f fd) (T : Ek K mg C) (L : Lh P w K mg base C mc fT fL f1 f2 p1 p2 i1 i2 i3 i4 dT dL e1 e2 e3 e4) (M : Lf P w K mg base C mc fT' g1 g2 g3 g4 q1 q2 q3 q4 dT') : FnOk P w K mg base CX0 7 f fd ["_law_a", "_law_b", "_law_c", "_law_d"] (spPlain K C) := by
  refine F.ok scPlain (fun vs H Q E h => ?_) (fun cdv A outer s H vs Q E hr h => ?_)
  · obtain ⟨a, b, c, d, pa, pb, pc, pd, rfl, _⟩ := h
    rfl
  · obtain ⟨a, b, c, d, pa, pb, pc, pd, rfl, Sa, Sb, Sc, Sd, q⟩ := h
    have r6 : Room 6 _ := hr
    refine ⟨_, pss_cons (ps_par (i := 4) (j := 5) rfl scPlain.nd rfl rfl (by decide) rfl rfl (pa_cons (pe_cmeth0 (E := E0) (pe_glob (v := .ref C) (by rfl) T.mgC rfl) L.r M.c1 M.G1 r6 pass0) (pa_cons (pe_cmeth0 (E := E0) (pe_glob (v := .ref C) (by rfl) T.mgC rfl) L.r M.c2 M.G2 r6 pass0) pa_nil)) (by rfl)) <|
      pss_one (ps_ret (pe_lst (pa_cons (pe_tup (pa_cons (pe_op (op_own2 (E := E0) (nm := "__or__") rfl L.m2 L.sf L.I2 r6 L.d2 pass0) (pv 0) (pv 1)) (pa_cons (pe_op (op_own2 (E := E0) (nm := "__or__") rfl L.m2 L.sf L.I2 r6 L.d2 pass0) (pv 1) (pv 0)) pa_nil))) (pa_cons (pe_tup (pa_cons (pe_op (op_own2 (E := E0) (nm := "__and__") rfl L.m3 L.sf L.I3 r6 L.d3 pass0) (pv 0) (pv 1)) (pa_cons (pe_op (op_own2 (E := E0) (nm := "__and__") rfl L.m3 L.sf L.I3 r6 L.d3 pass0) (pv 1) (pv 0)) pa_nil))) (pa_cons (pe_tup (pa_cons (pe_op (op_own2 (E := E0) (nm := "__sub__") rfl L.m4 L.sf L.I4 r6 L.d4 pass0) (pv 0) (pv 1)) (pa_cons (pe_op (op_own2 (E := E0) (nm := "__and__") rfl L.m3 L.sf L.I3 r6 L.d3 pass0) (pv 0) (pe_un (un_inv_own (E := E0) L.m1 L.I1 r6 L.d1 pass0) (pv 1))) pa_nil))) (pa_cons (pe_tup (pa_cons (pe_un (un_inv_own (E := E0) L.m1 L.I1 r6 L.d1 pass0) (pe_op (op_own2 (E := E0) (nm := "__or__") rfl L.m2 L.sf L.I2 r6 L.d2 pass0) (pv 0) (pv 1))) (pa_cons (pe_op (op_own2 (E := E0) (nm := "__and__") rfl L.m3 L.sf L.I3 r6 L.d3 pass0) (pe_un (un_inv_own (E := E0) L.m1 L.I1 r6 L.d1 pass0) (pv 0)) (pe_un (un_inv_own (E := E0) L.m1 L.I1 r6 L.d1 pass0) (pv 1))) pa_nil))) (pa_cons (pe_tup (pa_cons (pe_un (un_inv_own (E := E0) L.m1 L.I1 r6 L.d1 pass0) (pe_un (un_inv_own (E := E0) L.m1 L.I1 r6 L.d1 pass0) (pv 3))) (pa_cons (pv 3) pa_nil))) (pa_cons (pe_tup (pa_cons (pe_op (op_own2 (E := E0) (nm := "__and__") rfl L.m3 L.sf L.I3 r6 L.d3 pass0) (pv 0) (pe_op (op_own2 (E := E0) (nm := "__or__") rfl L.m2 L.sf L.I2 r6 L.d2 pass0) (pv 0) (pv 1))) (pa_cons (pv 0) pa_nil))) (pa_cons (pe_tup (pa_cons (pe_op (op_own2 (E := E0) (nm := "__or__") rfl L.m2 L.sf L.I2 r6 L.d2 pass0) (pv 0) (pe_op (op_own2 (E := E0) (nm := "__and__") rfl L.m3 L.sf L.I3 r6 L.d3 pass0) (pv 1) (pv 2))) (pa_cons (pe_op (op_own2 (E := E0) (nm := "__and__") rfl L.m3 L.sf L.I3 r6 L.d3 pass0) (pe_op (op_own2 (E := E0) (nm := "__or__") rfl L.m2 L.sf L.I2 r6 L.d2 pass0) (pv 0) (pv 1)) (pe_op (op_own2 (E := E0) (nm := "__or__") rfl L.m2 L.sf L.I2 r6 L.d2 pass0) (pv 0) (pv 2))) pa_nil))) (pa_cons (pe_tup (pa_cons (pe_op (op_own2 (E := E0) (nm := "__sub__") rfl L.m4 L.sf L.I4 r6 L.d4 pass0) (pv 0) (pe_op (op_own2 (E := E0) (nm := "__or__") rfl L.m2 L.sf L.I2 r6 L.d2 pass0) (pv 1) (pv 2))) (pa_cons (pe_op (op_own2 (E := E0) (nm := "__sub__") rfl L.m4 L.sf L.I4 r6 L.d4 pass0) (pe_op (op_own2 (E := E0) (nm := "__sub__") rfl L.m4 L.sf L.I4 r6 L.d4 pass0) (pv 0) (pv 1)) (pv 2)) pa_nil))) (pa_cons (pe_tup (pa_cons (pe_op (op_own2 (E := E0) (nm := "__sub__") rfl L.m4 L.sf L.I4 r6 L.d4 pass0) (pv 3) (pv 3)) (pa_cons (pv 5) pa_nil))) (pa_cons (pe_tup (pa_cons (pe_op (op_own2 (E := E0) (nm := "__or__") rfl L.m2 L.sf L.I2 r6 L.d2 pass0) (pv 3) (pe_un (un_inv_own (E := E0) L.m1 L.I1 r6 L.d1 pass0) (pv 3))) (pa_cons (pv 4) pa_nil))) (pa_cons (pe_tup (pa_cons (pe_op (op_own2 (E := E0) (nm := "__and__") rfl L.m3 L.sf L.I3 r6 L.d3 pass0) (pv 3) (pv 4)) (pa_cons (pv 3) pa_nil))) (pa_cons (pe_tup (pa_cons (pv 3) (pa_cons (pe_op (op_own2 (E := E0) (nm := "__or__") rfl L.m2 L.sf L.I2 r6 L.d2 pass0) (pv 3) (pv 5)) pa_nil))) (pa_cons (pe_tup (pa_cons (pe_un (un_inv_own (E := E0) L.m1 L.I1 r6 L.d1 pass0) (pv 4)) (pa_cons (pv 5) pa_nil))) (pa_cons (pe_tup (pa_cons (pe_op (op_own2 (E := E0) (nm := "__or__") rfl L.m2 L.sf L.I2 r6 L.d2 pass0) (pv 0) (pv 0)) (pa_cons (pv 0) pa_nil))) (pa_cons (pe_tup (pa_cons (pe_op (op_own2 (E := E0) (nm := "__sub__") rfl L.m4 L.sf L.I4 r6 L.d4 pass0) (pv 4) (pe_op (op_own2 (E := E0) (nm := "__sub__") rfl L.m4 L.sf L.I4 r6 L.d4 pass0) (pv 4) (pv 3))) (pa_cons (pv 3) pa_nil))) pa_nil))))))))))))))))), ?_⟩
    refine ev_one (g := .every) (K := K) (C := C) H _ (Same.refl _) fun G1 x1 s1 Se => ?_
    refine ev_one (g := .never) (K := K) (C := C) G1 _ (Same.refl _) fun G2 x2 s2 Sn => ?_
    replace Sa := Sa.up (s1.trans s2)
    replace Sb := Sb.up (s1.trans s2)
    replace Sc := Sc.up (s1.trans s2)
    replace Sd := Sd.up (s1.trans s2)
    replace Se := Se.up s2
    have s12 := s1.trans s2
    refine ⟨_, _, rfl, ?_⟩
    have W : EvA K C _ [some (.ref a), some (.ref b), some (.ref c), some (.ref d), some (.ref x1), some (.ref x2)] G2 15 := (eva_cons (ev_bin (op := fun a b => a || b) (ev_var (i := 0) rfl Sa) (ev_var (i := 1) rfl Sb) (by decide) (by decide) (by decide)) (ev_bin (op := fun a b => a || b) (ev_var (i := 1) rfl Sb) (ev_var (i := 0) rfl Sa) (by decide) (by decide) (by decide)) (fun z _ => by first | (dsimp only [Sg.pred]; cases pa z <;> cases pb z <;> cases pc z <;> cases pd z <;> rfl) | (cases pa z <;> cases pb z <;> cases pc z <;> cases pd z <;> rfl)) (by decide) (by decide) (by decide)
      (eva_cons (ev_bin (op := fun a b => a && b) (ev_var (i := 0) rfl Sa) (ev_var (i := 1) rfl Sb) (by decide) (by decide) (by decide)) (ev_bin (op := fun a b => a && b) (ev_var (i := 1) rfl Sb) (ev_var (i := 0) rfl Sa) (by decide) (by decide) (by decide)) (fun z _ => by first | (dsimp only [Sg.pred]; cases pa z <;> cases pb z <;> cases pc z <;> cases pd z <;> rfl) | (cases pa z <;> cases pb z <;> cases pc z <;> cases pd z <;> rfl)) (by decide) (by decide) (by decide)
      (eva_cons (ev_bin (op := fun a b => a && !b) (ev_var (i := 0) rfl Sa) (ev_var (i := 1) rfl Sb) (by decide) (by decide) (by decide)) (ev_bin (op := fun a b => a && b) (ev_var (i := 0) rfl Sa) (ev_inv (ev_var (i := 1) rfl Sb) (by decide) (by decide)) (by decide) (by decide) (by decide)) (fun z _ => by first | (dsimp only [Sg.pred]; cases pa z <;> cases pb z <;> cases pc z <;> cases pd z <;> rfl) | (cases pa z <;> cases pb z <;> cases pc z <;> cases pd z <;> rfl)) (by decide) (by decide) (by decide)
      (eva_cons (ev_inv (ev_bin (op := fun a b => a || b) (ev_var (i := 0) rfl Sa) (ev_var (i := 1) rfl Sb) (by decide) (by decide) (by decide)) (by decide) (by decide)) (ev_bin (op := fun a b => a && b) (ev_inv (ev_var (i := 0) rfl Sa) (by decide) (by decide)) (ev_inv (ev_var (i := 1) rfl Sb) (by decide) (by decide)) (by decide) (by decide) (by decide)) (fun z _ => by first | (dsimp only [Sg.pred]; cases pa z <;> cases pb z <;> cases pc z <;> cases pd z <;> rfl) | (cases pa z <;> cases pb z <;> cases pc z <;> cases pd z <;> rfl)) (by decide) (by decide) (by decide)
      (eva_cons (ev_inv (ev_inv (ev_var (i := 3) rfl Sd) (by decide) (by decide)) (by decide) (by decide)) (ev_var (i := 3) rfl Sd) (fun z _ => by first | (dsimp only [Sg.pred]; cases pa z <;> cases pb z <;> cases pc z <;> cases pd z <;> rfl) | (cases pa z <;> cases pb z <;> cases pc z <;> cases pd z <;> rfl)) (by decide) (by decide) (by decide)
      (eva_cons (ev_bin (op := fun a b => a && b) (ev_var (i := 0) rfl Sa) (ev_bin (op := fun a b => a || b) (ev_var (i := 0) rfl Sa) (ev_var (i := 1) rfl Sb) (by decide) (by decide) (by decide)) (by decide) (by decide) (by decide)) (ev_var (i := 0) rfl Sa) (fun z _ => by first | (dsimp only [Sg.pred]; cases pa z <;> cases pb z <;> cases pc z <;> cases pd z <;> rfl) | (cases pa z <;> cases pb z <;> cases pc z <;> cases pd z <;> rfl)) (by decide) (by decide) (by decide)
      (eva_cons (ev_bin (op := fun a b => a || b) (ev_var (i := 0) rfl Sa) (ev_bin (op := fun a b => a && b) (ev_var (i := 1) rfl Sb) (ev_var (i := 2) rfl Sc) (by decide) (by decide) (by decide)) (by decide) (by decide) (by decide)) (ev_bin (op := fun a b => a && b) (ev_bin (op := fun a b => a || b) (ev_var (i := 0) rfl Sa) (ev_var (i := 1) rfl Sb) (by decide) (by decide) (by decide)) (ev_bin (op := fun a b => a || b) (ev_var (i := 0) rfl Sa) (ev_var (i := 2) rfl Sc) (by decide) (by decide) (by decide)) (by decide) (by decide) (by decide)) (fun z _ => by first | (dsimp only [Sg.pred]; cases pa z <;> cases pb z <;> cases pc z <;> cases pd z <;> rfl) | (cases pa z <;> cases pb z <;> cases pc z <;> cases pd z <;> rfl)) (by decide) (by decide) (by decide)
      (eva_cons (ev_bin (op := fun a b => a && !b) (ev_var (i := 0) rfl Sa) (ev_bin (op := fun a b => a || b) (ev_var (i := 1) rfl Sb) (ev_var (i := 2) rfl Sc) (by decide) (by decide) (by decide)) (by decide) (by decide) (by decide)) (ev_bin (op := fun a b => a && !b) (ev_bin (op := fun a b => a && !b) (ev_var (i := 0) rfl Sa) (ev_var (i := 1) rfl Sb) (by decide) (by decide) (by decide)) (ev_var (i := 2) rfl Sc) (by decide) (by decide) (by decide)) (fun z _ => by first | (dsimp only [Sg.pred]; cases pa z <;> cases pb z <;> cases pc z <;> cases pd z <;> rfl) | (cases pa z <;> cases pb z <;> cases pc z <;> cases pd z <;> rfl)) (by decide) (by decide) (by decide)
      (eva_cons (ev_bin (op := fun a b => a && !b) (ev_var (i := 3) rfl Sd) (ev_var (i := 3) rfl Sd) (by decide) (by decide) (by decide)) (ev_var (i := 5) rfl Sn) (fun z _ => by first | (dsimp only [Sg.pred]; cases pa z <;> cases pb z <;> cases pc z <;> cases pd z <;> rfl) | (cases pa z <;> cases pb z <;> cases pc z <;> cases pd z <;> rfl)) (by decide) (by decide) (by decide)
      (eva_cons (ev_bin (op := fun a b => a || b) (ev_var (i := 3) rfl Sd) (ev_inv (ev_var (i := 3) rfl Sd) (by decide) (by decide)) (by decide) (by decide) (by decide)) (ev_var (i := 4) rfl Se) (fun z _ => by first | (dsimp only [Sg.pred]; cases pa z <;> cases pb z <;> cases pc z <;> cases pd z <;> rfl) | (cases pa z <;> cases pb z <;> cases pc z <;> cases pd z <;> rfl)) (by decide) (by decide) (by decide)
      (eva_cons (ev_bin (op := fun a b => a && b) (ev_var (i := 3) rfl Sd) (ev_var (i := 4) rfl Se) (by decide) (by decide) (by decide)) (ev_var (i := 3) rfl Sd) (fun z _ => by first | (dsimp only [Sg.pred]; cases pa z <;> cases pb z <;> cases pc z <;> cases pd z <;> rfl) | (cases pa z <;> cases pb z <;> cases pc z <;> cases pd z <;> rfl)) (by decide) (by decide) (by decide)
      (eva_cons (ev_var (i := 3) rfl Sd) (ev_bin (op := fun a b => a || b) (ev_var (i := 3) rfl Sd) (ev_var (i := 5) rfl Sn) (by decide) (by decide) (by decide)) (fun z _ => by first | (dsimp only [Sg.pred]; cases pa z <;> cases pb z <;> cases pc z <;> cases pd z <;> rfl) | (cases pa z <;> cases pb z <;> cases pc z <;> cases pd z <;> rfl)) (by decide) (by decide) (by decide)
      (eva_cons (ev_inv (ev_var (i := 4) rfl Se) (by decide) (by decide)) (ev_var (i := 5) rfl Sn) (fun z _ => by first | (dsimp only [Sg.pred]; cases pa z <;> cases pb z <;> cases pc z <;> cases pd z <;> rfl) | (cases pa z <;> cases pb z <;> cases pc z <;> cases pd z <;> rfl)) (by decide) (by decide) (by decide)
      (eva_cons (ev_bin (op := fun a b => a || b) (ev_var (i := 0) rfl Sa) (ev_var (i := 0) rfl Sa) (by decide) (by decide) (by decide)) (ev_var (i := 0) rfl Sa) (fun z _ => by first | (dsimp only [Sg.pred]; cases pa z <;> cases pb z <;> cases pc z <;> cases pd z <;> rfl) | (cases pa z <;> cases pb z <;> cases pc z <;> cases pd z <;> rfl)) (by decide) (by decide) (by decide)
      (eva_cons (ev_bin (op := fun a b => a && !b) (ev_var (i := 4) rfl Se) (ev_bin (op := fun a b => a && !b) (ev_var (i := 4) rfl Se) (ev_var (i := 3) rfl Sd) (by decide) (by decide) (by decide)) (by decide) (by decide) (by decide)) (ev_var (i := 3) rfl Sd) (fun z _ => by first | (dsimp only [Sg.pred]; cases pa z <;> cases pb z <;> cases pc z <;> cases pd z <;> rfl) | (cases pa z <;> cases pb z <;> cases pc z <;> cases pd z <;> rfl)) (by decide) (by decide) (by decide)
      eva_nil)))))))))))))))
    dsimp only [L2.tRet, L2.tLst]
    refine W G2 _ (Same.refl _) fun G3 vs s3 hl hv => ⟨by rw [hl]; decide, fun l nl => ?_⟩
    exact q _ l vs (s12.trans (s3.trans (same_upd nl))) upd_same hl fun v hv' => (hv v hv').up (same_upd nl)
theorem scNestS : FnScope ["_law_a", "_law_b", "_law_texts", "_law_lists", "_law_nothing"] ["_law_a", "_law_b"] (defScope s__law_nested) := ⟨rfl, rfl, rfl, by decide +kernel, rfl, by decide +kernel, by decide +kernel⟩
theorem ok_nest {f : Addr} {fd : FuncData} {mc : Value} {fT fL f1 f2 p1 p2 i1 i2 i3 i4 : Addr} {dT dL e1 e2 e3 e4 : FuncData} {fT' g1 g2 g3 g4 q1 q2 q3 q4 : Addr} {dT' : FuncData} (F : Fun K "_law_nested" "_law_nested" s__law_nested f fd) (T : Ek K mg C) (L : Lh P w K mg base C mc fT fL f1 f2 p1 p2 i1 i2 i3 i4 dT dL e1 e2 e3 e4) (M : Lf P w K mg base C mc fT' g1 g2 g3 g4 q1 q2 q3 q4 dT') : FnOk P w K mg base CX0 7 f fd ["_law_a", "_law_b"] (spNest K C) := by
  refine F.ok scNestS (fun vs H Q E h => ?_) (fun cdv A outer s H vs Q E hr h => ?_)
  · obtain ⟨a, b, pa, pb, rfl, _⟩ := h
    rfl
  · obtain ⟨a, b, pa, pb, rfl, Sa, Sb, q⟩ := h
    have r6 : Room 6 _ := hr
    refine ⟨_, pss_cons (ps_par3 (i := 2) (j := 3) (l := 4) rfl scNestS.nd rfl rfl rfl (by decide) (by decide) (by decide) rfl rfl rfl (pa_cons (pe_cmeth0 (E := E0) (pe_glob (v := .ref C) (by rfl) T.mgC rfl) L.r M.c4 M.G40 r6 pass0) (pa_cons (ClX.pe_cmeth (E := E0) (pe_glob (v := .ref C) (by rfl) T.mgC rfl) L.r L.c1 L.M1 r6 pass0 (pa_cons (pe_cmeth0 (E := E0) (pe_glob (v := .ref C) (by rfl) T.mgC rfl) L.r M.c1 M.G1 r6 pass0) pa_nil)) (pa_cons (pe_cmeth0 (E := E0) (pe_glob (v := .ref C) (by rfl) T.mgC rfl) L.r M.c3 M.G3 r6 pass0) pa_nil))) (by rfl)) <|
      pss_one (ps_ret (pe_lst (pa_cons (pe_tup (pa_cons (ClX.pe_cmeth (E := E0) (pe_glob (v := .ref C) (by rfl) T.mgC rfl) L.r L.c1 L.M1 r6 pass0 (pa_cons (pe_op (op_own2 (E := E0) (nm := "__and__") rfl L.m3 L.sf L.I3 r6 L.d3 pass0) (pv 0) (pv 1)) pa_nil)) (pa_cons (pe_op (op_own2 (E := E0) (nm := "__and__") rfl L.m3 L.sf L.I3 r6 L.d3 pass0) (ClX.pe_cmeth (E := E0) (pe_glob (v := .ref C) (by rfl) T.mgC rfl) L.r L.c1 L.M1 r6 pass0 (pa_cons (pv 0) pa_nil)) (ClX.pe_cmeth (E := E0) (pe_glob (v := .ref C) (by rfl) T.mgC rfl) L.r L.c1 L.M1 r6 pass0 (pa_cons (pv 1) pa_nil))) pa_nil))) (pa_cons (pe_tup (pa_cons (ClX.pe_cmeth (E := E0) (pe_glob (v := .ref C) (by rfl) T.mgC rfl) L.r L.c1 L.M1 r6 pass0 (pa_cons (pe_op (op_own2 (E := E0) (nm := "__sub__") rfl L.m4 L.sf L.I4 r6 L.d4 pass0) (pv 0) (pv 0)) pa_nil)) (pa_cons (ClX.pe_cmeth (E := E0) (pe_glob (v := .ref C) (by rfl) T.mgC rfl) L.r L.c1 L.M1 r6 pass0 (pa_cons (pe_cmeth0 (E := E0) (pe_glob (v := .ref C) (by rfl) T.mgC rfl) L.r M.c2 M.G2 r6 pass0) pa_nil)) pa_nil))) (pa_cons (pe_tup (pa_cons (ClX.pe_cmeth (E := E0) (pe_glob (v := .ref C) (by rfl) T.mgC rfl) L.r L.c2 L.M2 r6 pass0 (pa_cons (pv 0) pa_nil)) (pa_cons (pe_op (op_own2 (E := E0) (nm := "__or__") rfl L.m2 L.sf L.I2 r6 L.d2 pass0) (pv 0) (ClX.pe_cmeth (E := E0) (pe_glob (v := .ref C) (by rfl) T.mgC rfl) L.r L.c1 L.M1 r6 pass0 (pa_cons (ClX.pe_cmeth (E := E0) (pe_glob (v := .ref C) (by rfl) T.mgC rfl) L.r L.c2 L.M2 r6 pass0 (pa_cons (pv 0) pa_nil)) pa_nil))) pa_nil))) (pa_cons (pe_tup (pa_cons (ClX.pe_cmeth (E := E0) (pe_glob (v := .ref C) (by rfl) T.mgC rfl) L.r L.c2 L.M2 r6 pass0 (pa_cons (ClX.pe_cmeth (E := E0) (pe_glob (v := .ref C) (by rfl) T.mgC rfl) L.r L.c2 L.M2 r6 pass0 (pa_cons (pv 0) pa_nil)) pa_nil)) (pa_cons (ClX.pe_cmeth (E := E0) (pe_glob (v := .ref C) (by rfl) T.mgC rfl) L.r L.c2 L.M2 r6 pass0 (pa_cons (pv 0) pa_nil)) pa_nil))) (pa_cons (pe_tup (pa_cons (ClX.pe_cmeth (E := E0) (pe_glob (v := .ref C) (by rfl) T.mgC rfl) L.r L.c2 L.M2 r6 pass0 (pa_cons (pe_cmeth0 (E := E0) (pe_glob (v := .ref C) (by rfl) T.mgC rfl) L.r M.c2 M.G2 r6 pass0) pa_nil)) (pa_cons (ClX.pe_cmeth (E := E0) (pe_glob (v := .ref C) (by rfl) T.mgC rfl) L.r L.c2 L.M2 r6 pass0 (pa_cons (pe_op (op_own2 (E := E0) (nm := "__sub__") rfl L.m4 L.sf L.I4 r6 L.d4 pass0) (pv 0) (pv 0)) pa_nil)) pa_nil))) (pa_cons (pe_tup (pa_cons (pe_op (op_own2 (E := E0) (nm := "__or__") rfl L.m2 L.sf L.I2 r6 L.d2 pass0) (pe_op (op_own2 (E := E0) (nm := "__or__") rfl L.m2 L.sf L.I2 r6 L.d2 pass0) (pv 2) (pv 3)) (pv 4)) (pa_cons (pe_cmeth0 (E := E0) (pe_glob (v := .ref C) (by rfl) T.mgC rfl) L.r M.c1 M.G1 r6 pass0) pa_nil))) (pa_cons (pe_tup (pa_cons (pe_op (op_own2 (E := E0) (nm := "__and__") rfl L.m3 L.sf L.I3 r6 L.d3 pass0) (pv 2) (pv 3)) (pa_cons (pe_cmeth0 (E := E0) (pe_glob (v := .ref C) (by rfl) T.mgC rfl) L.r M.c2 M.G2 r6 pass0) pa_nil))) (pa_cons (pe_tup (pa_cons (pe_op (op_own2 (E := E0) (nm := "__sub__") rfl L.m4 L.sf L.I4 r6 L.d4 pass0) (pe_un (un_inv_own (E := E0) L.m1 L.I1 r6 L.d1 pass0) (pv 2)) (pv 4)) (pa_cons (pv 3) pa_nil))) (pa_cons (pe_tup (pa_cons (ClX.pe_cmeth (E := E0) (pe_glob (v := .ref C) (by rfl) T.mgC rfl) L.r L.c2 L.M2 r6 pass0 (pa_cons (pe_op (op_own2 (E := E0) (nm := "__or__") rfl L.m2 L.sf L.I2 r6 L.d2 pass0) (pv 2) (pv 4)) pa_nil)) (pa_cons (pe_cmeth0 (E := E0) (pe_glob (v := .ref C) (by rfl) T.mgC rfl) L.r M.c1 M.G1 r6 pass0) pa_nil))) (pa_cons (pe_tup (pa_cons (pe_op (op_own2 (E := E0) (nm := "__or__") rfl L.m2 L.sf L.I2 r6 L.d2 pass0) (ClX.pe_cmeth (E := E0) (pe_glob (v := .ref C) (by rfl) T.mgC rfl) L.r M.c4 M.G42 r6 pass0 (pa_cons pe_int (pa_cons pe_int pa_nil))) (ClX.pe_cmeth (E := E0) (pe_glob (v := .ref C) (by rfl) T.mgC rfl) L.r M.c4 M.G42 r6 pass0 (pa_cons pe_int (pa_cons pe_int pa_nil)))) (pa_cons (ClX.pe_cmeth (E := E0) (pe_glob (v := .ref C) (by rfl) T.mgC rfl) L.r M.c4 M.G42 r6 pass0 (pa_cons pe_int (pa_cons pe_int pa_nil))) pa_nil))) (pa_cons (pe_tup (pa_cons (ClX.pe_cmeth (E := E0) (pe_glob (v := .ref C) (by rfl) T.mgC rfl) L.r M.c4 M.G42 r6 pass0 (pa_cons pe_int (pa_cons pe_int pa_nil))) (pa_cons (pe_cmeth0 (E := E0) (pe_glob (v := .ref C) (by rfl) T.mgC rfl) L.r M.c2 M.G2 r6 pass0) pa_nil))) (pa_cons (pe_tup (pa_cons (pe_op (op_own2 (E := E0) (nm := "__and__") rfl L.m3 L.sf L.I3 r6 L.d3 pass0) (ClX.pe_cmeth (E := E0) (pe_glob (v := .ref C) (by rfl) T.mgC rfl) L.r M.c4 M.G41 r6 pass0 (pa_cons pe_int pa_nil)) (ClX.pe_cmeth (E := E0) (pe_glob (v := .ref C) (by rfl) T.mgC rfl) L.r M.c4 M.G42 r6 pass0 (pa_cons pe_int (pa_cons pe_int pa_nil)))) (pa_cons (ClX.pe_cmeth (E := E0) (pe_glob (v := .ref C) (by rfl) T.mgC rfl) L.r M.c4 M.G42 r6 pass0 (pa_cons pe_int (pa_cons pe_int pa_nil))) pa_nil))) (pa_cons (pe_tup (pa_cons (ClX.pe_cmeth (E := E0) (pe_glob (v := .ref C) (by rfl) T.mgC rfl) L.r M.c4 M.G41 r6 pass0 (pa_cons pe_int pa_nil)) (pa_cons (pv 2) pa_nil))) pa_nil))))))))))))))), ?_⟩
    refine ev_tx0 (K := K) (C := C) H _ (Same.refl _) fun G1 x1 s1 St => ?_
    refine ev_lists (K := K) (C := C) (ev_one (g := .every)) (by decide) (by decide) G1 _ (Same.refl _) fun G2 x2 s2 Sl => ?_
    refine ev_one (g := .nothing) (K := K) (C := C) G2 _ (Same.refl _) fun G4 x3 s3 Sn => ⟨_, _, _, rfl, ?_⟩
    have sA := s1.trans (s2.trans s3)
    replace Sa := Sa.up sA
    replace Sb := Sb.up sA
    replace St := St.up (s2.trans s3)
    replace Sl := Sl.up s3
    have W : EvA K C _ [some (.ref a), some (.ref b), some (.ref x1), some (.ref x2), some (.ref x3)] G4 13 := (eva_cons (ev_lists (ev_bin (op := fun a b => a && b) (ev_var (i := 0) rfl Sa) (ev_var (i := 1) rfl Sb) (by decide) (by decide) (by decide)) (by decide) (by decide)) (ev_bin (op := fun a b => a && b) (ev_lists (ev_var (i := 0) rfl Sa) (by decide) (by decide)) (ev_lists (ev_var (i := 1) rfl Sb) (by decide) (by decide)) (by decide) (by decide) (by decide)) (fun z _ => lists_and pa pb z) (by decide) (by decide) (by decide)
      (eva_cons (ev_lists (ev_bin (op := fun a b => a && !b) (ev_var (i := 0) rfl Sa) (ev_var (i := 0) rfl Sa) (by decide) (by decide) (by decide)) (by decide) (by decide)) (ev_lists (ev_one (g := .never)) (by decide) (by decide)) (fun z _ => congrArg (fun p => listsP p z) (less_self pa)) (by decide) (by decide) (by decide)
      (eva_cons (ev_nested (ev_var (i := 0) rfl Sa) (by decide) (by decide)) (ev_bin (op := fun a b => a || b) (ev_var (i := 0) rfl Sa) (ev_lists (ev_nested (ev_var (i := 0) rfl Sa) (by decide) (by decide)) (by decide) (by decide)) (by decide) (by decide) (by decide)) (fun z _ => nest_eq pa z) (by decide) (by decide) (by decide)
      (eva_cons (ev_nested (ev_nested (ev_var (i := 0) rfl Sa) (by decide) (by decide)) (by decide) (by decide)) (ev_nested (ev_var (i := 0) rfl Sa) (by decide) (by decide)) (fun z _ => nest_nest pa z) (by decide) (by decide) (by decide)
      (eva_cons (ev_nested (ev_one (g := .never)) (by decide) (by decide)) (ev_nested (ev_bin (op := fun a b => a && !b) (ev_var (i := 0) rfl Sa) (ev_var (i := 0) rfl Sa) (by decide) (by decide) (by decide)) (by decide) (by decide)) (fun z _ => congrArg (fun p => nestP p z) (less_self pa).symm) (by decide) (by decide) (by decide)
      (eva_cons (ev_bin (op := fun a b => a || b) (ev_bin (op := fun a b => a || b) (ev_var (i := 2) rfl St) (ev_var (i := 3) rfl Sl) (by decide) (by decide) (by decide)) (ev_var (i := 4) rfl Sn) (by decide) (by decide) (by decide)) (ev_one (g := .every)) (all_kinds) (by decide) (by decide) (by decide)
      (eva_cons (ev_bin (op := fun a b => a && b) (ev_var (i := 2) rfl St) (ev_var (i := 3) rfl Sl) (by decide) (by decide) (by decide)) (ev_one (g := .never)) (no_both) (by decide) (by decide) (by decide)
      (eva_cons (ev_bin (op := fun a b => a && !b) (ev_inv (ev_var (i := 2) rfl St) (by decide) (by decide)) (ev_var (i := 4) rfl Sn) (by decide) (by decide) (by decide)) (ev_var (i := 3) rfl Sl) (not_text) (by decide) (by decide) (by decide)
      (eva_cons (ev_nested (ev_bin (op := fun a b => a || b) (ev_var (i := 2) rfl St) (ev_var (i := 4) rfl Sn) (by decide) (by decide) (by decide)) (by decide) (by decide)) (ev_one (g := .every)) (all_nested) (by decide) (by decide) (by decide)
      (eva_cons (ev_bin (op := fun a b => a || b) (ev_tx2 (lo := 1) (hi := 3) (by decide) (by decide)) (ev_tx2 (lo := 0) (hi := 0) (by decide) (by decide)) (by decide) (by decide) (by decide)) (ev_tx2 (lo := 0) (hi := 3) (by decide) (by decide)) (tx_or) (by decide) (by decide) (by decide)
      (eva_cons (ev_tx2 (lo := 3) (hi := 1) (by decide) (by decide)) (ev_one (g := .never)) (tx_never) (by decide) (by decide) (by decide)
      (eva_cons (ev_bin (op := fun a b => a && b) (ev_tx1 (lo := 2) (by decide)) (ev_tx2 (lo := 0) (hi := 2) (by decide) (by decide)) (by decide) (by decide) (by decide)) (ev_tx2 (lo := 2) (hi := 2) (by decide) (by decide)) (tx_and) (by decide) (by decide) (by decide)
      (eva_cons (ev_tx1 (lo := 0) (by decide)) (ev_var (i := 2) rfl St) (fun z _ => rfl) (by decide) (by decide) (by decide)
      eva_nil)))))))))))))
    dsimp only [L2.tRet, L2.tLst]
    refine W G4 _ (Same.refl _) fun G5 vs s5 hl hv => ⟨by rw [hl]; decide, fun l nl => ?_⟩
    exact q _ l vs (sA.trans (s5.trans (same_upd nl))) upd_same hl fun v hv' => (hv v hv').up (same_upd nl)
end
end TX
namespace TX
open PySem PySem.Spec PyProof.Rows L2 LamX
/-! ### the same, and not the same -/
def NoTbl (W : Hp) : Prop := ∀ b ps, W b ≠ some (.tbl ps)
theorem NoTbl.on {W H G : Hp} (n : NoTbl W) (s : Same W H) (x : ExtN H G) : Same W G := fun b o e => x b o (s b o e) fun ps z => n b ps (by rw [e, z])
theorem sh_insF {K : PySem.W.Frag} {C : Addr} {W : Hp} {x : Addr} {gs : List Sg} (h : ShAt K W C x gs) : ∃ dx rc pl, W x = some (.ins C dx (shF rc pl)) := by
  obtain ⟨dx, rc, pl, aW, aA, aR, aL, as, ak, ws, ar, lv, hx0, _⟩ := h
  exact ⟨dx, rc, pl, hx0⟩
def spSame (K : PySem.W.Frag) (C T : Addr) : Sp := fun vs H Q _ => ∃ (x y : Addr) (p q : PyData → Bool) (n k m j : Nat) (Hv : Hp), vs = [.ref x, .ref y] ∧ Same Hv H ∧ NoTbl Hv ∧ Sv K C Hv x p n k ∧ Sv K C Hv y q m j ∧ (∀ d, valD d → p d = q d) ∧ n ≤ 100 ∧ m ≤ 100 ∧ k + j ≤ 3 ∧ TabS H T lamQ ∧ ∀ G, ExtN H G → TabS G T lamQ → Q (.bl true) G
def spDiff (K : PySem.W.Frag) (C T : Addr) : Sp := fun vs H Q _ => ∃ (x y : Addr) (v : V) (d : PyData) (p q : PyData → Bool) (n k m j : Nat) (Hv : Hp), vs = [.ref x, .ref y, v] ∧ Same Hv H ∧ NoTbl Hv ∧ Sv K C Hv x p n k ∧ Sv K C Hv y q m j ∧ Dp K Hv v d ∧ AskOk d ∧ p d = true ∧ q d = false ∧ n ≤ 100 ∧ m ≤ 100 ∧ k + j ≤ 3 ∧ TabS H T lamQ ∧ ∀ G, ExtN H G → TabS G T lamQ → Q (.bl true) G
structure Lc (P : Program) (w : World) (K : PySem.W.Frag) (mg : Str → Option Value) (base : Heap) (C T iE iI iB iM iC : Addr) (eE eI eB eM eC : FuncData) : Prop where
  GE : FnOk P w K mg base CX0 6 iE eE ["self", "other"] (spEqS K C T)
  GI : FnOk P w K mg base CX0 6 iI eI ["self", "other"] (spInS K C T)
  GB : FnOk P w K mg base CX0 6 iB eB ["self"] (spBoolS K C T)
  GM : FnOk P w K mg base CX0 6 iM eM ["self", "other"] (spBin K C fun a b => a && !b)
  GC : FnOk P w K mg base CX0 4 iC eC ["self", "x"] (spConS K C)
  mE : Meth K C "__eq__" iE
  mI : Meth K C "within" iI
  mB : Meth K C "__bool__" iB
  mM : Meth K C "__sub__" iM
  mC : Meth K C "__contains__" iC
  bE : Binds K eE ["self", "other"] []
  bI : Binds K eI ["self", "other"] []
  bB : Binds K eB ["self"] []
  bM : Binds K eM ["self", "other"] []
  bC : Binds K eC ["self", "x"] []
  sf : PySem.W.selfFirst K C = true
  hn : PySem.W.findIn K (.ref C) "__ne__" = some (some (.builtin "object.__ne__"))
  ho : PySem.W.subIn K (.ref C) (.type "object") = some true
  gB : mg "bool" = none
section
variable {P : Program} {w : World} {K : PySem.W.Frag} {mg : Str → Option Value} {base : Heap} {C T : Addr}
theorem scSame : FnScope ["_law_one", "_law_other"] ["_law_one", "_law_other"] (defScope s__law_is_same) := ⟨rfl, rfl, rfl, by decide +kernel, rfl, by decide +kernel, by decide +kernel⟩
theorem ok_same {f iE iI iB iM iC : Addr} {fd eE eI eB eM eC : FuncData} (F : Fun K "_law_is_same" "_law_is_same" s__law_is_same f fd) (T0 : Ek K mg C) (L : Lc P w K mg base C T iE iI iB iM iC eE eI eB eM eC) : FnOk P w K mg base CX0 9 f fd ["_law_one", "_law_other"] (spSame K C T) := by
  refine F.ok scSame (fun vs H Q E h => ?_) (fun cdv A outer s H vs Q E hr h => ?_)
  · obtain ⟨x, y, p, q, n, k, m, j, Hv, rfl, _⟩ := h
    rfl
  · obtain ⟨x, y, p, q, n, k, m, j, Hv, rfl, sv, nt, ⟨gs1, sh1, ne1, l1, k1, rfl⟩, ⟨gs2, sh2, ne2, l2, k2, rfl⟩, he, hn, hm, hk, tab, qq⟩ := h
    have r6 : Room 6 _ := hr.mono (by decide)
    have r7 : Room 7 _ := hr.mono (by decide)
    have r8 : Room 8 _ := hr
    refine ⟨_, pss_cons (ps_if (PW.pt (pw_or (pt_cmpR op_isnot_bl (pe_cmpR (op_eq_own (E := E0) L.mE L.GE r6 L.bE pass0) (pv 0) (pv 1) (nomark _)) pe_bl (nomark _)) (pw_or1 (pt_cmpR op_isnot_bl (pe_cmpR (op_ne_own (E := E0) L.mE L.hn L.ho L.GE r7 L.bE pass0) (pv 1) (pv 0) (nomark _)) pe_bl (nomark _))))) (pss_one (ps_ret pe_bl)) pss_nil) <|
      pss_one (ps_ret (pe_and (pe_cmpR op_is_bl (pe_meth (pv 0) T0.cl L.mI L.GI r6 L.bI .nil pass0 (pa_cons (pv 1) pa_nil)) pe_bl (nomark _)) (pe_one (pe_notT (pe_callTy (call_boolO (E := E0) L.mB L.GB r8 L.bB pass0) (by rfl) L.gB (by decide +kernel) (pa_cons (pe_op (op_own2 (E := E0) (nm := "__sub__") rfl L.mM L.sf L.GM r6 L.bM pass0) (pv 0) (pv 1)) pa_nil)))))), ?_⟩
    obtain ⟨dx, rc, pl, ex⟩ := sh_insF sh1
    obtain ⟨dy, rc2, pl2, ey⟩ := sh_insF sh2
    refine ⟨_, rfl, _, rfl, x, y, dx, dy, _, _, rfl, rfl, sv _ _ ex, sv _ _ ey, .inl ⟨x, y, gs1, gs2, Hv, rfl, ⟨sv, sh1, sh2, ne1, ne2, by omega, by omega, by omega, tab⟩, fun G1 b e1 t1 _ hb => ?_⟩⟩
    cases b with
    | false =>
      obtain ⟨d, vd, hd⟩ := hb rfl
      exact absurd (he d vd) hd
    | true =>
      have sv1 := nt.on sv e1
      refine ⟨_, _, rfl, rfl, _, rfl, iteF ?_⟩
      refine ⟨_, rfl, _, rfl, y, x, dy, dx, _, _, rfl, rfl, sv1 _ _ ey, sv1 _ _ ex, .inl ⟨y, x, gs2, gs1, Hv, rfl, ⟨sv1, sh2, sh1, ne2, ne1, by omega, by omega, by omega, t1⟩, fun G2 b e2 t2 _ hb => ⟨b, rfl, ?_⟩⟩⟩
      cases b with
      | false =>
        obtain ⟨d, vd, hd⟩ := hb rfl
        exact absurd (he d vd).symm hd
      | true =>
        have sv2 := nt.on sv1 e2
        refine ⟨_, _, rfl, rfl, _, rfl, iteF ?_⟩
        refine ⟨_, rfl, x, dx, _, rfl, sv2 _ _ ex, rfl, _, rfl, x, y, gs1, gs2, Hv, rfl, ⟨sv2, sh1, sh2, ne1, ne2, by omega, by omega, by omega, t2⟩, fun G3 b e3 t3 _ hb => ?_⟩
        cases b with
        | false =>
          obtain ⟨d, vd, h1, h2⟩ := hb rfl
          rw [he d vd, h2] at h1
          cases h1
        | true =>
          have sv3 := nt.on sv2 e3
          refine ⟨_, _, rfl, rfl, _, rfl, iteT ?_⟩
          refine ⟨_, rfl, _, rfl, x, y, dx, dy, _, _, rfl, rfl, sv3 _ _ ex, sv3 _ _ ey, x, y, gs1, gs2, Hv, rfl, sv3, sh1, sh2, ne1, ne2, by omega, by omega, by omega, fun G4 z gs s4 nz shz nez hkz hlz hpz => ?_⟩
          obtain ⟨dz, rc3, pl3, ez⟩ := sh_insF (shz.up (ov_same sv3 s4))
          refine ⟨z, dz, _, rfl, ez, z, gs, _, rfl, ov_same sv3 s4, shz, nez, by omega, by omega, t3.ext s4, fun G5 b e5 t5 _ hb => ⟨b, rfl, ?_⟩⟩
          cases b with
          | true =>
            obtain ⟨d, vd, hd, _⟩ := hb rfl
            rw [hpz] at hd
            have h2 : (lastP gs1 d && !lastP gs2 d) = true := hd
            rw [he d vd, Bool.and_not_self] at h2
            cases h2
          | false => exact ⟨_, rfl, qq G5 (e1.trans (e2.trans (e3.trans ((ExtN.of s4).trans e5)))) t5⟩
theorem con_p {K : PySem.W.Frag} {C x : Addr} {W G : Hp} {gs : List Sg} {v : V} {d : PyData} {Q : VK} {E : XK} (h : ShAt K W C x gs) (ne : gs ≠ []) (s : Same W G) (hd : Dp K W v d) (ha : AskOk d) (q : ∀ G', Same G G' → Q (.bl (lastP gs d)) G') : spConS K C [.ref x, v] G Q E := by
  refine ⟨x, gs.dropLast, gs.getLast ne, v, d, W, rfl, by rw [List.dropLast_concat_getLast ne]; exact h, s, hd, ha.bd, ha.nd, fun vd G' sG => ?_, fun nv G' sG => absurd ha.val nv⟩
  rw [← lastP_snoc, List.dropLast_concat_getLast ne]
  exact q G' sG
theorem scDiff : FnScope ["_law_one", "_law_other", "_law_value"] ["_law_one", "_law_other", "_law_value"] (defScope s__law_differ) := ⟨rfl, rfl, rfl, by decide +kernel, rfl, by decide +kernel, by decide +kernel⟩
theorem ok_diff {f iE iI iB iM iC : Addr} {fd eE eI eB eM eC : FuncData} (F : Fun K "_law_differ" "_law_differ" s__law_differ f fd) (T0 : Ek K mg C) (L : Lc P w K mg base C T iE iI iB iM iC eE eI eB eM eC) : FnOk P w K mg base CX0 9 f fd ["_law_one", "_law_other", "_law_value"] (spDiff K C T) := by
  refine F.ok scDiff (fun vs H Q E h => ?_) (fun cdv A outer s H vs Q E hr h => ?_)
  · obtain ⟨x, y, v, d, p, q, n, k, m, j, Hv, rfl, _⟩ := h
    rfl
  · obtain ⟨x, y, v, d, p, q, n, k, m, j, Hv, rfl, sv, nt, ⟨gs1, sh1, ne1, l1, k1, rfl⟩, ⟨gs2, sh2, ne2, l2, k2, rfl⟩, hv, ha, hp, hq, hn, hm, hk, tab, qq⟩ := h
    have r4 : Room 4 _ := hr.mono (by decide)
    have r6 : Room 6 _ := hr.mono (by decide)
    have r7 : Room 7 _ := hr.mono (by decide)
    have r8 : Room 8 _ := hr
    have vd := ha.val
    refine ⟨_, pss_cons (ps_if (PW.pt (pw_or (pt_cmpR (op_eq_own (E := E0) L.mE L.GE r6 L.bE pass0) (pv 0) (pv 1) (nomark _)) (pw_or (pt_cmpR (op_eq_own (E := E0) L.mE L.GE r6 L.bE pass0) (pv 1) (pv 0) (nomark _)) (pw_or (pt_not (pt_cmpR (op_ne_own (E := E0) L.mE L.hn L.ho L.GE r7 L.bE pass0) (pv 0) (pv 1) (nomark _))) (pw_or (pt_val (pe_meth (pv 0) T0.cl L.mI L.GI r6 L.bI .nil pass0 (pa_cons (pv 1) pa_nil))) (pw_or1 (pt_not (pt_val (pe_callTy (call_boolO (E := E0) L.mB L.GB r8 L.bB pass0) (by rfl) L.gB (by decide +kernel) (pa_cons (pv 0) pa_nil)))))))))) (pss_one (ps_ret pe_bl)) pss_nil) <|
      pss_one (ps_ret (pe_and (pe_cmpR (op_in_own (E := E0) L.mC L.GC r4 L.bC pass0) (pv 2) (pv 0) (by rfl)) (pe_and (pe_cmpR (op_notin_own (E := E0) L.mC L.GC r4 L.bC pass0) (pv 2) (pv 1) (by rfl)) (pe_one (pe_callTy (call_boolO (E := E0) L.mB L.GB r8 L.bB pass0) (by rfl) L.gB (by decide +kernel) (pa_cons (pe_op (op_own2 (E := E0) (nm := "__sub__") rfl L.mM L.sf L.GM r6 L.bM pass0) (pv 0) (pv 1)) pa_nil)))))), ?_⟩
    obtain ⟨dx, rc, pl, ex⟩ := sh_insF sh1
    obtain ⟨dy, rc2, pl2, ey⟩ := sh_insF sh2
    refine ⟨_, rfl, _, rfl, x, y, dx, dy, _, _, rfl, rfl, sv _ _ ex, sv _ _ ey, .inl ⟨x, y, gs1, gs2, Hv, rfl, ⟨sv, sh1, sh2, ne1, ne2, by omega, by omega, by omega, tab⟩, fun G1 b e1 t1 hb _ => ?_⟩⟩
    cases b with
    | true =>
      have := hb rfl d vd
      rw [hp, hq] at this
      cases this
    | false =>
    have sv1 := nt.on sv e1
    refine ⟨_, rfl, iteF ?_⟩
    refine ⟨_, rfl, _, rfl, y, x, dy, dx, _, _, rfl, rfl, sv1 _ _ ey, sv1 _ _ ex, .inl ⟨y, x, gs2, gs1, Hv, rfl, ⟨sv1, sh2, sh1, ne2, ne1, by omega, by omega, by omega, t1⟩, fun G2 b e2 t2 hb _ => ?_⟩⟩
    cases b with
    | true =>
      have := hb rfl d vd
      rw [hp, hq] at this
      cases this
    | false =>
    have sv2 := nt.on sv1 e2
    refine ⟨_, rfl, iteF ?_⟩
    refine ⟨_, rfl, _, rfl, x, y, dx, dy, _, _, rfl, rfl, sv2 _ _ ex, sv2 _ _ ey, .inl ⟨x, y, gs1, gs2, Hv, rfl, ⟨sv2, sh1, sh2, ne1, ne2, by omega, by omega, by omega, t2⟩, fun G3 b e3 t3 hb _ => ⟨b, rfl, ?_⟩⟩⟩
    cases b with
    | true =>
      have := hb rfl d vd
      rw [hp, hq] at this
      cases this
    | false =>
    have sv3 := nt.on sv2 e3
    refine ⟨_, rfl, iteF ?_⟩
    refine ⟨_, rfl, x, dx, _, rfl, sv3 _ _ ex, rfl, _, rfl, x, y, gs1, gs2, Hv, rfl, ⟨sv3, sh1, sh2, ne1, ne2, by omega, by omega, by omega, t3⟩, fun G4 b e4 t4 hb _ => ⟨b, rfl, ?_⟩⟩
    cases b with
    | true =>
      have := hb rfl d vd hp
      rw [hq] at this
      cases this
    | false =>
    have sv4 := nt.on sv3 e4
    refine iteF ?_
    refine ⟨_, rfl, x, dx, _, rfl, sv4 _ _ ex, x, gs1, Hv, rfl, sv4, sh1, ne1, by omega, by omega, t4, fun G5 b e5 t5 hb _ => ⟨b, rfl, b, rfl, ?_⟩⟩
    cases b with
    | false =>
      have := hb rfl d vd
      rw [hp] at this
      cases this
    | true =>
    have sv5 := nt.on sv4 e5
    refine iteF ?_
    refine ⟨_, rfl, _, rfl, x, dx, _, rfl, sv5 _ _ ex, con_p sh1 ne1 sv5 hv ha fun G6 s6 => ⟨_, rfl, _, rfl, ?_⟩⟩
    rw [hp]
    refine iteT ?_
    refine ⟨_, rfl, _, rfl, y, dy, _, rfl, (sv5.trans s6) _ _ ey, con_p sh2 ne2 (sv5.trans s6) hv ha fun G7 s7 => ⟨_, rfl, _, rfl, ?_⟩⟩
    rw [hq]
    refine iteT ?_
    have sv7 := sv5.trans (s6.trans s7)
    refine ⟨_, rfl, _, rfl, x, y, dx, dy, _, _, rfl, rfl, sv7 _ _ ex, sv7 _ _ ey, x, y, gs1, gs2, Hv, rfl, sv7, sh1, sh2, ne1, ne2, by omega, by omega, by omega, fun G8 z gs s8 nz shz nez hkz hlz hpz => ?_⟩
    obtain ⟨dz, rc3, pl3, ez⟩ := sh_insF (shz.up (ov_same sv7 s8))
    refine ⟨z, dz, _, rfl, ez, z, gs, _, rfl, ov_same sv7 s8, shz, nez, by omega, by omega, t5.ext (s6.trans (s7.trans s8)), fun G9 b e9 t9 hb _ => ⟨b, rfl, ?_⟩⟩
    cases b with
    | false =>
      have := hb rfl d vd
      rw [hpz] at this
      simp only [hp, hq] at this
      cases this
    | true => exact qq G9 (e1.trans (e2.trans (e3.trans (e4.trans (e5.trans ((ExtN.of (s6.trans (s7.trans s8))).trans e9)))))) t9
end
end TX
namespace TX
open PySem PySem.Spec PyProof.Rows L2
/-! ### x == a thing of another type -/
section
variable {X : Cx} {CX : CXT} {C f g : Addr} {k : Nat} {fd : FuncData} {ps : List Str} {sp : Sp} {E : XK}
/-- things of six types -/
inductive Thing (K : PySem.W.Frag) (H : Hp) : V → String → Prop where
  | non : Thing K H .non "NoneType"
  | bl (b : Bool) : Thing K H (.bl b) "bool"
  | int (i : Int) : Thing K H (.int i) "int"
  | str (z : Str) : Thing K H (.str z) "str"
  | lst {a : Addr} {xs : List V} (h : H a = some (.lst xs)) : Thing K H (.ref a) "list"
  | tup {a : Addr} {xs : List V} (h : H a = some (.tup xs)) : Thing K H (.ref a) "tuple"
theorem Thing.ty {K : PySem.W.Frag} {H : Hp} {y : V} {t : String} (h : Thing K H y t) : TyOf K H y (.type t) := by
  cases h with
  | non => exact .non
  | bl b => exact .bl b
  | int i => exact .int i
  | str z => exact .str z
  | lst h => exact .lst h
  | tup h => exact .tup h
/-- x == y, y a thing of another type -/
theorem op_eq_thing (hm : Meth X.K C "__eq__" f) (F : FnOk X.prog X.w X.K X.mg X.base CX k f fd ps sp) (hr : Room k X.A) (hb : Binds X.K fd ps []) (hx : Passes CX X E) :
    OpR X (compareOp .Eq) (fun x y H Q => ∃ t, Thing X.K H y t ∧ PySem.W.notFirst X.K C (.type t) = true ∧ rOwn C sp E x y H Q) := by
  intro pins s σ H x y v u Q I rx ry h
  obtain ⟨t, hy, hu, p, dx, fs, rfl, hp', q⟩ := h
  cases rx
  obtain ⟨ox, od, J⟩ := inst_at I hp'
  obtain ⟨m, hF⟩ := I.fr
  have un : X.A.units < cLine := by
    have := hr.un
    omega
  have fin : wpAny (model X.prog X.w) X.A (call (.ref f) [.ref p, u]) (PySem.W.CmpBack (EP X pins σ Q)) X.xe s :=
    wpAny_mono (run_below (vs := [.ref p, y]) F ⟨hr, rfl⟩ hb hx I (.cons rfl (.cons ry .nil)) q) (fun _ _ h => ep_back h) fun _ _ e => e
  show wpAny (model X.prog X.w) X.A (richCompare .Eq _ _) _ _ _
  cases hy with
  | non =>
    cases ry
    exact PySem.W.cmp_K (tb := .type "NoneType") (op := .Eq) un hF I.ok.mod.kin J (PySem.W.Looks.of_pure rfl) hu hm.at_ hm.fn fin
  | bl b =>
    cases ry
    exact PySem.W.cmp_K (tb := .type "bool") (op := .Eq) un hF I.ok.mod.kin J (PySem.W.Looks.of_pure rfl) hu hm.at_ hm.fn fin
  | int i =>
    obtain ⟨t, rfl⟩ := ry
    exact PySem.W.cmp_K (tb := .type "int") (op := .Eq) un hF I.ok.mod.kin J (PySem.W.Looks.of_pure rfl) hu hm.at_ hm.fn fin
  | str z =>
    obtain ⟨t, rfl⟩ := ry
    exact PySem.W.cmp_K (tb := .type "str") (op := .Eq) un hF I.ok.mod.kin J (PySem.W.Looks.of_pure rfl) hu hm.at_ hm.fn fin
  | lst ha' =>
    cases ry
    obtain ⟨z, its, n, r, hl, e⟩ := I.lstM ha'
    exact PySem.W.cmp_K (tb := .type "list") (op := .Eq) un hF I.ok.mod.kin J ((PySem.W.Looks.ld e).andThen .now) hu hm.at_ hm.fn fin
  | tup ha' =>
    cases ry
    obtain ⟨its, rv, pl, hz⟩ := I.tuple (SqT.of ha')
    obtain ⟨o, e, c, _⟩ := pl
    exact PySem.W.cmp_K (tb := .type "tuple") (op := .Eq) un hF I.ok.mod.kin J ((PySem.W.Looks.ld e).andThen (by rw [c]; exact .now)) hu hm.at_ hm.fn fin
end
end TX
namespace TX
open PySem PySem.Spec PyProof.Rows L2 LamX
/-! ### views, tables, and a drawn shape -/
def ShIn (K : PySem.W.Frag) (W : Hp) (rc pl : Addr) (gs : List Sg) : Prop := ∃ (aW aA aR aL : Addr) (as : List Addr) (ak : List Nat) (ws ar : List Int) (lv : List Nat), Recipe K W rc as gs ∧ PlanF K W pl (predsOf [] gs) ak ws aW aA aR aL ar lv ∧ SqL K W aW (ws.map V.int) ∧ ak.length ≤ asksN gs
theorem ShIn.up {K : PySem.W.Frag} {W W' : Hp} {rc pl : Addr} {gs : List Sg} (h : ShIn K W rc pl gs) (s : Same W W') : ShIn K W' rc pl gs := by
  obtain ⟨aW, aA, aR, aL, as, ak, ws, ar, lv, a, b, c, d⟩ := h
  exact ⟨aW, aA, aR, aL, as, ak, ws, ar, lv, a.up s, b.up s, s.seq c, d⟩
theorem ShIn.at_ {K : PySem.W.Frag} {W H : Hp} {C x dx rc pl : Addr} {gs : List Sg} (h : ShIn K W rc pl gs) (s : Same W H) (hx : H x = some (.ins C dx (shF rc pl))) : ShAt K H C x gs := by
  obtain ⟨aW, aA, aR, aL, as, ak, ws, ar, lv, a, b, c, d⟩ := h
  exact ⟨dx, rc, pl, aW, aA, aR, aL, as, ak, ws, ar, lv, hx, a.up s, b.up s, s.seq c, d⟩
theorem ShAt.in_ {K : PySem.W.Frag} {H : Hp} {C x : Addr} {gs : List Sg} (h : ShAt K H C x gs) : ∃ dx rc pl, H x = some (.ins C dx (shF rc pl)) ∧ ShIn K H rc pl gs := by
  obtain ⟨dx, rc, pl, aW, aA, aR, aL, as, ak, ws, ar, lv, hx, a, b, c, d⟩ := h
  exact ⟨dx, rc, pl, hx, aW, aA, aR, aL, as, ak, ws, ar, lv, a, b, c, d⟩
def cutS (S : List Addr) (G : Hp) : Hp := fun b => if b ∈ S then none else G b
def KpS (S : List Addr) (G G' : Hp) : Prop := ∀ b o, b ∉ S → G b = some o → G' b = some o
theorem cutS_some {S : List Addr} {G : Hp} {b : Addr} {o : HO} : cutS S G b = some o ↔ b ∉ S ∧ G b = some o := by
  unfold cutS
  by_cases h : b ∈ S
  · rw [if_pos h]
    exact ⟨fun z => (nomatch z), fun z => absurd h z.1⟩
  · rw [if_neg h]
    exact ⟨fun z => ⟨h, z⟩, fun z => z.2⟩
theorem cutS_sub {S : List Addr} {G : Hp} : Same (cutS S G) G := fun b o e => (cutS_some.mp e).2
theorem KpS.cut {S : List Addr} {G G' : Hp} (k : KpS S G G') : Same (cutS S G) (cutS S G') := fun b o e => by
  obtain ⟨h, e⟩ := cutS_some.mp e
  exact cutS_some.mpr ⟨h, k b o h e⟩
theorem KpS.of {S : List Addr} {G G' : Hp} (s : Same G G') : KpS S G G' := fun b o _ e => s b o e
theorem KpS.trans {S : List Addr} {G G' G'' : Hp} (h : KpS S G G') (k : KpS S G' G'') : KpS S G G'' := fun b o n e => k b o n (h b o n e)
theorem KpS.set {S : List Addr} {G : Hp} {a : Addr} {o : HO} (h : a ∈ S) : KpS S G (upd G a o) := fun b u n e => by
  rw [upd_ne (fun z => n (by rw [z]; exact h))]
  exact e
def KeepX (G G' : Hp) : Prop := ∀ b o, G b = some o → (∀ xs, o ≠ .lst xs) → (∀ C dx fs, o ≠ .ins C dx fs) → G' b = some o
theorem KeepX.tab {G G' : Hp} {P : Addr} {q : Str} (k : KeepX G G') (t : TabS G P q) : TabS G' P q := by
  obtain ⟨ps, h1, h2, h3⟩ := t
  refine ⟨ps, k _ _ h1 (fun _ z => nomatch z) (fun _ _ _ z => nomatch z), h2, fun pos cv hc => ?_⟩
  obtain ⟨c, e1, e2⟩ := h3 pos cv hc
  refine ⟨c, e1, k _ _ e2 (fun _ z => ?_) (fun _ _ _ z => ?_)⟩ <;>
  · unfold CodeO at z
    cases z
def cutD (S : List Addr) (G : Hp) : Hp := fun b => match G b with
  | some (.ins _ _ _) => none
  | o => if b ∈ S then none else o
theorem cutD_some {S : List Addr} {G : Hp} {b : Addr} {o : HO} (h : cutD S G b = some o) : b ∉ S ∧ G b = some o ∧ ∀ C dx fs, o ≠ .ins C dx fs := by
  unfold cutD at h
  split at h
  · cases h
  · rename_i hn
    by_cases hb : b ∈ S
    · rw [if_pos hb] at h
      cases h
    · rw [if_neg hb] at h
      exact ⟨hb, h, fun C dx fs z => hn C dx fs (by rw [h, z])⟩
theorem lst_live {G : Hp} {a b : Addr} {o : HO} (h : G a = some o) (n : G b = none) : a ≠ b := fun z => by
  rw [z, n] at h
  cases h
theorem ShIn.extN {K : PySem.W.Frag} {W W' : Hp} {rc pl : Addr} {gs : List Sg} (e : ExtN W W') (h : ShIn K W rc pl gs) : ShIn K W' rc pl gs := by
  obtain ⟨aW, aA, aR, aL, as, ak, ws, ar, lv, R, p, c, d⟩ := h
  refine ⟨aW, aA, aR, aL, as, ak, ws, ar, lv, ⟨sqT_extN e R.at_, R.len, fun i g b e1 e2 => ?_, R.few, R.part⟩, ⟨sqT_extN e p.at_, p.rows.imp (sqL_extN e) (sqT_extN e), p.askd.imp (sqL_extN e) (sqT_extN e), p.arow.imp (sqL_extN e) fun z => ⟨sqT_extN e z.1, z.2⟩, p.leav.imp (sqL_extN e) (sqT_extN e), p.six, p.inv, p.arr, p.ok⟩, sqL_extN e c, d⟩
  obtain ⟨u, v, h1, h2, h3⟩ := R.step i g b e1 e2
  exact ⟨u, v, sqT_extN e h1, sqT_extN e h2, sqT_extN e h3⟩
theorem ShAt.extN {K : PySem.W.Frag} {W W' : Hp} {C x : Addr} {gs : List Sg} (e : ExtN W W') (h : ShAt K W C x gs) : ShAt K W' C x gs := by
  obtain ⟨dx, rc, pl, ex, i⟩ := h.in_
  exact (i.extN e).at_ (Same.refl _) (e _ _ ex fun _ z => nomatch z)
theorem cut_extN {S : List Addr} {G G' : Hp} (e : ExtN G G') : ExtN (cutS S G) (cutS S G') := fun b o h n => by
  obtain ⟨hb, h⟩ := cutS_some.mp h
  exact cutS_some.mpr ⟨hb, e b o h n⟩
def noT (W : Hp) : Hp := fun b => match W b with
  | some (.tbl _) => none
  | o => o
theorem noT_some {W : Hp} {b : Addr} {o : HO} (h : noT W b = some o) : W b = some o ∧ ∀ ps, o ≠ .tbl ps := by
  unfold noT at h
  split at h
  · cases h
  · rename_i hn
    exact ⟨h, fun ps z => hn ps (by rw [h, z])⟩
theorem noT_sub {W : Hp} : Same (noT W) W := fun b o h => (noT_some h).1
theorem noT_no {W : Hp} : NoTbl (noT W) := fun b ps h => (noT_some h).2 ps rfl
theorem ext_noT {W : Hp} : ExtN W (noT W) := fun b o h n => by
  unfold noT
  split
  · rename_i ps h2
    rw [h] at h2
    exact absurd (Option.some.inj h2) (n ps)
  · exact h
theorem lt_strOk {x : Str} (h : Lt x) : PyData.strOk x = true := by
  unfold PyData.strOk
  rw [Array.all_eq_true_iff_forall_mem]
  exact fun c hc => decide_eq_true (Nat.lt_of_le_of_lt (h c (Array.mem_toList_iff.mpr hc)).2 (by decide))
mutual
theorem val_can : ∀ d : PyData, valD d → d.canLay0 = true
  | .none, _ => rfl
  | .str x, h => by simp only [PyData.canLay0, lt_strOk h]
  | .list es, h => by simp only [PyData.canLay0, val_canAll es h]
  | .bool _, h => h.elim
  | .int _, h => h.elim
  | .tuple _, h => h.elim
  | .dict _, h => h.elim
theorem val_canAll : ∀ ds : List PyData, valAll ds → PyData.canLayAll0 ds = true
  | [], _ => rfl
  | d :: ds, h => by simp only [PyData.canLayAll0, val_can d h.1, val_canAll ds h.2, Bool.and_self]
end
theorem shaped_tup {d : PyData} (h : valD d) (hz : d.depth ≤ 60) : SeqAt.shaped (.tuple [d]) = true := by
  unfold SeqAt.shaped
  have e : (PyData.tuple [d]).canLay0 = true := by simp only [PyData.canLay0, PyData.canLayAll0, val_can d h, Bool.and_self]
  rw [e, Bool.true_and]
  exact decide_eq_true (by simp only [PyData.depth, PyData.depthAll]; omega)
theorem eqv_tup_nil (ds : List PyData) : PyData.eqv (.tuple ds) (.tuple []) = ds.isEmpty := by
  cases ds <;> simp [PyData.eqv, PyData.eqvAll]
theorem ext_keep2 {H G G' : Hp} {S : List Addr} (e : ExtN H G) (f : ∀ b ∈ S, ∀ o, H b = some o → ∃ ps, o = .tbl ps) (k : KpS S G G') : ExtN H G' := fun b o h n => by
  refine k b o (fun hb => ?_) (e b o h n)
  obtain ⟨ps, z⟩ := f b hb o h
  exact n ps z
theorem keep_fresh {H G : Hp} {b : Addr} (e : ExtN H G) (n : G b = none) : ∀ o, H b = some o → ∃ ps, o = .tbl ps := fun o h => by
  cases o with
  | tbl ps => exact ⟨ps, rfl⟩
  | _ =>
    rw [e b _ h (fun _ z => nomatch z)] at n
    cases n
theorem Sv.extN {K : PySem.W.Frag} {C : Addr} {W W' : Hp} {x : Addr} {p : PyData → Bool} {n k : Nat} (h : Sv K C W x p n k) (e : ExtN W W') : Sv K C W' x p n k := by
  obtain ⟨gs, a, b⟩ := h
  exact ⟨gs, a.extN e, b⟩
/-- a drawn shape and its node, seen without the bag -/
structure Dr (K : PySem.W.Frag) (C B : Addr) (G : Hp) (x : Addr) (u : V) (gs : List Sg) (n : Nd) : Prop where
  sh : ShAt K (cutS [B] G) C x gs
  dn : Dp K (cutS [B] G) u n.dat
  sn : ShNd gs n
theorem Dr.up {K : PySem.W.Frag} {C B : Addr} {G G' : Hp} {x : Addr} {u : V} {gs : List Sg} {n : Nd} (h : Dr K C B G x u gs n) (k : KpS [B] G G') : Dr K C B G' x u gs n := ⟨h.sh.up k.cut, dp_same k.cut _ _ h.dn, h.sn⟩
theorem draw {K : PySem.W.Frag} {C B l : Addr} {G : Hp} {left deep : Nat} {Q : VK} {E : XK} (bag : BagAt G B) (nl : G l = none) (hd : deep ≤ 2) (hl : left ≤ 6) (q : ∀ (G4 : Hp) (t x : Addr) (u : V) (gs : List Sg) (n : Nd), KpS [B] G G4 → BagAt G4 B → G4 t = some (.tup [.ref x, u]) → Dr K C B G4 x u gs n → n.deep ≤ deep → gs.length + 1 ≤ 2 ^ (deep + 1) → asksN gs ≤ left → Q (.ref t) G4) :
    spShape K C 2 [.ref B, .int (deep : Nat), .ref l] (upd G l (.lst [.int ((left : Nat) : Int)])) Q E := by
  have s3 := same_upd (o := .lst [.int ((left : Nat) : Int)]) nl
  have lvB : ∀ {G : Hp}, BagAt G B → G B ≠ none := fun ⟨a, b, e⟩ => by rw [e]; exact fun z => nomatch z
  have cd : Same (cutD [B] G) (upd G l (.lst [.int ((left : Nat) : Int)])) := fun b o e => s3 b o (cutD_some e).2.1
  have nB2 : cutD [B] G B = none := by
    cases e : cutD [B] G B with
    | none => rfl
    | some o => exact absurd (by simp) (cutD_some e).1
  have nl2 : cutD [B] G l = none := by
    cases e : cutD [B] G l with
    | none => rfl
    | some o => rw [(cutD_some e).2.1] at nl; cases nl
  have bg3 := TX.bag_same bag s3
  have vw : Vw (upd G l (.lst [.int ((left : Nat) : Int)])) (cutD [B] G) B l := ⟨cd, nB2, nl2, lvB bg3, by rw [upd_same]; exact fun z => nomatch z⟩
  refine ⟨B, l, cutD [B] G, deep, left, rfl, ⟨fun _ _ _ _ e => e, bg3, upd_same⟩, vw, hd, by omega, hl, fun G4 t x u gs n left' k4 ht sh hdn heq hdp hlen hask => ?_⟩
  have cv : Same (ov (upd G l (.lst [.int ((left : Nat) : Int)])) (cutD [B] G) G4) (cutS [B] G4) := fun b o e => by
    cases h : (upd G l (.lst [.int ((left : Nat) : Int)])) b with
    | none =>
      rw [ov_new h] at e
      refine cutS_some.mpr ⟨fun z => ?_, e⟩
      rw [List.mem_singleton.mp z] at h
      exact lvB bg3 h
    | some o3 =>
      rw [ov_old h] at e
      obtain ⟨hb, e2, _⟩ := cutD_some e
      exact cutS_some.mpr ⟨hb, k4.k _ _ (fun z => hb (by simp [z])) (lst_live e2 nl) (s3 _ _ e2)⟩
  exact q G4 t x u gs n (fun b o hb e => k4.k _ _ (fun z => hb (by simp [z])) (lst_live e nl) (s3 _ _ e)) k4.b (cutS_sub _ _ (cv _ _ ht)) ⟨sh.up cv, dp_same cv _ _ hdn, heq⟩ hdp.1 hlen (by omega)
end TX
namespace TX
open PySem PySem.Spec PyProof.Rows L2 LamX
/-! ### the law -/
structure Ml (mg : Str → Option Value) : Prop where
  max : mg "max" = none
structure Lw (P : Program) (w : World) (K : PySem.W.Frag) (mg : Str → Option Value) (base : Heap) (C T a1 a2 a3 a4 a5 a6 a7 i8 : Addr) (f1 f2 f3 f4 f5 f6 f7 e8 : FuncData) : Prop where
  G1 : FnOk P w K mg base CX0 1 a1 f1 ["_law_script", "_law_at"] (spBag K)
  b1 : Binds K f1 ["_law_script", "_law_at"] []
  g1 : mg "_law_bag" = some (.ref a1)
  k1 : PySem.W.keepIn K (.ref a1) = true
  G2 : FnOk P w K mg base CX0 10 a2 f2 ["_law_bag_here", "_law_deep", "_law_left"] (spShape K C 2)
  b2 : Binds K f2 ["_law_bag_here", "_law_deep", "_law_left"] []
  g2 : mg "_law_shape" = some (.ref a2)
  k2 : PySem.W.keepIn K (.ref a2) = true
  G3 : FnOk P w K mg base CX0 7 a3 f3 ["_law_a", "_law_b", "_law_c", "_law_d"] (spPlain K C)
  b3 : Binds K f3 ["_law_a", "_law_b", "_law_c", "_law_d"] []
  g3 : mg "_law_plain" = some (.ref a3)
  k3 : PySem.W.keepIn K (.ref a3) = true
  G4 : FnOk P w K mg base CX0 7 a4 f4 ["_law_a", "_law_b"] (spNest K C)
  b4 : Binds K f4 ["_law_a", "_law_b"] []
  g4 : mg "_law_nested" = some (.ref a4)
  k4 : PySem.W.keepIn K (.ref a4) = true
  G5 : FnOk P w K mg base CX0 9 a5 f5 ["_law_one", "_law_other"] (spSame K C T)
  b5 : Binds K f5 ["_law_one", "_law_other"] []
  g5 : mg "_law_is_same" = some (.ref a5)
  k5 : PySem.W.keepIn K (.ref a5) = true
  G6 : FnOk P w K mg base CX0 11 a6 f6 ["_law_node", "_law_value"] (spHas K 10)
  b6 : Binds K f6 ["_law_node", "_law_value"] []
  g6 : mg "_law_has" = some (.ref a6)
  k6 : PySem.W.keepIn K (.ref a6) = true
  G7 : FnOk P w K mg base CX0 9 a7 f7 ["_law_one", "_law_other", "_law_value"] (spDiff K C T)
  b7 : Binds K f7 ["_law_one", "_law_other", "_law_value"] []
  g7 : mg "_law_differ" = some (.ref a7)
  k7 : PySem.W.keepIn K (.ref a7) = true
  G8 : FnOk P w K mg base CX0 6 i8 e8 ["self"] (spLeastS K C T)
  m8 : Meth K C "least" i8
  b8 : Binds K e8 ["self"] []
/-- types of things that are no shape -/
structure Oth (K : PySem.W.Frag) (C : Addr) : Prop where
  o : ∀ t ∈ ["NoneType", "bool", "int", "str", "list", "tuple"], PySem.W.subIn K (.type t) (.ref C) = some false
  k : ∀ t ∈ ["NoneType", "bool", "int", "str", "list", "tuple"], PySem.W.kitOne K (.type t) (.ref C) = some false
def spLaw (K : PySem.W.Frag) (T : Addr) : Sp := fun vs H Q _ => ∃ (a : Addr) (ns : List Int), vs = [.ref a] ∧ SqL K H a (ns.map V.int) ∧ ns.length ≤ 63 ∧ TabS H T lamQ ∧ ∀ H', Q (.bl true) H'
theorem thing_t {K : PySem.W.Frag} {H : Hp} {y : V} {t : String} (h : Thing K H y t) : t ∈ ["NoneType", "bool", "int", "str", "list", "tuple"] := by
  cases h <;> simp
def litW : List PyData := [.none, .str "", .str "a", .str "ab", .str "abc", .str "abcd", .list [], .list [.none], .list [.list []], .list [.str "a", .str "bcd"]]
theorem litW_k : ∀ d ∈ litW, Vk d ∧ Vk (.list [d]) ∧ d.depth ≤ 3 := by
  have a0 : Lt "" := by unfold Lt; decide +kernel
  have a1 : Lt "a" := by unfold Lt; decide +kernel
  have a2 : Lt "ab" := by unfold Lt; decide +kernel
  have a3 : Lt "abc" := by unfold Lt; decide +kernel
  have a4 : Lt "abcd" := by unfold Lt; decide +kernel
  have a5 : Lt "bcd" := by unfold Lt; decide +kernel
  have l0 : Str.length "" = 0 := by decide +kernel
  have l1 : Str.length "a" = 1 := by decide +kernel
  have l2 : Str.length "ab" = 2 := by decide +kernel
  have l3 : Str.length "abc" = 3 := by decide +kernel
  have l4 : Str.length "abcd" = 4 := by decide +kernel
  have l5 : Str.length "bcd" = 3 := by decide +kernel
  have key : ∀ d : PyData, valD d → sz d ≤ 100 → d.depth ≤ 3 → Vk d ∧ Vk (.list [d]) ∧ d.depth ≤ 3 := fun d v s h => ⟨⟨v, by omega, by omega⟩, ⟨⟨v, trivial⟩, by simp only [sz, szAll]; omega, by simp only [PyData.depth, PyData.depthAll]; omega⟩, h⟩
  intro d hd
  simp only [litW, List.mem_cons, List.not_mem_nil, or_false] at hd
  rcases hd with rfl | rfl | rfl | rfl | rfl | rfl | rfl | rfl | rfl | rfl
  · exact key _ trivial (by simp [sz]) (by simp [PyData.depth])
  · exact key _ a0 (by simp [sz, l0]) (by simp [PyData.depth])
  · exact key _ a1 (by simp [sz, l1]) (by simp [PyData.depth])
  · exact key _ a2 (by simp [sz, l2]) (by simp [PyData.depth])
  · exact key _ a3 (by simp [sz, l3]) (by simp [PyData.depth])
  · exact key _ a4 (by simp [sz, l4]) (by simp [PyData.depth])
  · exact key _ trivial (by simp [sz, szAll]) (by simp [PyData.depth, PyData.depthAll])
  · exact key _ ⟨trivial, trivial⟩ (by simp [sz, szAll]) (by simp [PyData.depth, PyData.depthAll])
  · exact key _ ⟨trivial, trivial⟩ (by simp [sz, szAll]) (by simp [PyData.depth, PyData.depthAll])
  · exact key _ ⟨a1, a5, trivial⟩ (by simp [sz, szAll, l1, l5]) (by simp [PyData.depth, PyData.depthAll])
section
variable {P : Program} {w : World} {K : PySem.W.Frag} {mg : Str → Option Value} {base : Heap} {C T1 : Addr}
abbrev NL : List Str := ["_law_script", "_law_at", "_law_bag_here", "_law_a", "_law_node", "_law_b", "_law_beside", "_law_c", "_law_d", "_law_one", "_law_other", "_law_value", "_law_thing"]
theorem scLaw : FnScope NL ["_law_script"] (defScope sLaw) := ⟨rfl, rfl, rfl, by decide +kernel, rfl, by decide +kernel, by decide +kernel⟩
theorem ok_law {f : Addr} {fd : FuncData} {mc : Value} {fT fL f1 f2 p1 p2 i1 i2 i3 i4 : Addr} {dT dL e1 e2 e3 e4 : FuncData} {iE iI iB iM iC : Addr} {eE eI eB eM eC : FuncData} {a1 a2 a3 a4 a5 a6 a7 i8 : Addr} {h1 h2 h3 h4 h5 h6 h7 e8 : FuncData} (F : Fun K "law" "law" sLaw f fd) (M0 : Ml mg) (B : Nb mg) (Y : Nv mg) (T : Ek K mg C) (L : Lh P w K mg base C mc fT fL f1 f2 p1 p2 i1 i2 i3 i4 dT dL e1 e2 e3 e4) (Z : Lc P w K mg base C T1 iE iI iB iM iC eE eI eB eM eC) (W : Lw P w K mg base C T1 a1 a2 a3 a4 a5 a6 a7 i8 h1 h2 h3 h4 h5 h6 h7 e8) (O : Oth K C) :
    FnOk P w K mg base CX0 12 f fd ["_law_script"] (spLaw K T1) := by
  refine F.ok scLaw (fun vs H Q E h => ?_) (fun cdv A outer s H vs Q E hr h => ?_)
  · obtain ⟨a, ns, rfl, _⟩ := h
    rfl
  · obtain ⟨a0, ns, rfl, hS, hn, hT, q⟩ := h
    have hu := hr.units
    have r1 : Room 1 _ := hr.mono (by decide)
    have r6 : Room 6 _ := hr.mono (by decide)
    have r7 : Room 7 _ := hr.mono (by decide)
    have r8 : Room 8 _ := hr.mono (by decide)
    have r9 : Room 9 _ := hr.mono (by decide)
    have r10 : Room 10 _ := hr.mono (by decide)
    have r11 : Room 11 _ := hr
    refine ⟨_, pss_cons (ps_for PassesOwn.never rfl (pi_range1 (by rfl) Y.range (pa_cons (pe_callB (call_max2 rfl) (by rfl) M0.max (by decide +kernel) (pa_cons pe_int (pa_cons (pe_callB (call_min2 rfl) (by rfl) Y.min (by decide +kernel) (pa_cons pe_int (pa_cons (pe_callB call_len_seq (by rfl) B.len PySem.boot_len (pa_cons (pv 0) pa_nil)) pa_nil))) pa_nil))) pa_nil)) (pg_name (i := 1) scLaw.nd rfl (.inl rfl)) (
        pss_cons (ps_set (i := 2) scLaw.nd rfl (.inl rfl) (pe_call W.G1 r1 (by rfl) W.g1 W.k1 W.b1 .nil pass0 (pa_cons (pv 0) (pa_cons (pv 1) pa_nil)))) <|
        C8.pss_cut (ps_asg (pe_tup (pa_cons (pe_call W.G2 r10 (by rfl) W.g2 W.k2 W.b2 .nil pass0 (pa_cons (pv 2) (pa_cons pe_int (pa_cons (pe_lst (pa_cons pe_int pa_nil)) pa_nil)))) (pa_cons (pe_call W.G2 r10 (by rfl) W.g2 W.k2 W.b2 .nil pass0 (pa_cons (pv 2) (pa_cons pe_int (pa_cons (pe_lst (pa_cons pe_int pa_nil)) pa_nil)))) pa_nil))) (pg_tup rfl (pgs_cons (pg_tup rfl (pgs_cons (pg_name (i := 3) scLaw.nd rfl (.inl rfl)) (pgs_cons (pg_name (i := 4) scLaw.nd rfl (.inl rfl)) pgs_nil))) (pgs_cons (pg_tup rfl (pgs_cons (pg_name (i := 5) scLaw.nd rfl (.inl rfl)) (pgs_cons (pg_name (i := 6) scLaw.nd rfl (.inl rfl)) pgs_nil))) pgs_nil)))) <|
        C8.pss_cut (ps_par (i := 7) (j := 8) rfl scLaw.nd rfl rfl (by decide) rfl rfl (pa_cons (pe_ix ix_tup (pe_call W.G2 r10 (by rfl) W.g2 W.k2 W.b2 .nil pass0 (pa_cons (pv 2) (pa_cons pe_int (pa_cons (pe_lst (pa_cons pe_int pa_nil)) pa_nil)))) pe_int (fun _ _ => rfl)) (pa_cons (pe_ix ix_tup (pe_call W.G2 r10 (by rfl) W.g2 W.k2 W.b2 .nil pass0 (pa_cons (pv 2) (pa_cons pe_int (pa_cons (pe_lst (pa_cons pe_int pa_nil)) pa_nil)))) pe_int (fun _ _ => rfl)) pa_nil)) (by rfl)) <|
        C8.pss_cut (ps_for PassesOwn.never rfl (pi_list (pe_op op_cat (pe_call W.G3 r7 (by rfl) W.g3 W.k3 W.b3 .nil pass0 (pa_cons (pv 3) (pa_cons (pv 5) (pa_cons (pv 7) (pa_cons (pv 8) pa_nil))))) (pe_call W.G4 r7 (by rfl) W.g4 W.k4 W.b4 .nil pass0 (pa_cons (pv 3) (pa_cons (pv 5) pa_nil))))) (pg_tup rfl (pgs_cons (pg_name (i := 9) scLaw.nd rfl (.inl rfl)) (pgs_cons (pg_name (i := 10) scLaw.nd rfl (.inl rfl)) pgs_nil))) (pss_one (ps_if (pt_not (pt_val (pe_call W.G5 r9 (by rfl) W.g5 W.k5 W.b5 .nil pass0 (pa_cons (pv 9) (pa_cons (pv 10) pa_nil))))) (pss_one (ps_ret pe_bl)) pss_nil))) <|
        C8.pss_cut (ps_for PassesOwn.never rfl (pi_list (pe_lst (pa_cons pe_non (pa_cons pe_str (pa_cons pe_str (pa_cons pe_str (pa_cons pe_str (pa_cons pe_str (pa_cons (pe_lst pa_nil) (pa_cons (pe_lst (pa_cons pe_non pa_nil)) (pa_cons (pe_lst (pa_cons (pe_lst pa_nil) pa_nil)) (pa_cons (pe_lst (pa_cons pe_str (pa_cons pe_str pa_nil))) pa_nil)))))))))))) (pg_name (i := 11) scLaw.nd rfl (.inl rfl)) (pss_one (ps_if (PW.pt (pw_and (pt_val (pe_call W.G6 r11 (by rfl) W.g6 W.k6 W.b6 .nil pass0 (pa_cons (pv 4) (pa_cons (pv 11) pa_nil)))) (pw_and1 (pt_not (pt_val (pe_call W.G6 r11 (by rfl) W.g6 W.k6 W.b6 .nil pass0 (pa_cons (pv 6) (pa_cons (pv 11) pa_nil))))))))
          (pss_cons (ps_if (PW.pt (pw_or (pt_not (pt_val (pe_call W.G7 r9 (by rfl) W.g7 W.k7 W.b7 .nil pass0 (pa_cons (pv 3) (pa_cons (pv 5) (pa_cons (pv 11) pa_nil)))))) (pw_or1 (pt_not (pt_val (pe_call W.G7 r9 (by rfl) W.g7 W.k7 W.b7 .nil pass0 (pa_cons (ClX.pe_cmeth (E := E0) (pe_glob (v := .ref C) (by rfl) T.mgC rfl) L.r L.c1 L.M1 r6 pass0 (pa_cons (pv 3) pa_nil)) (pa_cons (ClX.pe_cmeth (E := E0) (pe_glob (v := .ref C) (by rfl) T.mgC rfl) L.r L.c1 L.M1 r6 pass0 (pa_cons (pv 5) pa_nil)) (pa_cons (pe_lst (pa_cons (pv 11) pa_nil)) pa_nil))))))))) (pss_one (ps_ret pe_bl)) pss_nil) <|
           pss_one (ps_if (PW.pt (pw_or (pt_not (pt_val (pe_call W.G7 r9 (by rfl) W.g7 W.k7 W.b7 .nil pass0 (pa_cons (ClX.pe_cmeth (E := E0) (pe_glob (v := .ref C) (by rfl) T.mgC rfl) L.r L.c2 L.M2 r6 pass0 (pa_cons (pv 3) pa_nil)) (pa_cons (pv 5) (pa_cons (pv 11) pa_nil)))))) (pw_or1 (pt_not (pt_val (pe_call W.G7 r9 (by rfl) W.g7 W.k7 W.b7 .nil pass0 (pa_cons (pe_op (op_own2 (E := E0) (nm := "__or__") rfl L.m2 L.sf L.I2 r6 L.d2 pass0) (pv 3) (pv 5)) (pa_cons (pv 5) (pa_cons (pv 11) pa_nil))))))))) (pss_one (ps_ret pe_bl)) pss_nil)) pss_nil))) <|
        C8.pss_cut (ps_if (PW.pt (pw_or (pt_cmpR op_ne (pe_callTy (call_boolO (E := E0) Z.mB Z.GB r8 Z.bB pass0) (by rfl) Z.gB (by decide +kernel) (pa_cons (pv 3) pa_nil)) (pe_cmpR (op_neD hu) (pe_meth0 (pv 3) T.cl W.m8 W.G8 r6 W.b8 .nil pass0) (pe_tup pa_nil) (nomark _)) (nomark _)) (pw_or1 (pt_cmpR op_ne (pe_callTy (call_boolO (E := E0) Z.mB Z.GB r8 Z.bB pass0) (by rfl) Z.gB (by decide +kernel) (pa_cons (pv 8) pa_nil)) (pe_cmpR (op_neD hu) (pe_meth0 (pv 8) T.cl W.m8 W.G8 r6 W.b8 .nil pass0) (pe_tup pa_nil) (nomark _)) (nomark _))))) (pss_one (ps_ret pe_bl)) pss_nil) <|
        pss_one (ps_for PassesOwn.never rfl (pi_list (pe_lst (pa_cons pe_non (pa_cons pe_int (pa_cons pe_str (pa_cons (pe_tup pa_nil) (pa_cons (pe_lst (pa_cons (pv 3) pa_nil)) (pa_cons pe_bl pa_nil)))))))) (pg_name (i := 12) scLaw.nd rfl (.inl rfl)) (pss_one (ps_if (PW.pt (pw_or (pt_cmpR (op_eq_thing (E := E0) Z.mE Z.GE r6 Z.bE pass0) (pv 3) (pv 12) (nomark _)) (pw_or1 (pt_cmpR (op_eq_thing (E := E0) Z.mE Z.GE r6 Z.bE pass0) (pv 8) (pv 12) (nomark _))))) (pss_one (ps_ret pe_bl)) pss_nil))))) <|
      pss_one (ps_ret pe_bl), ?_⟩
    have fit : ∀ {n : Nat}, n ≤ 20000 → n ≤ sizeLine := fun h => Nat.le_trans h (by decide)
    refine ⟨_, rfl, a0, _, rfl, .inl hS, _, _, rfl, _, _, rfl, _, rfl, ?_, ?_, ?_⟩
    · split <;> (try split) <;> omega
    · split <;> (try split) <;> omega
    refine for_range (lo := 0) (fun i σ H1 => ∃ y1 y2 y3 y4 y5 y6 y7 y8 y9 y10 y11 y12, σ = [some (.ref a0), y1, y2, y3, y4, y5, y6, y7, y8, y9, y10, y11, y12] ∧ ExtN H H1 ∧ TabS H1 T1 lamQ) ⟨_, _, _, _, _, _, _, _, _, _, _, _, rfl, ExtN.refl H, hT⟩ ?_ ?_
    · rintro i σ H1 hi ⟨y1, y2, y3, y4, y5, y6, y7, y8, y9, y10, y11, y12, rfl, xm, tm⟩
      have e0 : (0 : Int) + (i : Int) = (i : Int) := by omega
      rw [e0]
      refine ⟨_, rfl, _, rfl, a0, ns, i, rfl, sqL_extN xm hS, hn, fun H2 B s2 nB bag => ?_⟩
      have x2 := xm.trans (ExtN.of s2)
      have tab2 := tm.ext s2
      have nBt : ∀ {G : Hp} {t : Addr} {xs : List V}, BagAt G B → G t = some (.tup xs) → t ∉ [B] := fun ⟨c1, c2, e⟩ h z => by
        rw [List.mem_singleton.mp z, e] at h
        cases h
      -- two shapes
      refine ⟨fun σ' G' => ∃ (xa xb : Addr) (ua ub : V) (ga gb : List Sg) (na nb : Nd), σ' = [some (.ref a0), some (.int i), some (.ref B), some (.ref xa), some ua, some (.ref xb), some ub, y7, y8, y9, y10, y11, y12] ∧ KpS [B] H2 G' ∧ BagAt G' B ∧ Dr K C B G' xa ua ga na ∧ Dr K C B G' xb ub gb nb ∧ (na.deep ≤ 1 ∧ nb.deep ≤ 1) ∧ (ga.length ≤ 3 ∧ gb.length ≤ 3) ∧ asksN ga ≤ 0 ∧ asksN gb ≤ 0, ?_, ?_⟩
      · refine ⟨_, rfl, (by show 1 ≤ sizeLine; decide), fun l1 nl1 => draw (deep := 1) (left := 0) (E := E0) bag nl1 (by decide) (by decide) fun G3 t1 xa ua ga na k3 b3 e3 da d1 z1 a1 => ?_⟩
        refine ⟨_, rfl, (by show 1 ≤ sizeLine; decide), fun l2 nl2 => draw (deep := 1) (left := 0) (E := E0) b3 nl2 (by decide) (by decide) fun G4 t2 xb ub gb nb k4 b4 e4 db d2 z2 a2 => ⟨(by show 2 ≤ sizeLine; decide), fun t nt => ?_⟩⟩
        have st := same_upd (o := .tup [.ref t1, .ref t2]) nt
        have kt : KpS [B] G4 (upd G4 t (.tup [.ref t1, .ref t2])) := KpS.of st
        refine ⟨t, _, rfl, .inl (.inl upd_same), rfl, _, _, rfl, t1, _, rfl, .inl (.inl (st _ _ (k4 _ _ (nBt b3 e3) e3))), rfl, _, _, rfl, _, _, rfl, rfl, _, _, rfl, t2, _, rfl, .inl (.inl (st _ _ e4)), rfl, _, _, rfl, _, _, rfl, rfl, rfl, ?_⟩
        exact ⟨xa, xb, ua, ub, ga, gb, na, nb, rfl, k3.trans (k4.trans kt), TX.bag_same b4 st, da.up (k4.trans kt), db.up kt, ⟨d1, d2⟩, ⟨by omega, by omega⟩, a1, a2⟩
      rintro σ' G2 ⟨xa, xb, ua, ub, ga, gb, na, nb, rfl, k2, b2, da, db, dd, zz, aa, ab⟩
      -- two more
      refine ⟨fun σ' G' => ∃ (xc xd : Addr) (uc ud : V) (gc gd : List Sg) (nc nd : Nd), σ' = [some (.ref a0), some (.int i), some (.ref B), some (.ref xa), some ua, some (.ref xb), some ub, some (.ref xc), some (.ref xd), y9, y10, y11, y12] ∧ KpS [B] H2 G' ∧ Dr K C B G' xa ua ga na ∧ Dr K C B G' xb ub gb nb ∧ Dr K C B G' xc uc gc nc ∧ Dr K C B G' xd ud gd nd ∧ gc.length ≤ 3 ∧ gd.length ≤ 7 ∧ asksN gc ≤ 0 ∧ asksN gd ≤ 1, ?_, ?_⟩
      · refine ⟨_, rfl, (by show 1 ≤ sizeLine; decide), fun l1 nl1 => draw (deep := 1) (left := 0) (E := E0) b2 nl1 (by decide) (by decide) fun G3 t1 xc uc gc nc k3 b3 e3 dc d1 z1 a1 => ⟨t1, _, 0, .ref xc, rfl, rfl, .inl (.inl e3), rfl, ?_⟩⟩
        refine ⟨_, rfl, (by show 1 ≤ sizeLine; decide), fun l2 nl2 => draw (deep := 2) (left := 1) (E := E0) b3 nl2 (by decide) (by decide) fun G4 t2 xd ud gd nd k4 b4 e4 d0 d2 z2 a2 => ⟨t2, _, 0, .ref xd, rfl, rfl, .inl (.inl e4), rfl, _, _, rfl, ?_⟩⟩
        exact ⟨xc, xd, uc, ud, gc, gd, nc, nd, rfl, k2.trans (k3.trans k4), da.up (k3.trans k4), db.up (k3.trans k4), dc.up k4, d0, by omega, by omega, a1, a2⟩
      clear da db k2 b2
      rintro σ' G5 ⟨xc, xd, uc, ud, gc, gd, nc, nd, rfl, k5, da, db, dc, d0, zc, zd, ac, ad⟩
      have x5 : ExtN H G5 := ext_keep2 x2 (fun b hb => by
        cases List.mem_singleton.mp hb
        exact keep_fresh xm nB) k5
      have tab5 : TabS G5 T1 lamQ := KeepX.tab (fun b o e a c => k5 b o (fun z => by
        cases List.mem_singleton.mp z
        obtain ⟨c1, c2, e2⟩ := bag
        rw [e] at e2
        exact a _ (Option.some.inj e2)) e) tab2
      have Sa : Sv K C G5 xa (lastP ga) 3 0 := ⟨ga, da.sh.up cutS_sub, da.sn.ne, zz.1, aa, rfl⟩
      have Sb : Sv K C G5 xb (lastP gb) 3 0 := ⟨gb, db.sh.up cutS_sub, db.sn.ne, zz.2, ab, rfl⟩
      have Sc : Sv K C G5 xc (lastP gc) 3 0 := ⟨gc, dc.sh.up cutS_sub, dc.sn.ne, zc, ac, rfl⟩
      have Sd : Sv K C G5 xd (lastP gd) 7 1 := ⟨gd, d0.sh.up cutS_sub, d0.sn.ne, zd, ad, rfl⟩
      have ua5 := dp_same cutS_sub _ _ da.dn
      have ub5 := dp_same cutS_sub _ _ db.dn
      -- the pairs
      refine ⟨fun σ' G' => ∃ y9 y10, σ' = [some (.ref a0), some (.int i), some (.ref B), some (.ref xa), some ua, some (.ref xb), some ub, some (.ref xc), some (.ref xd), y9, y10, y11, y12] ∧ ExtN G5 G' ∧ TabS G' T1 lamQ, ?_, ?_⟩
      · refine ⟨_, rfl, _, rfl, _, rfl, _, rfl, xa, xb, xc, xd, _, _, _, _, rfl, Sa, Sb, Sc, Sd, fun G6 l1 ts1 s6 e6 z6 h6 => ⟨_, rfl, _, rfl, xa, xb, _, _, rfl, Sa.up s6, Sb.up s6, fun G7 l2 ts2 s7 e7 z7 h7 => ⟨l1, l2, ts1, ts2, rfl, rfl, s7 _ _ e6, e7, by rw [z6, z7]; decide, fun l3 nl3 => ⟨l3, rfl, ⟨_, SqL.of upd_same⟩, ?_⟩⟩⟩⟩
        have s8 := same_upd (o := .lst (ts1 ++ ts2)) nl3
        have f8 := upd_same (H := G7) (a := l3) (o := .lst (ts1 ++ ts2))
        generalize upd G7 l3 (.lst (ts1 ++ ts2)) = G8 at *
        have ps : ∀ v ∈ ts1 ++ ts2, Eq2 K C G8 v := fun v hv => by
          rcases List.mem_append.mp hv with z | z
          · exact (h6 v z).up (s7.trans s8)
          · exact (h7 v z).up s8
        have s58 := s6.trans (s7.trans s8)
        refine for_list (K := K) (a := l3) (xs := ts1 ++ ts2) (fun j σ G' => ∃ y9 y10, σ = [some (.ref a0), some (.int i), some (.ref B), some (.ref xa), some ua, some (.ref xb), some ub, some (.ref xc), some (.ref xd), y9, y10, y11, y12] ∧ ExtN G8 G' ∧ TabS G' T1 lamQ) ⟨_, _, rfl, ExtN.refl G8, tab5.ext s58⟩ (fun j σ G' _ ⟨_, _, _, e, _⟩ => SqL.of (e _ _ f8 fun _ z => nomatch z)) ?_ ?_
        · rintro j v σ G' hv ⟨y9, y10, rfl, e, tG⟩
          obtain ⟨t, x, y, p, q', n, k, m, j', rfl, et, vx, vy, he, hn1, hm1, hk1⟩ := ps v (List.mem_of_getElem? hv)
          refine ⟨t, _, rfl, .inl (.inl (e _ _ et fun _ z => nomatch z)), rfl, _, _, rfl, _, _, rfl, rfl, ?_⟩
          refine ⟨_, rfl, _, rfl, x, y, p, q', n, k, m, j', noT G8, rfl, noT_no.on noT_sub e, noT_no, vx.extN ext_noT, vy.extN ext_noT, he, hn1, hm1, hk1, tG, fun G9 e9 t9 => ⟨_, rfl, ?_⟩⟩
          exact ⟨_, _, rfl, e.trans e9, t9⟩
        · rintro σ' G' ⟨y9, y10, rfl, e, tG⟩
          exact ⟨_, _, rfl, (ExtN.of s58).trans e, tG⟩
      rintro σ' G6 ⟨z9, z10, rfl, x6, tab6⟩
      -- values that tell them apart
      refine ⟨fun σ' G' => ∃ y11, σ' = [some (.ref a0), some (.int i), some (.ref B), some (.ref xa), some ua, some (.ref xb), some ub, some (.ref xc), some (.ref xd), z9, z10, y11, y12] ∧ ExtN G5 G' ∧ TabS G' T1 lamQ, ?_, ?_⟩
      · refine ⟨(by show 0 ≤ sizeLine; decide), fun e1 n1 => ⟨(by show 1 ≤ sizeLine; decide), fun e2 n2 => ⟨(by show 0 ≤ sizeLine; decide), fun e3 n3 => ⟨(by show 1 ≤ sizeLine; decide), fun e4 n4 => ⟨(by show 2 ≤ sizeLine; decide), fun e5 n5 => ⟨(by show 10 ≤ sizeLine; decide), fun l nl => ⟨l, rfl, ⟨_, SqL.of upd_same⟩, ?_⟩⟩⟩⟩⟩⟩⟩
        have b1 := same_upd (o := .lst []) n1
        have f1 := upd_same (H := G6) (a := e1) (o := .lst [])
        generalize upd G6 e1 (.lst []) = B1 at *
        have b2 := same_upd (o := .lst [.non]) n2
        have f2 := upd_same (H := B1) (a := e2) (o := .lst [.non])
        generalize upd B1 e2 (.lst [.non]) = B2 at *
        have b3 := same_upd (o := .lst []) n3
        have f3 := upd_same (H := B2) (a := e3) (o := .lst [])
        generalize upd B2 e3 (.lst []) = B3 at *
        have b4 := same_upd (o := .lst [.ref e3]) n4
        have f4 := upd_same (H := B3) (a := e4) (o := .lst [.ref e3])
        generalize upd B3 e4 (.lst [.ref e3]) = B4 at *
        have b5 := same_upd (o := .lst [.str "a", .str "bcd"]) n5
        have f5 := upd_same (H := B4) (a := e5) (o := .lst [.str "a", .str "bcd"])
        generalize upd B4 e5 (.lst [.str "a", .str "bcd"]) = B5 at *
        have b6 := same_upd (o := .lst [.non, .str "", .str "a", .str "ab", .str "abc", .str "abcd", .ref e1, .ref e2, .ref e4, .ref e5]) nl
        have f6 := upd_same (H := B5) (a := l) (o := .lst [.non, .str "", .str "a", .str "ab", .str "abc", .str "abcd", .ref e1, .ref e2, .ref e4, .ref e5])
        generalize upd B5 l (.lst [.non, .str "", .str "a", .str "ab", .str "abc", .str "abcd", .ref e1, .ref e2, .ref e4, .ref e5]) = G7 at *
        have t5 := b5.trans b6
        have t4 := b4.trans t5
        have t3 := b3.trans t4
        have t2 := b2.trans t3
        have t1 := b1.trans t2
        have dl : DpAll K G7 [.non, .str "", .str "a", .str "ab", .str "abc", .str "abcd", .ref e1, .ref e2, .ref e4, .ref e5] litW := .cons .non (.cons (.str _) (.cons (.str _) (.cons (.str _) (.cons (.str _) (.cons (.str _) (.cons (.lst (SqL.of (t2 _ _ f1)) .nil) (.cons (.lst (SqL.of (t3 _ _ f2)) (.cons .non .nil)) (.cons (.lst (SqL.of (t5 _ _ f4)) (.cons (.lst (SqL.of (t4 _ _ f3)) .nil) .nil)) (.cons (.lst (SqL.of (b6 _ _ f5)) (.cons (.str _) (.cons (.str _) .nil))) .nil)))))))))
        have x7 : ExtN G5 G7 := x6.trans (ExtN.of t1)
        refine for_list (K := K) (a := l) (xs := [.non, .str "", .str "a", .str "ab", .str "abc", .str "abcd", .ref e1, .ref e2, .ref e4, .ref e5]) (fun j σ G' => ∃ y11, σ = [some (.ref a0), some (.int i), some (.ref B), some (.ref xa), some ua, some (.ref xb), some ub, some (.ref xc), some (.ref xd), z9, z10, y11, y12] ∧ ExtN G7 G' ∧ TabS G' T1 lamQ) ⟨_, rfl, ExtN.refl G7, tab6.ext t1⟩ (fun j σ G' _ ⟨_, _, e, _⟩ => SqL.of (e _ _ f6 fun _ z => nomatch z)) ?_ ?_
        · rintro j v σ G' hv ⟨y11, rfl, e, tG⟩
          obtain ⟨d, hd, dv0⟩ := DpAll.at_ dl hv
          obtain ⟨kd, kd2, ddp⟩ := litW_k d (List.mem_of_getElem? hd)
          have ask := kd.ask
          have vd := ask.val
          have eG := x7.trans e
          have dd1 := dd.1
          have dd2 := dd.2
          have dv := dp_extN e _ _ dv0
          refine ⟨_, rfl, _, rfl, ua, na, v, d, rfl, dp_extN eG _ _ ua5, dv, ask, by omega, fun G8 s8 => ⟨_, rfl, ?_⟩⟩
          have e8 := e.trans (ExtN.of s8)
          have t8 := tG.ext s8
          cases hA : na.has d with
          | false => exact iteF (iteF ⟨_, rfl, e8, t8⟩)
          | true =>
          refine iteT ?_
          refine ⟨_, rfl, _, rfl, ub, nb, v, d, rfl, dp_extN (x7.trans e8) _ _ ub5, dp_same s8 _ _ dv, ask, by omega, fun G9 s9 => ⟨_, rfl, ?_⟩⟩
          have e9 := e8.trans (ExtN.of s9)
          have t9 := t8.ext s9
          cases hB : nb.has d with
          | true => exact iteF ⟨_, rfl, e9, t9⟩
          | false =>
          refine iteT ?_
          have pA : lastP ga d = true := (da.sn.last d vd ask.bd).trans hA
          have pB : lastP gb d = false := (db.sn.last d vd ask.bd).trans hB
          have dv9 := dp_same s9 _ _ (dp_same s8 _ _ dv)
          have Sa9 := Sa.extN (x7.trans e9)
          have Sb9 := Sb.extN (x7.trans e9)
          refine ⟨_, rfl, _, rfl, _, rfl, xa, xb, v, d, _, _, 3, 0, 3, 0, noT G9, rfl, noT_sub, noT_no, Sa9.extN ext_noT, Sb9.extN ext_noT, dp_extN ext_noT _ _ dv9, ask, pA, pB, by decide, by decide, by decide, t9, fun G10 x10 t10 => ⟨_, rfl, iteF ?_⟩⟩
          have Sa10 := Sa9.extN x10
          have Sb10 := Sb9.extN x10
          have dv10 := dp_extN x10 _ _ dv9
          refine ev_lists (K := K) (C := C) (ev_var (i := 3) rfl Sa10) (by decide) (by decide) G10 _ (Same.refl _) fun G11 x1 s11 v1 => ?_
          refine ev_lists (K := K) (C := C) (ev_var (i := 5) rfl (Sb10.up s11)) (by decide) (by decide) G11 _ (Same.refl _) fun G12 x2 s12 v2 => ?_
          refine ⟨_, rfl, (by show 1 ≤ sizeLine; decide), fun l2 nl2 => ?_⟩
          have s13 := same_upd (o := .lst [v]) nl2
          have f13 := upd_same (H := G12) (a := l2) (o := .lst [v])
          generalize upd G12 l2 (.lst [v]) = G13 at *
          have sx := s11.trans (s12.trans s13)
          have t13 := t10.ext sx
          refine ⟨x1, x2, .ref l2, .list [d], _, _, _, _, _, _, noT G13, rfl, noT_sub, noT_no, (v1.up (s12.trans s13)).extN ext_noT, (v2.up s13).extN ext_noT, dp_extN ext_noT _ _ (.lst (SqL.of f13) (.cons (dp_same sx _ _ dv10) .nil)), kd2.ask, ?_, ?_, by decide, by decide, by decide, t13, fun G14 x14 t14 => ⟨_, rfl, iteF ?_⟩⟩
          · show ([d].all (lastP ga)) = true
            simp [pA]
          · show ([d].all (lastP gb)) = false
            simp [pB]
          have Sa14 := (Sa10.up sx).extN x14
          have Sb14 := (Sb10.up sx).extN x14
          have dv14 := dp_extN x14 _ _ (dp_same sx _ _ dv10)
          have e14 := e9.trans (x10.trans ((ExtN.of sx).trans x14))
          refine ev_nested (K := K) (C := C) (ev_var (i := 3) rfl Sa14) (by decide) (by decide) G14 _ (Same.refl _) fun G15 x3 s15 v3 => ?_
          refine ⟨_, rfl, _, rfl, x3, xb, v, d, _, _, _, _, _, _, noT G15, rfl, noT_sub, noT_no, v3.extN ext_noT, (Sb14.up s15).extN ext_noT, dp_extN ext_noT _ _ (dp_same s15 _ _ dv14), ask, by rw [nest_eq, pA]; rfl, pB, by decide, by decide, by decide, t14.ext s15, fun G16 x16 t16 => ⟨_, rfl, iteF ?_⟩⟩
          have Sa16 := (Sa14.up s15).extN x16
          have Sb16 := (Sb14.up s15).extN x16
          have dv16 := dp_extN x16 _ _ (dp_same s15 _ _ dv14)
          refine ev_bin (op := fun a b => a || b) (K := K) (C := C) (ev_var (i := 3) rfl Sa16) (ev_var (i := 5) rfl Sb16) (by decide) (by decide) (by decide) G16 _ (Same.refl _) fun G17 x4 s17 v4 => ?_
          refine ⟨_, rfl, _, rfl, x4, xb, v, d, _, _, _, _, _, _, noT G17, rfl, noT_sub, noT_no, v4.extN ext_noT, (Sb16.up s17).extN ext_noT, dp_extN ext_noT _ _ (dp_same s17 _ _ dv16), ask, by show (lastP ga d || lastP gb d) = true; rw [pA]; rfl, pB, by decide, by decide, by decide, t16.ext s17, fun G18 x18 t18 => ⟨_, rfl, iteF ?_⟩⟩
          exact ⟨_, rfl, e14.trans ((ExtN.of s15).trans (x16.trans ((ExtN.of s17).trans x18))), t18⟩
        · rintro σ' G' ⟨y11, rfl, e, tG⟩
          exact ⟨_, rfl, x7.trans e, tG⟩
      clear x6 tab6 G6
      rintro σ' G6 ⟨z11, rfl, x6, tab6⟩
      -- whether there is a value, and the least one
      refine ⟨fun σ' G' => σ' = [some (.ref a0), some (.int i), some (.ref B), some (.ref xa), some ua, some (.ref xb), some ub, some (.ref xc), some (.ref xd), z9, z10, z11, y12] ∧ ExtN G5 G' ∧ TabS G' T1 lamQ, ?_, ?_⟩
      · have zz1 := zz.1
        have sh1 := (da.sh.up cutS_sub).extN (x6)
        have sq1 : Same (noT G6) G6 := noT_sub
        obtain ⟨dx1, rc1, pl1, ex1⟩ := sh_insF (sh1.extN ext_noT)
        refine ⟨_, rfl, xa, dx1, _, rfl, sq1 _ _ ex1, xa, ga, noT G6, rfl, sq1, sh1.extN ext_noT, da.sn.ne, by omega, by omega, tab6, fun P1 b1 eb1 tb1 hf1 ht1 => ⟨b1, rfl, ?_⟩⟩
        have sr1 := noT_no.on sq1 eb1
        refine ⟨_, rfl, xa, dx1, _, rfl, sr1 _ _ ex1, rfl, xa, ga, noT G6, rfl, sr1, sh1.extN ext_noT, da.sn.ne, by omega, by omega, tb1, fun h01 Q1 R1 v1 u1 tq1 s1 dv1 => ?_, fun d1 vd1 ld1 mn1 sd1 Q1 R1 v1 u1 tq1 s1 dv1 => ?_⟩
        · have eb : b1 = false := by
            cases b1 with
            | false => rfl
            | true =>
              obtain ⟨d, vd, ld, _⟩ := ht1 rfl
              rw [h01 d vd] at ld
              cases ld
          subst eb
          refine ⟨Nat.zero_le _, fun em1 nm1 => ?_⟩
          have su1 := same_upd (o := .tup []) nm1
          refine ⟨_, _, dp_same su1 _ _ (dp_same newp_same _ _ dv1), .tup (SqT.of upd_same) .nil, (by decide +kernel), (by decide +kernel), rfl, _, rfl, ?_⟩
          rw [eqv_tup_nil]
          have ek1 : ExtN G5 _ := (x6).trans (eb1.trans (u1.trans (ExtN.of (s1.trans su1))))
          have tk1 := tq1.ext (s1.trans su1)
          generalize upd R1 em1 (.tup []) = K1 at *
          refine iteF ?_
          have sh2 := (d0.sh.up cutS_sub).extN (ek1)
          have sq2 : Same (noT K1) K1 := noT_sub
          obtain ⟨dx2, rc2, pl2, ex2⟩ := sh_insF (sh2.extN ext_noT)
          refine ⟨_, rfl, xd, dx2, _, rfl, sq2 _ _ ex2, xd, gd, noT K1, rfl, sq2, sh2.extN ext_noT, d0.sn.ne, by omega, by omega, tk1, fun P2 b2 eb2 tb2 hf2 ht2 => ⟨b2, rfl, ?_⟩⟩
          have sr2 := noT_no.on sq2 eb2
          refine ⟨_, rfl, xd, dx2, _, rfl, sr2 _ _ ex2, rfl, xd, gd, noT K1, rfl, sr2, sh2.extN ext_noT, d0.sn.ne, by omega, by omega, tb2, fun h02 Q2 R2 v2 u2 tq2 s2 dv2 => ?_, fun d2 vd2 ld2 mn2 sd2 Q2 R2 v2 u2 tq2 s2 dv2 => ?_⟩
          · have eb : b2 = false := by
              cases b2 with
              | false => rfl
              | true =>
                obtain ⟨d, vd, ld, _⟩ := ht2 rfl
                rw [h02 d vd] at ld
                cases ld
            subst eb
            refine ⟨Nat.zero_le _, fun em2 nm2 => ?_⟩
            have su2 := same_upd (o := .tup []) nm2
            refine ⟨_, _, dp_same su2 _ _ (dp_same newp_same _ _ dv2), .tup (SqT.of upd_same) .nil, (by decide +kernel), (by decide +kernel), rfl, _, rfl, ?_⟩
            rw [eqv_tup_nil]
            have ek2 : ExtN G5 _ := (ek1).trans (eb2.trans (u2.trans (ExtN.of (s2.trans su2))))
            have tk2 := tq2.ext (s2.trans su2)
            generalize upd R2 em2 (.tup []) = K2 at *
            exact iteF ⟨rfl, ek2, tk2⟩
          · have eb : b2 = true := by
              cases b2 with
              | true => rfl
              | false =>
                have := hf2 rfl d2 vd2
                rw [ld2] at this
                cases this
            subst eb
            refine ⟨Nat.zero_le _, fun em2 nm2 => ?_⟩
            have su2 := same_upd (o := .tup []) nm2
            refine ⟨_, _, dp_same su2 _ _ (dp_same newp_same _ _ dv2), .tup (SqT.of upd_same) .nil, (by exact shaped_tup vd2 (by have := sd2.2; omega)), (by decide +kernel), rfl, _, rfl, ?_⟩
            rw [eqv_tup_nil]
            have ek2 : ExtN G5 _ := (ek1).trans (eb2.trans (u2.trans (ExtN.of (s2.trans su2))))
            have tk2 := tq2.ext (s2.trans su2)
            generalize upd R2 em2 (.tup []) = K2 at *
            exact iteF ⟨rfl, ek2, tk2⟩
        · have eb : b1 = true := by
            cases b1 with
            | true => rfl
            | false =>
              have := hf1 rfl d1 vd1
              rw [ld1] at this
              cases this
          subst eb
          refine ⟨Nat.zero_le _, fun em1 nm1 => ?_⟩
          have su1 := same_upd (o := .tup []) nm1
          refine ⟨_, _, dp_same su1 _ _ (dp_same newp_same _ _ dv1), .tup (SqT.of upd_same) .nil, (by exact shaped_tup vd1 (by have := sd1.2; omega)), (by decide +kernel), rfl, _, rfl, ?_⟩
          rw [eqv_tup_nil]
          have ek1 : ExtN G5 _ := (x6).trans (eb1.trans (u1.trans (ExtN.of (s1.trans su1))))
          have tk1 := tq1.ext (s1.trans su1)
          generalize upd R1 em1 (.tup []) = K1 at *
          refine iteF ?_
          have sh2 := (d0.sh.up cutS_sub).extN (ek1)
          have sq2 : Same (noT K1) K1 := noT_sub
          obtain ⟨dx2, rc2, pl2, ex2⟩ := sh_insF (sh2.extN ext_noT)
          refine ⟨_, rfl, xd, dx2, _, rfl, sq2 _ _ ex2, xd, gd, noT K1, rfl, sq2, sh2.extN ext_noT, d0.sn.ne, by omega, by omega, tk1, fun P2 b2 eb2 tb2 hf2 ht2 => ⟨b2, rfl, ?_⟩⟩
          have sr2 := noT_no.on sq2 eb2
          refine ⟨_, rfl, xd, dx2, _, rfl, sr2 _ _ ex2, rfl, xd, gd, noT K1, rfl, sr2, sh2.extN ext_noT, d0.sn.ne, by omega, by omega, tb2, fun h02 Q2 R2 v2 u2 tq2 s2 dv2 => ?_, fun d2 vd2 ld2 mn2 sd2 Q2 R2 v2 u2 tq2 s2 dv2 => ?_⟩
          · have eb : b2 = false := by
              cases b2 with
              | false => rfl
              | true =>
                obtain ⟨d, vd, ld, _⟩ := ht2 rfl
                rw [h02 d vd] at ld
                cases ld
            subst eb
            refine ⟨Nat.zero_le _, fun em2 nm2 => ?_⟩
            have su2 := same_upd (o := .tup []) nm2
            refine ⟨_, _, dp_same su2 _ _ (dp_same newp_same _ _ dv2), .tup (SqT.of upd_same) .nil, (by decide +kernel), (by decide +kernel), rfl, _, rfl, ?_⟩
            rw [eqv_tup_nil]
            have ek2 : ExtN G5 _ := (ek1).trans (eb2.trans (u2.trans (ExtN.of (s2.trans su2))))
            have tk2 := tq2.ext (s2.trans su2)
            generalize upd R2 em2 (.tup []) = K2 at *
            exact iteF ⟨rfl, ek2, tk2⟩
          · have eb : b2 = true := by
              cases b2 with
              | true => rfl
              | false =>
                have := hf2 rfl d2 vd2
                rw [ld2] at this
                cases this
            subst eb
            refine ⟨Nat.zero_le _, fun em2 nm2 => ?_⟩
            have su2 := same_upd (o := .tup []) nm2
            refine ⟨_, _, dp_same su2 _ _ (dp_same newp_same _ _ dv2), .tup (SqT.of upd_same) .nil, (by exact shaped_tup vd2 (by have := sd2.2; omega)), (by decide +kernel), rfl, _, rfl, ?_⟩
            rw [eqv_tup_nil]
            have ek2 : ExtN G5 _ := (ek1).trans (eb2.trans (u2.trans (ExtN.of (s2.trans su2))))
            have tk2 := tq2.ext (s2.trans su2)
            generalize upd R2 em2 (.tup []) = K2 at *
            exact iteF ⟨rfl, ek2, tk2⟩

      clear x6 tab6 G6
      rintro σ' G6 ⟨rfl, x6, tab6⟩
      -- no shape is a thing of another type
      refine ⟨Nat.zero_le _, fun e1 n1 => ⟨_, rfl, (by show 1 ≤ sizeLine; decide), fun e2 n2 => ⟨(by show 6 ≤ sizeLine; decide), fun l nl => ⟨l, rfl, ⟨_, SqL.of upd_same⟩, ?_⟩⟩⟩⟩
      have b1 := same_upd (o := .tup []) n1
      have f1 := upd_same (H := G6) (a := e1) (o := .tup [])
      generalize upd G6 e1 (.tup []) = B1 at *
      have b2 := same_upd (o := .lst [.ref xa]) n2
      have f2 := upd_same (H := B1) (a := e2) (o := .lst [.ref xa])
      generalize upd B1 e2 (.lst [.ref xa]) = B2 at *
      have b3 := same_upd (o := .lst [.non, .int 0, .str "", .ref e1, .ref e2, .bl true]) nl
      have f3 := upd_same (H := B2) (a := l) (o := .lst [.non, .int 0, .str "", .ref e1, .ref e2, .bl true])
      generalize upd B2 l (.lst [.non, .int 0, .str "", .ref e1, .ref e2, .bl true]) = G7 at *
      have x7 : ExtN G5 G7 := x6.trans (ExtN.of (b1.trans (b2.trans b3)))
      have g1 : ∀ {G : Hp}, ExtN G7 G → G e1 = some (.tup []) := fun e => e _ _ ((b2.trans b3) _ _ f1) fun _ z => nomatch z
      have g2 : ∀ {G : Hp}, ExtN G7 G → G e2 = some (.lst [.ref xa]) := fun e => e _ _ (b3 _ _ f2) fun _ z => nomatch z
      have th : ∀ {G : Hp} {v : V}, ExtN G7 G → v ∈ [V.non, .int 0, .str "", .ref e1, .ref e2, .bl true] → ∃ t, Thing K G v t := fun e hv => by
        simp only [List.mem_cons, List.not_mem_nil, or_false] at hv
        rcases hv with rfl | rfl | rfl | rfl | rfl | rfl
        · exact ⟨_, .non⟩
        · exact ⟨_, .int 0⟩
        · exact ⟨_, .str ""⟩
        · exact ⟨_, .tup (g1 e)⟩
        · exact ⟨_, .lst (g2 e)⟩
        · exact ⟨_, .bl true⟩
      obtain ⟨da', ra, pa', exa⟩ := sh_insF (da.sh.up cutS_sub)
      obtain ⟨dd', rd, pd', exd⟩ := sh_insF (d0.sh.up cutS_sub)
      refine for_list (K := K) (a := l) (xs := [V.non, .int 0, .str "", .ref e1, .ref e2, .bl true]) (fun j σ G' => ∃ y12, σ = [some (.ref a0), some (.int i), some (.ref B), some (.ref xa), some ua, some (.ref xb), some ub, some (.ref xc), some (.ref xd), z9, z10, z11, y12] ∧ ExtN G7 G' ∧ TabS G' T1 lamQ) ⟨_, rfl, ExtN.refl G7, tab6.ext (b1.trans (b2.trans b3))⟩ (fun j σ G' _ ⟨_, _, e, _⟩ => SqL.of (e _ _ f3 fun _ z => nomatch z)) ?_ ?_
      · rintro j v σ G' hv ⟨y12, rfl, e, tG⟩
        obtain ⟨t, ht⟩ := th e (List.mem_of_getElem? hv)
        have hm := thing_t ht
        have nf : PySem.W.notFirst K C (.type t) = true := by
          show ((Value.type t == Value.ref C) || (PySem.W.subIn K (.type t) (.ref C) == some false)) = true
          rw [O.o t hm]
          simp
        have eG := x7.trans e
        refine ⟨_, rfl, _, rfl, t, ht, nf, xa, da', _, rfl, eG _ _ exa (fun _ z => nomatch z), .inr ⟨xa, v, .type t, rfl, .base ht.ty, O.k t hm, ?_⟩⟩
        refine ⟨_, rfl, iteF ?_⟩
        refine ⟨_, rfl, _, rfl, t, ht, nf, xd, dd', _, rfl, eG _ _ exd (fun _ z => nomatch z), .inr ⟨xd, v, .type t, rfl, .base ht.ty, O.k t hm, ?_⟩⟩
        exact ⟨_, rfl, iteF ⟨_, rfl, e, tG⟩⟩
      · rintro σ' G' ⟨y12, rfl, e, tG⟩
        exact ⟨_, _, _, _, _, _, _, _, _, _, _, _, rfl, x5.trans (x7.trans e), tG⟩
    · rintro σ' H1 ⟨y1, y2, y3, y4, y5, y6, y7, y8, y9, y10, y11, y12, rfl, xm, tm⟩
      exact q H1
end
end TX
namespace TX
open PySem PySem.Spec PyProof.Rows L2
theorem kit_self {K : PySem.W.Frag} {C : Addr} : PySem.W.kitOne K (.ref C) (.ref C) = some true := by
  unfold PySem.W.kitOne
  rw [beq_self_eq_true, if_pos rfl]
theorem kit_of {K : PySem.W.Frag} {C : Addr} {T : String} {b : Bool} (hd : PySem.W.hasDictIn K C = true) (ty : PySem.W.typeIn K (.ref C) = some (.type "type")) (hs : PySem.W.subIn K (.type T) (.ref C) = some b) : PySem.W.kitOne K (.type T) (.ref C) = some b := by
  have hne : (Value.type T == Value.ref C) = false := rfl
  have e2 : ((PySem.W.clsIn K C).isSome && PySem.W.typeIn K (.ref C) == some (.type "type")) = true := by
    rw [clsSome hd, ty]
    rfl
  unfold PySem.W.kitOne
  rw [hne, if_neg Bool.false_ne_true]
  show (if ((PySem.W.clsIn K C).isSome && PySem.W.typeIn K (.ref C) == some (.type "type")) = true then PySem.W.subIn K (.type T) (.ref C) else none) = _
  rw [if_pos e2, hs]
theorem all_mk {l : PySem.W.OpenLaw} {w : World} {K : PySem.W.Frag} {h : Heap} {mg : Str → Option Value} {fa f0 f1 f2 f3 f4 f5 f6 f7 f8 f9 f10 f11 f12 f13 f14 f15 f16 f17 f18 f19 f20 f21 f22 f23 f24 f25 f26 f27 f28 f29 f30 f31 f32 f33 C h0 h1 h2 h3 h4 h5 h6 h7 h8 h9 h_every h_never h_nothing h_texts h_lists h_nested : Addr} (X : K.In h) (G : h.Ns mainGlobals mg) (hfa : mg "law" = some (.ref fa))
    {od0 an0 : Option Addr} {sl0 : Array (Option Value)} {oc0 kV0 dc0 pm0 cd0 ct0 : Value}
    {od1 an1 : Option Addr} {sl1 : Array (Option Value)} {oc1 kV1 dc1 pm1 cd1 ct1 : Value}
    {od2 an2 : Option Addr} {sl2 : Array (Option Value)} {oc2 kV2 dc2 pm2 cd2 ct2 : Value}
    {od3 an3 : Option Addr} {sl3 : Array (Option Value)} {oc3 kV3 dc3 pm3 cd3 ct3 : Value}
    {od4 an4 : Option Addr} {sl4 : Array (Option Value)} {oc4 kV4 dc4 pm4 cd4 ct4 : Value}
    {od5 an5 : Option Addr} {sl5 : Array (Option Value)} {oc5 kV5 dc5 pm5 cd5 ct5 : Value}
    {od6 an6 : Option Addr} {sl6 : Array (Option Value)} {oc6 kV6 dc6 pm6 cd6 ct6 : Value}
    {od7 an7 : Option Addr} {sl7 : Array (Option Value)} {oc7 kV7 dc7 pm7 cd7 ct7 : Value}
    {od8 an8 : Option Addr} {sl8 : Array (Option Value)} {oc8 kV8 dc8 pm8 cd8 ct8 : Value}
    {od9 an9 : Option Addr} {sl9 : Array (Option Value)} {oc9 kV9 dc9 pm9 cd9 ct9 : Value}
    {od10 an10 : Option Addr} {sl10 : Array (Option Value)} {oc10 kV10 dc10 pm10 cd10 ct10 : Value}
    {od11 an11 : Option Addr} {sl11 : Array (Option Value)} {oc11 kV11 dc11 pm11 cd11 ct11 : Value}
    {od12 an12 : Option Addr} {sl12 : Array (Option Value)} {oc12 kV12 dc12 pm12 cd12 ct12 : Value}
    {od13 an13 : Option Addr} {sl13 : Array (Option Value)} {oc13 kV13 dc13 pm13 cd13 ct13 : Value}
    {od14 an14 : Option Addr} {sl14 : Array (Option Value)} {oc14 kV14 dc14 pm14 cd14 ct14 : Value}
    {od15 an15 : Option Addr} {sl15 : Array (Option Value)} {oc15 kV15 dc15 pm15 cd15 ct15 : Value}
    {od16 an16 : Option Addr} {sl16 : Array (Option Value)} {oc16 kV16 dc16 pm16 cd16 ct16 : Value}
    {od17 an17 : Option Addr} {sl17 : Array (Option Value)} {oc17 kV17 dc17 pm17 cd17 ct17 : Value}
    {od18 an18 : Option Addr} {sl18 : Array (Option Value)} {oc18 kV18 dc18 pm18 cd18 ct18 : Value}
    {od19 an19 : Option Addr} {sl19 : Array (Option Value)} {oc19 kV19 dc19 pm19 cd19 ct19 : Value}
    {od20 an20 : Option Addr} {sl20 : Array (Option Value)} {oc20 kV20 dc20 pm20 cd20 ct20 : Value}
    {od21 an21 : Option Addr} {sl21 : Array (Option Value)} {oc21 kV21 dc21 pm21 cd21 ct21 : Value}
    {od22 an22 : Option Addr} {sl22 : Array (Option Value)} {oc22 kV22 dc22 pm22 cd22 ct22 : Value}
    {od23 an23 : Option Addr} {sl23 : Array (Option Value)} {oc23 kV23 dc23 pm23 cd23 ct23 : Value}
    {od24 an24 : Option Addr} {sl24 : Array (Option Value)} {oc24 kV24 dc24 pm24 cd24 ct24 : Value}
    {od25 an25 : Option Addr} {sl25 : Array (Option Value)} {oc25 kV25 dc25 pm25 cd25 ct25 : Value}
    {od26 an26 : Option Addr} {sl26 : Array (Option Value)} {oc26 kV26 dc26 pm26 cd26 ct26 : Value}
    {od27 an27 : Option Addr} {sl27 : Array (Option Value)} {oc27 kV27 dc27 pm27 cd27 ct27 : Value}
    {od28 an28 : Option Addr} {sl28 : Array (Option Value)} {oc28 kV28 dc28 pm28 cd28 ct28 : Value}
    {od29 an29 : Option Addr} {sl29 : Array (Option Value)} {oc29 kV29 dc29 pm29 cd29 ct29 : Value}
    {od30 an30 : Option Addr} {sl30 : Array (Option Value)} {oc30 kV30 dc30 pm30 cd30 ct30 : Value}
    {od31 an31 : Option Addr} {sl31 : Array (Option Value)} {oc31 kV31 dc31 pm31 cd31 ct31 : Value}
    {od32 an32 : Option Addr} {sl32 : Array (Option Value)} {oc32 kV32 dc32 pm32 cd32 ct32 : Value}
    {od33 an33 : Option Addr} {sl33 : Array (Option Value)} {oc33 kV33 dc33 pm33 cd33 ct33 : Value}
    {tA tq0 tq1 tq2 tq3 tq4 tq5 tv0 tv1 tv2 tv3 tv4 tv5 ti0 ti1 ti2 ti3 ti4 ti5 ti6 ti7 te0 te1 te2 te3 te4 te5 tD : Tok} {pevery pnever pnothing ptexts plists pnested TD aV aI aN e1 e2 e3 e4 : Addr} {restevery restnever restnothing resttexts restlists restnested : List Value} {odlLV odlAI odlNP odlE1 odlE2 odlE3 odlE4 odlTD : Option Addr} {nlLV nlAI nlNP nlE1 nlE2 nlE3 nlE4 nlTD : Nat} {sllLV sllAI sllNP sllE1 sllE2 sllE3 sllE4 sllTD : Array (Option Value)} {cL TB : Addr} {ocL : Value} {odL : Option Addr} {vsL : Array Value} {slL : Array (Option Value)}
    {odM0 anM0 : Option Addr} {slM0 : Array (Option Value)} {ocM0 kVM0 dcM0 pmM0 cdM0 ctM0 : Value}
    {odM1 anM1 : Option Addr} {slM1 : Array (Option Value)} {ocM1 kVM1 dcM1 pmM1 cdM1 ctM1 : Value}
    {odM2 anM2 : Option Addr} {slM2 : Array (Option Value)} {ocM2 kVM2 dcM2 pmM2 cdM2 ctM2 : Value}
    {odM3 anM3 : Option Addr} {slM3 : Array (Option Value)} {ocM3 kVM3 dcM3 pmM3 cdM3 ctM3 : Value}
    {odM4 anM4 : Option Addr} {slM4 : Array (Option Value)} {ocM4 kVM4 dcM4 pmM4 cdM4 ctM4 : Value}
    {odM5 anM5 : Option Addr} {slM5 : Array (Option Value)} {ocM5 kVM5 dcM5 pmM5 cdM5 ctM5 : Value}
    {odM6 anM6 : Option Addr} {slM6 : Array (Option Value)} {ocM6 kVM6 dcM6 pmM6 cdM6 ctM6 : Value}
    {odM7 anM7 : Option Addr} {slM7 : Array (Option Value)} {ocM7 kVM7 dcM7 pmM7 cdM7 ctM7 : Value}
    {odM8 anM8 : Option Addr} {slM8 : Array (Option Value)} {ocM8 kVM8 dcM8 pmM8 cdM8 ctM8 : Value}
    {odM9 anM9 : Option Addr} {slM9 : Array (Option Value)} {ocM9 kVM9 dcM9 pmM9 cdM9 ctM9 : Value}
    {odcevery ancevery : Option Addr} {slcevery : Array (Option Value)} {occevery kVcevery dccevery pmcevery cdcevery ctcevery : Value}
    {odcnever ancnever : Option Addr} {slcnever : Array (Option Value)} {occnever kVcnever dccnever pmcnever cdcnever ctcnever : Value}
    {odcnothing ancnothing : Option Addr} {slcnothing : Array (Option Value)} {occnothing kVcnothing dccnothing pmcnothing cdcnothing ctcnothing : Value}
    {odctexts anctexts : Option Addr} {slctexts : Array (Option Value)} {occtexts kVctexts dcctexts pmctexts cdctexts ctctexts : Value}
    {odclists anclists : Option Addr} {slclists : Array (Option Value)} {occlists kVclists dcclists pmclists cdclists ctclists : Value}
    {odcnested ancnested : Option Addr} {slcnested : Array (Option Value)} {occnested kVcnested dccnested pmcnested cdcnested ctcnested : Value}
    (a0 : PySem.W.nsIn K mainGlobals "all_parts" = some (some (.ref f0)))
    (l0 : K.lookup f0 = some ⟨oc0, od0, .func (PySem.W.fnOf "all_parts" "all_parts" (defArgs sParts) (defBody sParts) (defScope sParts) .none kV0 dc0 pm0 an0 cd0 ct0), sl0⟩)
    (c0 : PySem.W.codeIn K cd0 "all_parts" = true)
    (k0 : PySem.W.keepIn K (.ref f0) = true)
    (a1 : PySem.W.nsIn K mainGlobals "row_of_texts" = some (some (.ref f1)))
    (l1 : K.lookup f1 = some ⟨oc1, od1, .func (PySem.W.fnOf "row_of_texts" "row_of_texts" (defArgs s_row_of_texts) (defBody s_row_of_texts) (defScope s_row_of_texts) .none kV1 dc1 pm1 an1 cd1 ct1), sl1⟩)
    (c1 : PySem.W.codeIn K cd1 "row_of_texts" = true)
    (k1 : PySem.W.keepIn K (.ref f1) = true)
    (a2 : PySem.W.nsIn K mainGlobals "row_of_step" = some (some (.ref f2)))
    (l2 : K.lookup f2 = some ⟨oc2, od2, .func (PySem.W.fnOf "row_of_step" "row_of_step" (defArgs s_row_of_step) (defBody s_row_of_step) (defScope s_row_of_step) .none kV2 dc2 pm2 an2 cd2 ct2), sl2⟩)
    (c2 : PySem.W.codeIn K cd2 "row_of_step" = true)
    (k2 : PySem.W.keepIn K (.ref f2) = true)
    (a3 : PySem.W.nsIn K mainGlobals "step_asked" = some (some (.ref f3)))
    (l3 : K.lookup f3 = some ⟨oc3, od3, .func (PySem.W.fnOf "step_asked" "step_asked" (defArgs s_step_asked) (defBody s_step_asked) (defScope s_step_asked) .none kV3 dc3 pm3 an3 cd3 ct3), sl3⟩)
    (c3 : PySem.W.codeIn K cd3 "step_asked" = true)
    (k3 : PySem.W.keepIn K (.ref f3) = true)
    (a4 : PySem.W.nsIn K mainGlobals "has_row" = some (some (.ref f4)))
    (l4 : K.lookup f4 = some ⟨oc4, od4, .func (PySem.W.fnOf "has_row" "has_row" (defArgs s_has_row) (defBody s_has_row) (defScope s_has_row) .none kV4 dc4 pm4 an4 cd4 ct4), sl4⟩)
    (c4 : PySem.W.codeIn K cd4 "has_row" = true)
    (k4 : PySem.W.keepIn K (.ref f4) = true)
    (a5 : PySem.W.nsIn K mainGlobals "told_by" = some (some (.ref f5)))
    (l5 : K.lookup f5 = some ⟨oc5, od5, .func (PySem.W.fnOf "told_by" "told_by" (defArgs s_told_by) (defBody s_told_by) (defScope s_told_by) .none kV5 dc5 pm5 an5 cd5 ct5), sl5⟩)
    (c5 : PySem.W.codeIn K cd5 "told_by" = true)
    (k5 : PySem.W.keepIn K (.ref f5) = true)
    (a6 : PySem.W.nsIn K mainGlobals "longer_plan" = some (some (.ref f6)))
    (l6 : K.lookup f6 = some ⟨oc6, od6, .func (PySem.W.fnOf "longer_plan" "longer_plan" (defArgs s_longer_plan) (defBody s_longer_plan) (defScope s_longer_plan) .none kV6 dc6 pm6 an6 cd6 ct6), sl6⟩)
    (c6 : PySem.W.codeIn K cd6 "longer_plan" = true)
    (k6 : PySem.W.keepIn K (.ref f6) = true)
    (a7 : PySem.W.nsIn K mainGlobals "leaf_number" = some (some (.ref f7)))
    (l7 : K.lookup f7 = some ⟨oc7, od7, .func (PySem.W.fnOf "leaf_number" "leaf_number" (defArgs s_leaf_number) (defBody s_leaf_number) (defScope s_leaf_number) .none kV7 dc7 pm7 an7 cd7 ct7), sl7⟩)
    (c7 : PySem.W.codeIn K cd7 "leaf_number" = true)
    (k7 : PySem.W.keepIn K (.ref f7) = true)
    (a8 : PySem.W.nsIn K mainGlobals "list_look" = some (some (.ref f8)))
    (l8 : K.lookup f8 = some ⟨oc8, od8, .func (PySem.W.fnOf "list_look" "list_look" (defArgs s_list_look) (defBody s_list_look) (defScope s_list_look) .none kV8 dc8 pm8 an8 cd8 ct8), sl8⟩)
    (c8 : PySem.W.codeIn K cd8 "list_look" = true)
    (k8 : PySem.W.keepIn K (.ref f8) = true)
    (a9 : PySem.W.nsIn K mainGlobals "is_member" = some (some (.ref f9)))
    (l9 : K.lookup f9 = some ⟨oc9, od9, .func (PySem.W.fnOf "is_member" "is_member" (defArgs s_is_member) (defBody s_is_member) (defScope s_is_member) .none kV9 dc9 pm9 an9 cd9 ct9), sl9⟩)
    (c9 : PySem.W.codeIn K cd9 "is_member" = true)
    (k9 : PySem.W.keepIn K (.ref f9) = true)
    (a10 : PySem.W.nsIn K mainGlobals "first_step" = some (some (.ref f10)))
    (l10 : K.lookup f10 = some ⟨oc10, od10, .func (PySem.W.fnOf "first_step" "first_step" (defArgs s_first_step) (defBody s_first_step) (defScope s_first_step) .none kV10 dc10 pm10 an10 cd10 ct10), sl10⟩)
    (c10 : PySem.W.codeIn K cd10 "first_step" = true)
    (k10 : PySem.W.keepIn K (.ref f10) = true)
    (a11 : PySem.W.nsIn K mainGlobals "step_above" = some (some (.ref f11)))
    (l11 : K.lookup f11 = some ⟨oc11, od11, .func (PySem.W.fnOf "step_above" "step_above" (defArgs s_step_above) (defBody s_step_above) (defScope s_step_above) .none kV11 dc11 pm11 an11 cd11 ct11), sl11⟩)
    (c11 : PySem.W.codeIn K cd11 "step_above" = true)
    (k11 : PySem.W.keepIn K (.ref f11) = true)
    (a12 : PySem.W.nsIn K mainGlobals "step_over_both" = some (some (.ref f12)))
    (l12 : K.lookup f12 = some ⟨oc12, od12, .func (PySem.W.fnOf "step_over_both" "step_over_both" (defArgs s_step_over_both) (defBody s_step_over_both) (defScope s_step_over_both) .none kV12 dc12 pm12 an12 cd12 ct12), sl12⟩)
    (c12 : PySem.W.codeIn K cd12 "step_over_both" = true)
    (k12 : PySem.W.keepIn K (.ref f12) = true)
    (a13 : PySem.W.nsIn K mainGlobals "_law_bag" = some (some (.ref f13)))
    (l13 : K.lookup f13 = some ⟨oc13, od13, .func (PySem.W.fnOf "_law_bag" "_law_bag" (defArgs sBag) (defBody sBag) (defScope sBag) .none kV13 dc13 pm13 an13 cd13 ct13), sl13⟩)
    (c13 : PySem.W.codeIn K cd13 "_law_bag" = true)
    (k13 : PySem.W.keepIn K (.ref f13) = true)
    (a14 : PySem.W.nsIn K mainGlobals "_law_take" = some (some (.ref f14)))
    (l14 : K.lookup f14 = some ⟨oc14, od14, .func (PySem.W.fnOf "_law_take" "_law_take" (defArgs sTake) (defBody sTake) (defScope sTake) .none kV14 dc14 pm14 an14 cd14 ct14), sl14⟩)
    (c14 : PySem.W.codeIn K cd14 "_law_take" = true)
    (k14 : PySem.W.keepIn K (.ref f14) = true)
    (a15 : PySem.W.nsIn K mainGlobals "_law_leaf" = some (some (.ref f15)))
    (l15 : K.lookup f15 = some ⟨oc15, od15, .func (PySem.W.fnOf "_law_leaf" "_law_leaf" (defArgs s__law_leaf) (defBody s__law_leaf) (defScope s__law_leaf) .none kV15 dc15 pm15 an15 cd15 ct15), sl15⟩)
    (c15 : PySem.W.codeIn K cd15 "_law_leaf" = true)
    (k15 : PySem.W.keepIn K (.ref f15) = true)
    (a16 : PySem.W.nsIn K mainGlobals "_law_shape" = some (some (.ref f16)))
    (l16 : K.lookup f16 = some ⟨oc16, od16, .func (PySem.W.fnOf "_law_shape" "_law_shape" (defArgs s__law_shape) (defBody s__law_shape) (defScope s__law_shape) .none kV16 dc16 pm16 an16 cd16 ct16), sl16⟩)
    (c16 : PySem.W.codeIn K cd16 "_law_shape" = true)
    (k16 : PySem.W.keepIn K (.ref f16) = true)
    (a17 : PySem.W.nsIn K mainGlobals "_law_has" = some (some (.ref f17)))
    (l17 : K.lookup f17 = some ⟨oc17, od17, .func (PySem.W.fnOf "_law_has" "_law_has" (defArgs s__law_has) (defBody s__law_has) (defScope s__law_has) .none kV17 dc17 pm17 an17 cd17 ct17), sl17⟩)
    (c17 : PySem.W.codeIn K cd17 "_law_has" = true)
    (k17 : PySem.W.keepIn K (.ref f17) = true)
    (a18 : PySem.W.nsIn K mainGlobals "combined" = some (some (.ref f18)))
    (l18 : K.lookup f18 = some ⟨oc18, od18, .func (PySem.W.fnOf "combined" "combined" (defArgs s_combined) (defBody s_combined) (defScope s_combined) .none kV18 dc18 pm18 an18 cd18 ct18), sl18⟩)
    (c18 : PySem.W.codeIn K cd18 "combined" = true)
    (k18 : PySem.W.keepIn K (.ref f18) = true)
    (a19 : PySem.W.nsIn K mainGlobals "is_in_step" = some (some (.ref f19)))
    (l19 : K.lookup f19 = some ⟨oc19, od19, .func (PySem.W.fnOf "is_in_step" "is_in_step" (defArgs s_is_in_step) (defBody s_is_in_step) (defScope s_is_in_step) .none kV19 dc19 pm19 an19 cd19 ct19), sl19⟩)
    (c19 : PySem.W.codeIn K cd19 "is_in_step" = true)
    (k19 : PySem.W.keepIn K (.ref f19) = true)
    (a20 : PySem.W.nsIn K mainGlobals "answers_to" = some (some (.ref f20)))
    (l20 : K.lookup f20 = some ⟨oc20, od20, .func (PySem.W.fnOf "answers_to" "answers_to" (defArgs s_answers_to) (defBody s_answers_to) (defScope s_answers_to) .none kV20 dc20 pm20 an20 cd20 ct20), sl20⟩)
    (c20 : PySem.W.codeIn K cd20 "answers_to" = true)
    (k20 : PySem.W.keepIn K (.ref f20) = true)
    (a21 : PySem.W.nsIn K mainGlobals "asked_steps" = some (some (.ref f21)))
    (l21 : K.lookup f21 = some ⟨oc21, od21, .func (PySem.W.fnOf "asked_steps" "asked_steps" (defArgs s_asked_steps) (defBody s_asked_steps) (defScope s_asked_steps) .none kV21 dc21 pm21 an21 cd21 ct21), sl21⟩)
    (c21 : PySem.W.codeIn K cd21 "asked_steps" = true)
    (k21 : PySem.W.keepIn K (.ref f21) = true)
    (a22 : PySem.W.nsIn K mainGlobals "letters_told_apart" = some (some (.ref f22)))
    (l22 : K.lookup f22 = some ⟨oc22, od22, .func (PySem.W.fnOf "letters_told_apart" "letters_told_apart" (defArgs s_letters_told_apart) (defBody s_letters_told_apart) (defScope s_letters_told_apart) .none kV22 dc22 pm22 an22 cd22 ct22), sl22⟩)
    (c22 : PySem.W.codeIn K cd22 "letters_told_apart" = true)
    (k22 : PySem.W.keepIn K (.ref f22) = true)
    (a23 : PySem.W.nsIn K mainGlobals "look_of_text" = some (some (.ref f23)))
    (l23 : K.lookup f23 = some ⟨oc23, od23, .func (PySem.W.fnOf "look_of_text" "look_of_text" (defArgs s_look_of_text) (defBody s_look_of_text) (defScope s_look_of_text) .none kV23 dc23 pm23 an23 cd23 ct23), sl23⟩)
    (c23 : PySem.W.codeIn K cd23 "look_of_text" = true)
    (k23 : PySem.W.keepIn K (.ref f23) = true)
    (a24 : PySem.W.nsIn K mainGlobals "least_leaves" = some (some (.ref f24)))
    (l24 : K.lookup f24 = some ⟨oc24, od24, .func (PySem.W.fnOf "least_leaves" "least_leaves" (defArgs s_least_leaves) (defBody s_least_leaves) (defScope s_least_leaves) .none kV24 dc24 pm24 an24 cd24 ct24), sl24⟩)
    (c24 : PySem.W.codeIn K cd24 "least_leaves" = true)
    (k24 : PySem.W.keepIn K (.ref f24) = true)
    (a25 : PySem.W.nsIn K mainGlobals "list_rows" = some (some (.ref f25)))
    (l25 : K.lookup f25 = some ⟨oc25, od25, .func (PySem.W.fnOf "list_rows" "list_rows" (defArgs s_list_rows) (defBody s_list_rows) (defScope s_list_rows) .none kV25 dc25 pm25 an25 cd25 ct25), sl25⟩)
    (c25 : PySem.W.codeIn K cd25 "list_rows" = true)
    (k25 : PySem.W.keepIn K (.ref f25) = true)
    (a26 : PySem.W.nsIn K mainGlobals "least_rows" = some (some (.ref f26)))
    (l26 : K.lookup f26 = some ⟨oc26, od26, .func (PySem.W.fnOf "least_rows" "least_rows" (defArgs s_least_rows) (defBody s_least_rows) (defScope s_least_rows) .none kV26 dc26 pm26 an26 cd26 ct26), sl26⟩)
    (c26 : PySem.W.codeIn K cd26 "least_rows" = true)
    (k26 : PySem.W.keepIn K (.ref f26) = true)
    (a27 : PySem.W.nsIn K mainGlobals "least_value" = some (some (.ref f27)))
    (l27 : K.lookup f27 = some ⟨oc27, od27, .func (PySem.W.fnOf "least_value" "least_value" (defArgs s_least_value) (defBody s_least_value) (defScope s_least_value) .none kV27 dc27 pm27 an27 cd27 ct27), sl27⟩)
    (c27 : PySem.W.codeIn K cd27 "least_value" = true)
    (k27 : PySem.W.keepIn K (.ref f27) = true)
    (a28 : PySem.W.nsIn K mainGlobals "copy_of" = some (some (.ref f28)))
    (l28 : K.lookup f28 = some ⟨oc28, od28, .func (PySem.W.fnOf "copy_of" "copy_of" (defArgs sCopy) (defBody sCopy) (defScope sCopy) .none kV28 dc28 pm28 an28 cd28 ct28), sl28⟩)
    (c28 : PySem.W.codeIn K cd28 "copy_of" = true)
    (k28 : PySem.W.keepIn K (.ref f28) = true)
    (a29 : PySem.W.nsIn K mainGlobals "_law_plain" = some (some (.ref f29)))
    (l29 : K.lookup f29 = some ⟨oc29, od29, .func (PySem.W.fnOf "_law_plain" "_law_plain" (defArgs s__law_plain) (defBody s__law_plain) (defScope s__law_plain) .none kV29 dc29 pm29 an29 cd29 ct29), sl29⟩)
    (c29 : PySem.W.codeIn K cd29 "_law_plain" = true)
    (k29 : PySem.W.keepIn K (.ref f29) = true)
    (a30 : PySem.W.nsIn K mainGlobals "_law_nested" = some (some (.ref f30)))
    (l30 : K.lookup f30 = some ⟨oc30, od30, .func (PySem.W.fnOf "_law_nested" "_law_nested" (defArgs s__law_nested) (defBody s__law_nested) (defScope s__law_nested) .none kV30 dc30 pm30 an30 cd30 ct30), sl30⟩)
    (c30 : PySem.W.codeIn K cd30 "_law_nested" = true)
    (k30 : PySem.W.keepIn K (.ref f30) = true)
    (a31 : PySem.W.nsIn K mainGlobals "_law_is_same" = some (some (.ref f31)))
    (l31 : K.lookup f31 = some ⟨oc31, od31, .func (PySem.W.fnOf "_law_is_same" "_law_is_same" (defArgs s__law_is_same) (defBody s__law_is_same) (defScope s__law_is_same) .none kV31 dc31 pm31 an31 cd31 ct31), sl31⟩)
    (c31 : PySem.W.codeIn K cd31 "_law_is_same" = true)
    (k31 : PySem.W.keepIn K (.ref f31) = true)
    (a32 : PySem.W.nsIn K mainGlobals "_law_differ" = some (some (.ref f32)))
    (l32 : K.lookup f32 = some ⟨oc32, od32, .func (PySem.W.fnOf "_law_differ" "_law_differ" (defArgs s__law_differ) (defBody s__law_differ) (defScope s__law_differ) .none kV32 dc32 pm32 an32 cd32 ct32), sl32⟩)
    (c32 : PySem.W.codeIn K cd32 "_law_differ" = true)
    (k32 : PySem.W.keepIn K (.ref f32) = true)
    (a33 : PySem.W.nsIn K mainGlobals "law" = some (some (.ref f33)))
    (l33 : K.lookup f33 = some ⟨oc33, od33, .func (PySem.W.fnOf "law" "law" (defArgs sLaw) (defBody sLaw) (defScope sLaw) .none kV33 dc33 pm33 an33 cd33 ct33), sl33⟩)
    (c33 : PySem.W.codeIn K cd33 "law" = true)
    (k33 : PySem.W.keepIn K (.ref f33) = true)
    (aC : PySem.W.nsIn K mainGlobals "Shape" = some (some (.ref C)))
    (aM0 : PySem.W.findIn K (.ref C) "__init__" = some (some (.ref h0)))
    (lM0 : K.lookup h0 = some ⟨ocM0, odM0, .func (PySem.W.fnOf "__init__" "Shape.__init__" (defArgs mShape_init) (defBody mShape_init) (defScope mShape_init) .none kVM0 dcM0 pmM0 anM0 cdM0 ctM0), slM0⟩)
    (cM0 : PySem.W.codeIn K cdM0 "Shape.__init__" = true)
    (kM0 : PySem.W.keepIn K (.ref h0) = true)
    (iM0 : PySem.W.isFn K (.ref h0) = true)
    (aM1 : PySem.W.findIn K (.ref C) "__contains__" = some (some (.ref h1)))
    (lM1 : K.lookup h1 = some ⟨ocM1, odM1, .func (PySem.W.fnOf "__contains__" "Shape.__contains__" (defArgs mShape_contains) (defBody mShape_contains) (defScope mShape_contains) .none kVM1 dcM1 pmM1 anM1 cdM1 ctM1), slM1⟩)
    (cM1 : PySem.W.codeIn K cdM1 "Shape.__contains__" = true)
    (kM1 : PySem.W.keepIn K (.ref h1) = true)
    (iM1 : PySem.W.isFn K (.ref h1) = true)
    (aM2 : PySem.W.findIn K (.ref C) "__or__" = some (some (.ref h2)))
    (lM2 : K.lookup h2 = some ⟨ocM2, odM2, .func (PySem.W.fnOf "__or__" "Shape.__or__" (defArgs mShape_or) (defBody mShape_or) (defScope mShape_or) .none kVM2 dcM2 pmM2 anM2 cdM2 ctM2), slM2⟩)
    (cM2 : PySem.W.codeIn K cdM2 "Shape.__or__" = true)
    (kM2 : PySem.W.keepIn K (.ref h2) = true)
    (iM2 : PySem.W.isFn K (.ref h2) = true)
    (aM3 : PySem.W.findIn K (.ref C) "__and__" = some (some (.ref h3)))
    (lM3 : K.lookup h3 = some ⟨ocM3, odM3, .func (PySem.W.fnOf "__and__" "Shape.__and__" (defArgs mShape_and) (defBody mShape_and) (defScope mShape_and) .none kVM3 dcM3 pmM3 anM3 cdM3 ctM3), slM3⟩)
    (cM3 : PySem.W.codeIn K cdM3 "Shape.__and__" = true)
    (kM3 : PySem.W.keepIn K (.ref h3) = true)
    (iM3 : PySem.W.isFn K (.ref h3) = true)
    (aM4 : PySem.W.findIn K (.ref C) "__sub__" = some (some (.ref h4)))
    (lM4 : K.lookup h4 = some ⟨ocM4, odM4, .func (PySem.W.fnOf "__sub__" "Shape.__sub__" (defArgs mShape_sub) (defBody mShape_sub) (defScope mShape_sub) .none kVM4 dcM4 pmM4 anM4 cdM4 ctM4), slM4⟩)
    (cM4 : PySem.W.codeIn K cdM4 "Shape.__sub__" = true)
    (kM4 : PySem.W.keepIn K (.ref h4) = true)
    (iM4 : PySem.W.isFn K (.ref h4) = true)
    (aM5 : PySem.W.findIn K (.ref C) "__invert__" = some (some (.ref h5)))
    (lM5 : K.lookup h5 = some ⟨ocM5, odM5, .func (PySem.W.fnOf "__invert__" "Shape.__invert__" (defArgs mShape_invert) (defBody mShape_invert) (defScope mShape_invert) .none kVM5 dcM5 pmM5 anM5 cdM5 ctM5), slM5⟩)
    (cM5 : PySem.W.codeIn K cdM5 "Shape.__invert__" = true)
    (kM5 : PySem.W.keepIn K (.ref h5) = true)
    (iM5 : PySem.W.isFn K (.ref h5) = true)
    (aM6 : PySem.W.findIn K (.ref C) "__eq__" = some (some (.ref h6)))
    (lM6 : K.lookup h6 = some ⟨ocM6, odM6, .func (PySem.W.fnOf "__eq__" "Shape.__eq__" (defArgs mShape_eq) (defBody mShape_eq) (defScope mShape_eq) .none kVM6 dcM6 pmM6 anM6 cdM6 ctM6), slM6⟩)
    (cM6 : PySem.W.codeIn K cdM6 "Shape.__eq__" = true)
    (kM6 : PySem.W.keepIn K (.ref h6) = true)
    (iM6 : PySem.W.isFn K (.ref h6) = true)
    (aM7 : PySem.W.findIn K (.ref C) "__bool__" = some (some (.ref h7)))
    (lM7 : K.lookup h7 = some ⟨ocM7, odM7, .func (PySem.W.fnOf "__bool__" "Shape.__bool__" (defArgs mShape_bool) (defBody mShape_bool) (defScope mShape_bool) .none kVM7 dcM7 pmM7 anM7 cdM7 ctM7), slM7⟩)
    (cM7 : PySem.W.codeIn K cdM7 "Shape.__bool__" = true)
    (kM7 : PySem.W.keepIn K (.ref h7) = true)
    (iM7 : PySem.W.isFn K (.ref h7) = true)
    (aM8 : PySem.W.findIn K (.ref C) "least" = some (some (.ref h8)))
    (lM8 : K.lookup h8 = some ⟨ocM8, odM8, .func (PySem.W.fnOf "least" "Shape.least" (defArgs mShape_least) (defBody mShape_least) (defScope mShape_least) .none kVM8 dcM8 pmM8 anM8 cdM8 ctM8), slM8⟩)
    (cM8 : PySem.W.codeIn K cdM8 "Shape.least" = true)
    (kM8 : PySem.W.keepIn K (.ref h8) = true)
    (iM8 : PySem.W.isFn K (.ref h8) = true)
    (aM9 : PySem.W.findIn K (.ref C) "within" = some (some (.ref h9)))
    (lM9 : K.lookup h9 = some ⟨ocM9, odM9, .func (PySem.W.fnOf "within" "Shape.within" (defArgs mShape_within) (defBody mShape_within) (defScope mShape_within) .none kVM9 dcM9 pmM9 anM9 cdM9 ctM9), slM9⟩)
    (cM9 : PySem.W.codeIn K cdM9 "Shape.within" = true)
    (kM9 : PySem.W.keepIn K (.ref h9) = true)
    (iM9 : PySem.W.isFn K (.ref h9) = true)
    (pg : PySem.W.plainGet K C Str.empty = true)
    (hd : PySem.W.hasDictIn K C = true)
    (po : PySem.W.plainOver K C = true)
    (sa : PySem.W.findIn K (.ref C) "__setattr__" = some (some (.builtin "object.__setattr__")))
    (mk : PySem.W.makesIn K C = true)
    (kc : PySem.W.keepIn K (.ref C) = true)
    (nR : PySem.W.findIn K (.ref C) "recipe" = some none)
    (nP : PySem.W.findIn K (.ref C) "_plan" = some none)
    (ha : PySem.W.findIn K (.ref C) "__class__" = some (some (.builtin "object.__class__")))
    (hn : PySem.W.specialIn K (.builtin "object.__class__") "__get__" = some (some (.builtin "getset_descriptor.__get__")))
    (ht : PySem.W.takesIn K (.builtin "object.__class__") = some true)
    (hm : PySem.W.mroIn K C (.type "object") = some true)
    (tC : PySem.W.typeIn K (.ref C) = some (.type "type"))
    (uS : PySem.W.subIn K (.type "str") (.ref C) = some false)
    (uL : PySem.W.subIn K (.type "list") (.ref C) = some false)
    (uN : PySem.W.subIn K (.type "NoneType") (.ref C) = some false)
    (aAl : PySem.W.nsIn K mainGlobals "ALPHABET" = some (some (.str "abcdefghijklmnopqrstuvwxyz" tA)))
    (q0 : PySem.W.nsIn K mainGlobals "MOST_ASKED" = some (some (.int 8 tq0)))
    (q1 : PySem.W.nsIn K mainGlobals "EVERY_STEP" = some (some (.int 255 tq1)))
    (q2 : PySem.W.nsIn K mainGlobals "NOTHING" = some (some (.int 256 tq2)))
    (q3 : PySem.W.nsIn K mainGlobals "TEXTS" = some (some (.int 257 tq3)))
    (q4 : PySem.W.nsIn K mainGlobals "LONG" = some (some (.int 4 tq4)))
    (q5 : PySem.W.nsIn K mainGlobals "EVERY_LOOK" = some (some (.int 7410693711188236507108543040556026102609279018600996098525285376506440296955903 tq5)))
    (aLV : PySem.W.nsIn K mainGlobals "LEAVES" = some (some (.ref aV)))
    (lLV : K.lookup aV = some ⟨.type "tuple", odlLV, .seq #[.int 256 tv0, .int 257 tv1, .int 258 tv2, .int 259 tv3, .int 260 tv4, .int 261 tv5] nlLV, sllLV⟩)
    (aAI : PySem.W.nsIn K mainGlobals "ALL_IN" = some (some (.ref aI)))
    (lAI : K.lookup aI = some ⟨.type "tuple", odlAI, .seq #[.int 77194726158210796949047323339125271902179989777093709359638389338608753093290 ti0, .int 92633671389852956338856788006950326282615987732512451231566067206330503711948 ti1, .int 108980789870415242751596221184647442685430573802955824978313020242741769072880 ti2, .int 115341536360906404779899502576747487978354537254490211650198994186870666100480 ti3, .int 115790322417210952336529717160220497262186272106556906860092653394915770695680 ti4, .int 115792089210356248762697446947946071893095522863849111501270640965525260206080 ti5, .int 115792089237316195417293883273301227089774477609353836086800156426807153786880 ti6, .int 115792089237316195423570985008687907852929702298719625575994209400481361428480 ti7] nlAI, sllAI⟩)
    (aNP : PySem.W.nsIn K mainGlobals "NO_PLAN" = some (some (.ref aN)))
    (lNP : K.lookup aN = some ⟨.type "tuple", odlNP, .seq #[.ref e1, .ref e2, .ref e3, .ref e4] nlNP, sllNP⟩)
    (lE1 : K.lookup e1 = some ⟨.type "tuple", odlE1, .seq #[] nlE1, sllE1⟩)
    (lE2 : K.lookup e2 = some ⟨.type "tuple", odlE2, .seq #[] nlE2, sllE2⟩)
    (lE3 : K.lookup e3 = some ⟨.type "tuple", odlE3, .seq #[] nlE3, sllE3⟩)
    (lE4 : K.lookup e4 = some ⟨.type "tuple", odlE4, .seq #[.int 0 te0, .int 0 te1, .int 0 te2, .int 0 te3, .int 0 te4, .int 0 te5] nlE4, sllE4⟩)
    (rdO : PySem.W.readsIn K C (.type "type") = true)
    (gaO : PySem.W.specialIn K (.ref C) "__getattribute__" = some (some (.builtin "type.__getattribute__")))
    (sF : PySem.W.selfFirst K C = true)
    (nE : PySem.W.findIn K (.ref C) "__ne__" = some (some (.builtin "object.__ne__")))
    (oC : PySem.W.subIn K (.ref C) (.type "object") = some true)
    (uB : PySem.W.subIn K (.type "bool") (.ref C) = some false)
    (uI : PySem.W.subIn K (.type "int") (.ref C) = some false)
    (uT : PySem.W.subIn K (.type "tuple") (.ref C) = some false)
    (a_every : PySem.W.findIn K (.ref C) "every" = some (some (.ref pevery)))
    (r_every : PySem.W.recIn K pevery "classmethod" = some (.ref h_every :: restevery))
    (f_every : PySem.W.fnIn K h_every = true)
    (fc_every : PySem.W.findCls K (.ref C) (.type "type") "every" = some (.get (.builtin "classmethod.__get__") (.ref pevery) .none (.ref C)))
    (a_never : PySem.W.findIn K (.ref C) "never" = some (some (.ref pnever)))
    (r_never : PySem.W.recIn K pnever "classmethod" = some (.ref h_never :: restnever))
    (f_never : PySem.W.fnIn K h_never = true)
    (fc_never : PySem.W.findCls K (.ref C) (.type "type") "never" = some (.get (.builtin "classmethod.__get__") (.ref pnever) .none (.ref C)))
    (a_nothing : PySem.W.findIn K (.ref C) "nothing" = some (some (.ref pnothing)))
    (r_nothing : PySem.W.recIn K pnothing "classmethod" = some (.ref h_nothing :: restnothing))
    (f_nothing : PySem.W.fnIn K h_nothing = true)
    (fc_nothing : PySem.W.findCls K (.ref C) (.type "type") "nothing" = some (.get (.builtin "classmethod.__get__") (.ref pnothing) .none (.ref C)))
    (a_texts : PySem.W.findIn K (.ref C) "texts" = some (some (.ref ptexts)))
    (r_texts : PySem.W.recIn K ptexts "classmethod" = some (.ref h_texts :: resttexts))
    (f_texts : PySem.W.fnIn K h_texts = true)
    (fc_texts : PySem.W.findCls K (.ref C) (.type "type") "texts" = some (.get (.builtin "classmethod.__get__") (.ref ptexts) .none (.ref C)))
    (a_lists : PySem.W.findIn K (.ref C) "lists" = some (some (.ref plists)))
    (r_lists : PySem.W.recIn K plists "classmethod" = some (.ref h_lists :: restlists))
    (f_lists : PySem.W.fnIn K h_lists = true)
    (fc_lists : PySem.W.findCls K (.ref C) (.type "type") "lists" = some (.get (.builtin "classmethod.__get__") (.ref plists) .none (.ref C)))
    (a_nested : PySem.W.findIn K (.ref C) "nested" = some (some (.ref pnested)))
    (r_nested : PySem.W.recIn K pnested "classmethod" = some (.ref h_nested :: restnested))
    (f_nested : PySem.W.fnIn K h_nested = true)
    (fc_nested : PySem.W.findCls K (.ref C) (.type "type") "nested" = some (.get (.builtin "classmethod.__get__") (.ref pnested) .none (.ref C)))
    (lcevery : K.lookup h_every = some ⟨occevery, odcevery, .func (PySem.W.fnOf "every" "Shape.every" (defArgs mShape_every) (defBody mShape_every) (defScope mShape_every) .none kVcevery dccevery pmcevery ancevery cdcevery ctcevery), slcevery⟩)
    (ccevery : PySem.W.codeIn K cdcevery "Shape.every" = true)
    (kcevery : PySem.W.keepIn K (.ref h_every) = true)
    (lcnever : K.lookup h_never = some ⟨occnever, odcnever, .func (PySem.W.fnOf "never" "Shape.never" (defArgs mShape_never) (defBody mShape_never) (defScope mShape_never) .none kVcnever dccnever pmcnever ancnever cdcnever ctcnever), slcnever⟩)
    (ccnever : PySem.W.codeIn K cdcnever "Shape.never" = true)
    (kcnever : PySem.W.keepIn K (.ref h_never) = true)
    (lcnothing : K.lookup h_nothing = some ⟨occnothing, odcnothing, .func (PySem.W.fnOf "nothing" "Shape.nothing" (defArgs mShape_nothing) (defBody mShape_nothing) (defScope mShape_nothing) .none kVcnothing dccnothing pmcnothing ancnothing cdcnothing ctcnothing), slcnothing⟩)
    (ccnothing : PySem.W.codeIn K cdcnothing "Shape.nothing" = true)
    (kcnothing : PySem.W.keepIn K (.ref h_nothing) = true)
    (lctexts : K.lookup h_texts = some ⟨occtexts, odctexts, .func (PySem.W.fnOf "texts" "Shape.texts" (defArgs mShape_texts) (defBody mShape_texts) (defScope mShape_texts) (.ref TD) kVctexts dcctexts pmctexts anctexts cdctexts ctctexts), slctexts⟩)
    (cctexts : PySem.W.codeIn K cdctexts "Shape.texts" = true)
    (kctexts : PySem.W.keepIn K (.ref h_texts) = true)
    (lclists : K.lookup h_lists = some ⟨occlists, odclists, .func (PySem.W.fnOf "lists" "Shape.lists" (defArgs mShape_lists) (defBody mShape_lists) (defScope mShape_lists) .none kVclists dcclists pmclists anclists cdclists ctclists), slclists⟩)
    (cclists : PySem.W.codeIn K cdclists "Shape.lists" = true)
    (kclists : PySem.W.keepIn K (.ref h_lists) = true)
    (lcnested : K.lookup h_nested = some ⟨occnested, odcnested, .func (PySem.W.fnOf "nested" "Shape.nested" (defArgs mShape_nested) (defBody mShape_nested) (defScope mShape_nested) .none kVcnested dccnested pmcnested ancnested cdcnested ctcnested), slcnested⟩)
    (ccnested : PySem.W.codeIn K cdcnested "Shape.nested" = true)
    (kcnested : PySem.W.keepIn K (.ref h_nested) = true)
    (lTD : K.lookup TD = some ⟨.type "tuple", odlTD, .seq #[.int 0 tD, .none] nlTD, sllTD⟩)
    (ecd : cd27 = .ref cL)
    (lcL : K.lookup cL = some ⟨ocL, odL, .fields vsL, slL⟩)
    (pT : (vsL[11]? : Option Value) = some (.ref TB))
    (nT : K.lookup TB = none)
    (chT : PySem.W.codeHdIn K cL TB = true)
    (hTab : h.get? TB = some (PySem.W.tabObj #[]))
    (zisinstance : PySem.W.nsIn K mainGlobals "isinstance" = some none)
    (zlist : PySem.W.nsIn K mainGlobals "list" = some none)
    (ztuple : PySem.W.nsIn K mainGlobals "tuple" = some none)
    (zlen : PySem.W.nsIn K mainGlobals "len" = some none)
    (zabs : PySem.W.nsIn K mainGlobals "abs" = some none)
    (zenumerate : PySem.W.nsIn K mainGlobals "enumerate" = some none)
    (zint : PySem.W.nsIn K mainGlobals "int" = some none)
    (zrange : PySem.W.nsIn K mainGlobals "range" = some none)
    (zsum : PySem.W.nsIn K mainGlobals "sum" = some none)
    (zmin : PySem.W.nsIn K mainGlobals "min" = some none)
    (zmax : PySem.W.nsIn K mainGlobals "max" = some none)
    (zstr : PySem.W.nsIn K mainGlobals "str" = some none)
    (zall : PySem.W.nsIn K mainGlobals "all" = some none)
    (zset : PySem.W.nsIn K mainGlobals "set" = some none)
    (zsorted : PySem.W.nsIn K mainGlobals "sorted" = some none)
    (zbool : PySem.W.nsIn K mainGlobals "bool" = some none) :
    LamX.LawAtS l w K CX0 12 63 "_law_script" mg fa h := by
  have e := hfa.symm.trans (PySem.W.mg_of X G a33)
  cases e
  have F0 := fun_mk (st := sParts) l0 c0 k0
  have F1 := fun_mk (st := s_row_of_texts) l1 c1 k1
  have F2 := fun_mk (st := s_row_of_step) l2 c2 k2
  have F3 := fun_mk (st := s_step_asked) l3 c3 k3
  have F4 := fun_mk (st := s_has_row) l4 c4 k4
  have F5 := fun_mk (st := s_told_by) l5 c5 k5
  have F6 := fun_mk (st := s_longer_plan) l6 c6 k6
  have F7 := fun_mk (st := s_leaf_number) l7 c7 k7
  have F8 := fun_mk (st := s_list_look) l8 c8 k8
  have F9 := fun_mk (st := s_is_member) l9 c9 k9
  have F10 := fun_mk (st := s_first_step) l10 c10 k10
  have F11 := fun_mk (st := s_step_above) l11 c11 k11
  have F12 := fun_mk (st := s_step_over_both) l12 c12 k12
  have F13 := fun_mk (st := sBag) l13 c13 k13
  have F14 := fun_mk (st := sTake) l14 c14 k14
  have F15 := fun_mk (st := s__law_leaf) l15 c15 k15
  have F16 := fun_mk (st := s__law_shape) l16 c16 k16
  have F17 := fun_mk (st := s__law_has) l17 c17 k17
  have F18 := fun_mk (st := s_combined) l18 c18 k18
  have F19 := fun_mk (st := s_is_in_step) l19 c19 k19
  have F20 := fun_mk (st := s_answers_to) l20 c20 k20
  have F21 := fun_mk (st := s_asked_steps) l21 c21 k21
  have F22 := fun_mk (st := s_letters_told_apart) l22 c22 k22
  have F23 := fun_mk (st := s_look_of_text) l23 c23 k23
  have F24 := fun_mk (st := s_least_leaves) l24 c24 k24
  have F25 := fun_mk (st := s_list_rows) l25 c25 k25
  have F26 := fun_mk (st := s_least_rows) l26 c26 k26
  have F27 := fun_mk (st := s_least_value) l27 c27 k27
  have F28 := fun_mk (st := sCopy) l28 c28 k28
  have F29 := fun_mk (st := s__law_plain) l29 c29 k29
  have F30 := fun_mk (st := s__law_nested) l30 c30 k30
  have F31 := fun_mk (st := s__law_is_same) l31 c31 k31
  have F32 := fun_mk (st := s__law_differ) l32 c32 k32
  have F33 := fun_mk (st := sLaw) l33 c33 k33
  have b0 := F0.binds (ps := ["thing"]) fun _ _ _ _ _ _ us hl => match us, hl with | [_], _ => rfl
  have g0 := PySem.W.mg_of X G a0
  have b1 := F1.binds (ps := ["numbers"]) fun _ _ _ _ _ _ us hl => match us, hl with | [_], _ => rfl
  have g1 := PySem.W.mg_of X G a1
  have b2 := F2.binds (ps := ["step", "rows", "lists"]) fun _ _ _ _ _ _ us hl => match us, hl with | [_, _, _], _ => rfl
  have g2 := PySem.W.mg_of X G a2
  have b3 := F3.binds (ps := ["number", "step"]) fun _ _ _ _ _ _ us hl => match us, hl with | [_, _], _ => rfl
  have g3 := PySem.W.mg_of X G a3
  have b4 := F4.binds (ps := ["step"]) fun _ _ _ _ _ _ us hl => match us, hl with | [_], _ => rfl
  have g4 := PySem.W.mg_of X G a4
  have b5 := F5.binds (ps := ["rows", "look"]) fun _ _ _ _ _ _ us hl => match us, hl with | [_, _], _ => rfl
  have g5 := PySem.W.mg_of X G a5
  have b6 := F6.binds (ps := ["plan", "recipe"]) fun _ _ _ _ _ _ us hl => match us, hl with | [_, _], _ => rfl
  have g6 := PySem.W.mg_of X G a6
  have b7 := F7.binds (ps := ["thing"]) fun _ _ _ _ _ _ us hl => match us, hl with | [_], _ => rfl
  have g7 := PySem.W.mg_of X G a7
  have b8 := F8.binds (ps := ["asked_rows", "leaves", "value"]) fun _ _ _ _ _ _ us hl => match us, hl with | [_, _, _], _ => rfl
  have g8 := PySem.W.mg_of X G a8
  have b9 := F9.binds (ps := ["plan", "thing"]) fun _ _ _ _ _ _ us hl => match us, hl with | [_, _], _ => rfl
  have g9 := PySem.W.mg_of X G a9
  have b10 := F10.binds (ps := ["sign", "numbers"]) fun _ _ _ _ _ _ us hl => match us, hl with | [_, _], _ => rfl
  have g10 := PySem.W.mg_of X G a10
  have b11 := F11.binds (ps := ["sign", "recipe"]) fun _ _ _ _ _ _ us hl => match us, hl with | [_, _], _ => rfl
  have g11 := PySem.W.mg_of X G a11
  have b12 := F12.binds (ps := ["sign", "one", "other"]) fun _ _ _ _ _ _ us hl => match us, hl with | [_, _, _], _ => rfl
  have g12 := PySem.W.mg_of X G a12
  have b13 := F13.binds (ps := ["_law_script", "_law_at"]) fun _ _ _ _ _ _ us hl => match us, hl with | [_, _], _ => rfl
  have g13 := PySem.W.mg_of X G a13
  have b14 := F14.binds (ps := ["_law_bag_here", "_law_many"]) fun _ _ _ _ _ _ us hl => match us, hl with | [_, _], _ => rfl
  have g14 := PySem.W.mg_of X G a14
  have b15 := F15.binds (ps := ["_law_bag_here"]) fun _ _ _ _ _ _ us hl => match us, hl with | [_], _ => rfl
  have g15 := PySem.W.mg_of X G a15
  have b16 := F16.binds (ps := ["_law_bag_here", "_law_deep", "_law_left"]) fun _ _ _ _ _ _ us hl => match us, hl with | [_, _, _], _ => rfl
  have g16 := PySem.W.mg_of X G a16
  have b17 := F17.binds (ps := ["_law_node", "_law_value"]) fun _ _ _ _ _ _ us hl => match us, hl with | [_, _], _ => rfl
  have g17 := PySem.W.mg_of X G a17
  have b18 := F18.binds (ps := ["sign", "told"]) fun _ _ _ _ _ _ us hl => match us, hl with | [_, _], _ => rfl
  have g18 := PySem.W.mg_of X G a18
  have b19 := F19.binds (ps := ["step", "number", "told", "look"]) fun _ _ _ _ _ _ us hl => match us, hl with | [_, _, _, _], _ => rfl
  have g19 := PySem.W.mg_of X G a19
  have b20 := F20.binds (ps := ["recipe", "look"]) fun _ _ _ _ _ _ us hl => match us, hl with | [_, _], _ => rfl
  have g20 := PySem.W.mg_of X G a20
  have b21 := F21.binds (ps := ["recipe"]) fun _ _ _ _ _ _ us hl => match us, hl with | [_], _ => rfl
  have g21 := PySem.W.mg_of X G a21
  have b22 := F22.binds (ps := ["recipe"]) fun _ _ _ _ _ _ us hl => match us, hl with | [_], _ => rfl
  have g22 := PySem.W.mg_of X G a22
  have b23 := F23.binds (ps := ["letters", "limit"]) fun _ _ _ _ _ _ us hl => match us, hl with | [_, _], _ => rfl
  have g23 := PySem.W.mg_of X G a23
  have b24 := F24.binds (ps := ["recipe"]) fun _ _ _ _ _ _ us hl => match us, hl with | [_], _ => rfl
  have g24 := PySem.W.mg_of X G a24
  have b25 := F25.binds (ps := ["rows"]) fun _ _ _ _ _ _ us hl => match us, hl with | [_], _ => rfl
  have g25 := PySem.W.mg_of X G a25
  have b26 := F26.binds (ps := ["recipe"]) fun _ _ _ _ _ _ us hl => match us, hl with | [_], _ => rfl
  have g26 := PySem.W.mg_of X G a26
  have b27 := F27.binds (ps := ["recipe"]) fun _ _ _ _ _ _ us hl => match us, hl with | [_], _ => rfl
  have g27 := PySem.W.mg_of X G a27
  have b28 := F28.binds (ps := ["thing"]) fun _ _ _ _ _ _ us hl => match us, hl with | [_], _ => rfl
  have g28 := PySem.W.mg_of X G a28
  have b29 := F29.binds (ps := ["_law_a", "_law_b", "_law_c", "_law_d"]) fun _ _ _ _ _ _ us hl => match us, hl with | [_, _, _, _], _ => rfl
  have g29 := PySem.W.mg_of X G a29
  have b30 := F30.binds (ps := ["_law_a", "_law_b"]) fun _ _ _ _ _ _ us hl => match us, hl with | [_, _], _ => rfl
  have g30 := PySem.W.mg_of X G a30
  have b31 := F31.binds (ps := ["_law_one", "_law_other"]) fun _ _ _ _ _ _ us hl => match us, hl with | [_, _], _ => rfl
  have g31 := PySem.W.mg_of X G a31
  have b32 := F32.binds (ps := ["_law_one", "_law_other", "_law_value"]) fun _ _ _ _ _ _ us hl => match us, hl with | [_, _, _], _ => rfl
  have g32 := PySem.W.mg_of X G a32
  have E0 := fun_mk (st := mShape_init) lM0 cM0 kM0
  have d0 := E0.binds (ps := ["self", "recipe", "before"]) fun _ _ _ _ _ _ us hl => match us, hl with | [_, _, _], _ => rfl
  have m0 : Meth K C "__init__" h0 := ⟨aM0, iM0, kM0⟩
  have E1 := fun_mk (st := mShape_contains) lM1 cM1 kM1
  have d1 := E1.binds (ps := ["self", "x"]) fun _ _ _ _ _ _ us hl => match us, hl with | [_, _], _ => rfl
  have m1 : Meth K C "__contains__" h1 := ⟨aM1, iM1, kM1⟩
  have E2 := fun_mk (st := mShape_or) lM2 cM2 kM2
  have d2 := E2.binds (ps := ["self", "other"]) fun _ _ _ _ _ _ us hl => match us, hl with | [_, _], _ => rfl
  have m2 : Meth K C "__or__" h2 := ⟨aM2, iM2, kM2⟩
  have E3 := fun_mk (st := mShape_and) lM3 cM3 kM3
  have d3 := E3.binds (ps := ["self", "other"]) fun _ _ _ _ _ _ us hl => match us, hl with | [_, _], _ => rfl
  have m3 : Meth K C "__and__" h3 := ⟨aM3, iM3, kM3⟩
  have E4 := fun_mk (st := mShape_sub) lM4 cM4 kM4
  have d4 := E4.binds (ps := ["self", "other"]) fun _ _ _ _ _ _ us hl => match us, hl with | [_, _], _ => rfl
  have m4 : Meth K C "__sub__" h4 := ⟨aM4, iM4, kM4⟩
  have E5 := fun_mk (st := mShape_invert) lM5 cM5 kM5
  have d5 := E5.binds (ps := ["self"]) fun _ _ _ _ _ _ us hl => match us, hl with | [_], _ => rfl
  have m5 : Meth K C "__invert__" h5 := ⟨aM5, iM5, kM5⟩
  have E6 := fun_mk (st := mShape_eq) lM6 cM6 kM6
  have d6 := E6.binds (ps := ["self", "other"]) fun _ _ _ _ _ _ us hl => match us, hl with | [_, _], _ => rfl
  have m6 : Meth K C "__eq__" h6 := ⟨aM6, iM6, kM6⟩
  have E7 := fun_mk (st := mShape_bool) lM7 cM7 kM7
  have d7 := E7.binds (ps := ["self"]) fun _ _ _ _ _ _ us hl => match us, hl with | [_], _ => rfl
  have m7 : Meth K C "__bool__" h7 := ⟨aM7, iM7, kM7⟩
  have E8 := fun_mk (st := mShape_least) lM8 cM8 kM8
  have d8 := E8.binds (ps := ["self"]) fun _ _ _ _ _ _ us hl => match us, hl with | [_], _ => rfl
  have m8 : Meth K C "least" h8 := ⟨aM8, iM8, kM8⟩
  have E9 := fun_mk (st := mShape_within) lM9 cM9 kM9
  have d9 := E9.binds (ps := ["self", "other"]) fun _ _ _ _ _ _ us hl => match us, hl with | [_, _], _ => rfl
  have m9 : Meth K C "within" h9 := ⟨aM9, iM9, kM9⟩
  have Ecevery := fun_mk (st := mShape_every) lcevery ccevery kcevery
  have Ecnever := fun_mk (st := mShape_never) lcnever ccnever kcnever
  have Ecnothing := fun_mk (st := mShape_nothing) lcnothing ccnothing kcnothing
  have Eclists := fun_mk (st := mShape_lists) lclists cclists kclists
  have Ecnested := fun_mk (st := mShape_nested) lcnested ccnested kcnested
  have hTp : ∀ x : Str, PySem.W.nsIn K mainGlobals x = some none → mg x = none := fun x z => PySem.W.mg_none_of X G z
  have T : Ek K mg C := ⟨⟨pg, hd, po, sa⟩, nR, nP, PySem.W.mg_of X G aC⟩
  have M : Mk K C h0 := ⟨mk, aM0, iM0, kc⟩
  refine ⟨PySem.W.fnOf "law" "law" (defArgs sLaw) (defBody sLaw) (defScope sLaw) .none kV33 dc33 pm33 an33 cd33 ct33, [(cL, TB)], (spLaw K TB), fun p hp => (by cases List.mem_singleton.mp hp; exact hTab), fun p hp => (by cases List.mem_singleton.mp hp; exact nT), fun p hp => (by cases List.mem_singleton.mp hp; exact PySem.W.codeHd_of_K X chT), fun s v => .of_eq rfl, fun H a ns hl _ ht hS => ⟨a, ns, rfl, hS, hl, LamX.TabS.nil (ht (cL, TB) (by simp)), fun _ => rfl⟩, fun base _ _ TBs => ?_⟩
  have hTB : LamX.TabB base mg cL TB := TBs (cL, TB) (by simp)
  have NM : Nm mg := ⟨hTp _ zisinstance, hTp _ zlist, hTp _ ztuple⟩
  have NB : Nb mg := ⟨hTp _ zlen, hTp _ zabs, hTp _ zenumerate, hTp _ zint⟩
  have NK : Nk mg := ⟨hTp _ zstr⟩
  have NV : Nv mg := ⟨hTp _ zrange, hTp _ zsum, hTp _ zmin⟩
  have gT1 := PySem.W.mg_of X G q3
  have gL1 := PySem.W.mg_of X G q4
  have gV := PySem.W.mg_of X G aLV
  have gI := PySem.W.mg_of X G aAI
  have gN := PySem.W.mg_of X G aNP
  have hV : ∀ H, SqT K H aV leavesL := fun H => .inr ⟨_, _, _, lLV, rfl, rfl, (by show 6 ≤ sizeLine; decide), (.cons ⟨_, rfl⟩ (.cons ⟨_, rfl⟩ (.cons ⟨_, rfl⟩ (.cons ⟨_, rfl⟩ (.cons ⟨_, rfl⟩ (.cons ⟨_, rfl⟩ .nil))))))⟩
  have hI : ∀ H, SqT K H aI (allIn.map fun (n : Nat) => V.int n) := fun H => .inr ⟨_, _, _, lAI, rfl, rfl, (by show 8 ≤ sizeLine; decide), (.cons ⟨_, rfl⟩ (.cons ⟨_, rfl⟩ (.cons ⟨_, rfl⟩ (.cons ⟨_, rfl⟩ (.cons ⟨_, rfl⟩ (.cons ⟨_, rfl⟩ (.cons ⟨_, rfl⟩ (.cons ⟨_, rfl⟩ .nil))))))))⟩
  have NP : Np K aN e1 e2 e3 e4 := ⟨fun H => .inr ⟨_, _, _, lNP, rfl, rfl, (by show 4 ≤ sizeLine; decide), (.cons rfl (.cons rfl (.cons rfl (.cons rfl .nil))))⟩, fun H => .inr ⟨_, _, _, lE1, rfl, rfl, (by show 0 ≤ sizeLine; decide), .nil⟩, fun H => .inr ⟨_, _, _, lE2, rfl, rfl, (by show 0 ≤ sizeLine; decide), .nil⟩, fun H => .inr ⟨_, _, _, lE3, rfl, rfl, (by show 0 ≤ sizeLine; decide), .nil⟩, fun H => .inr ⟨_, _, _, lE4, rfl, rfl, (by show 6 ≤ sizeLine; decide), (.cons ⟨_, rfl⟩ (.cons ⟨_, rfl⟩ (.cons ⟨_, rfl⟩ (.cons ⟨_, rfl⟩ (.cons ⟨_, rfl⟩ (.cons ⟨_, rfl⟩ .nil))))))⟩⟩
  have GP : FnOk l.prog w K mg base CX0 1 f0 _ ["thing"] (spParts K) := ok_parts F0 NM
  have GRT := ok_rowT (P := l.prog) (w := w) (base := base) F1 NV gT1 gL1
  have GR := ok_row (P := l.prog) (w := w) (base := base) F2 (PySem.W.mg_of X G q5) (PySem.W.mg_of X G q2) GRT g1 k1 b1
  have GA := ok_asked (P := l.prog) (w := w) (mg := mg) (base := base) F3
  have GH := ok_hasRow (P := l.prog) (w := w) (base := base) F4 gL1 (hTp _ zmax)
  have GTo := ok_toldN (P := l.prog) (w := w) (mg := mg) (base := base) F5
  have GLo := ok_longer F6 NM NB (PySem.W.mg_of X G q0) gI hI gV hV GA g3 k3 b3 GH g4 k4 b4 GR g2 k2 b2 GTo g5 k5 b5
  have GLe := ok_leafN (P := l.prog) (w := w) (base := base) F7 NM NK NB (PySem.W.mg_of X G aAl) gL1
  have GLk := ok_look F8 NM (PySem.W.mg_of X G q1) GP g0 k0 b0 GTo g5 k5 b5 GLe g7 k7 b7
  have GMe := ok_member F9 NM gV GLk g8 k8 b8 GLe g7 k7 b7
  have GFi := ok_first (P := l.prog) (w := w) (mg := mg) (base := base) F10
  have GAb := ok_above (P := l.prog) (w := w) (base := base) F11 NB
  have GBo := ok_both (P := l.prog) (w := w) (base := base) F12 NM NB
  have NR : Nr mg := ⟨hTp _ zset, hTp _ zsorted, hTp _ zmax, hTp _ zmin, hTp _ zrange, hTp _ zall⟩
  have GB : FnOk l.prog w K mg base CX0 1 f13 _ ["_law_script", "_law_at"] (spBag K) := ok_bag (k := 0) F13 NB
  have GT : FnOk l.prog w K mg base CX0 1 f14 _ ["_law_bag_here", "_law_many"] spTake := ok_take (k := 0) F14 NB
  have Q18 := ok_comb (P := l.prog) (w := w) (mg := mg) (base := base) F18
  have Q19 := ok_inStep (P := l.prog) (w := w) (base := base) F19 Q18 g18 k18 b18
  have Q20 := ok_answers (P := l.prog) (w := w) (base := base) F20 NB Q19 g19 k19 b19
  have Q21 := ok_askedS (P := l.prog) (w := w) (base := base) F21 NM NB NR
  have Q22 := ok_letters (P := l.prog) (w := w) (base := base) F22 NR
  have Q23 := ok_lookT (P := l.prog) (w := w) (base := base) F23 NR
  have Q24 := ok_leaves (P := l.prog) (w := w) (base := base) F24 NR Q22 g22 k22 b22 Q23 g23 k23 b23 Q21 g21 k21 b21
  have Q25 := ok_listRows (P := l.prog) (w := w) (mg := mg) (base := base) F25
  have Q26 := ok_rows (P := l.prog) (w := w) (base := base) F26 NM Q24 g24 k24 b24 Q25 g25 k25 b25 Q20 g20 k20 b20
  have Q27 := ok_least (P := l.prog) (w := w) (base := base) F27 ecd hTB NR Q26 g26 k26 b26
  have Q28 : FnOk l.prog w K mg base CX0 5 f28 _ ["thing"] (spCopy K) := ok_copy (k := 3) F28 NM F0 b0 g0
  have GBX := ok_bothX (P := l.prog) (w := w) (base := base) F12 NM NB
  have I0 := ok_initS E0 T GLo g6 k6 b6
  have I9 := ok_conS E1 T hV GMe g9 k9 b9
  have Y1 := ok_every Ecevery M I0 d0 GFi g10 k10 b10 NP gN
  have Y2 := ok_never Ecnever M I0 d0 GFi g10 k10 b10 NP gN
  have Y3 := ok_nothing Ecnothing M I0 d0 GFi g10 k10 b10 NP gN
  have Y5 := ok_listsS Eclists T M I0 d0 GAb g11 k11 b11
  have Y6 := ok_nestedS Ecnested T M I0 d0 GAb g11 k11 b11
  have ED : FunD K "texts" "Shape.texts" (defArgs mShape_texts) (defBody mShape_texts) (defScope mShape_texts) [.int ((0 : Nat) : Int), hiV none] [] h_texts _ := ⟨⟨occtexts, odctexts, .ref TD, kVctexts, dcctexts, pmctexts, anctexts, cdctexts, ctctexts, slctexts, rfl, lctexts, cctexts, .inr ⟨by simp, TD, _, [.int 0 tD, .none], nlTD, rfl, lTD, rfl, .cons ⟨_, rfl⟩ (.cons rfl .nil)⟩, .inl rfl⟩, kctexts⟩
  have Y4 := ok_texts ED M I0 d0 GFi g10 k10 b10 NP gN
  obtain ⟨ds0, vd0, bd0⟩ := FunD.binds1 (ps := ["cls", "least", "most"]) ED 1 0 (by simp) rfl (fun T kV doc pm an cdv ct us its hu hi => match us, its, hu, hi with | [_], [_, _], _, _ => ⟨_, rfl, rfl⟩)
  obtain ⟨ds1, vd1, bd1⟩ := FunD.binds1 (ps := ["cls", "least", "most"]) ED 2 1 (by simp) rfl (fun T kV doc pm an cdv ct us its hu hi => match us, its, hu, hi with | [_, _], [_, _], _, _ => ⟨_, rfl, rfl⟩)
  obtain ⟨ds2, vd2, bd2⟩ := FunD.binds1 (ps := ["cls", "least", "most"]) ED 3 2 (by simp) rfl (fun T kV doc pm an cdv ct us its hu hi => match us, its, hu, hi with | [_, _, _], [_, _], _, _ => ⟨_, rfl, rfl⟩)
  have R40 : FnR l.prog w K mg base CX0 6 h_texts (fun vs H Q E => spTexts K C (vs ++ [.int ((0 : Nat) : Int), hiV none]) H Q E) := FnOk.raw Y4 bd0 vd0
  have R41 : FnR l.prog w K mg base CX0 6 h_texts (fun vs H Q E => spTexts K C (vs ++ [hiV none]) H Q E) := FnOk.raw Y4 bd1 vd1
  have R42 : FnR l.prog w K mg base CX0 6 h_texts (spTexts K C) := (FnOk.raw Y4 bd2 vd2).imp fun vs H Q E h => by
    rw [show ([V.int ((0 : Nat) : Int), hiV none] : List V).drop 2 = [] from rfl, List.append_nil]
    exact h
  have RY1 : FnR l.prog w K mg base CX0 6 h_every (spOne K C .every) := (FnOk.raw Y1 (Ecevery.binds (ps := ["cls"]) fun _ _ _ _ _ _ us hl => match us, hl with | [_], _ => rfl) .nil).imp fun vs H Q E h => by
    rw [List.append_nil]
    exact h
  have RY2 : FnR l.prog w K mg base CX0 6 h_never (spOne K C .never) := (FnOk.raw Y2 (Ecnever.binds (ps := ["cls"]) fun _ _ _ _ _ _ us hl => match us, hl with | [_], _ => rfl) .nil).imp fun vs H Q E h => by
    rw [List.append_nil]
    exact h
  have RY3 : FnR l.prog w K mg base CX0 6 h_nothing (spOne K C .nothing) := (FnOk.raw Y3 (Ecnothing.binds (ps := ["cls"]) fun _ _ _ _ _ _ us hl => match us, hl with | [_], _ => rfl) .nil).imp fun vs H Q E h => by
    rw [List.append_nil]
    exact h
  have RY5 : FnR l.prog w K mg base CX0 6 h_lists (spOver K C .lists) := (FnOk.raw Y5 (Eclists.binds (ps := ["cls", "shape"]) fun _ _ _ _ _ _ us hl => match us, hl with | [_, _], _ => rfl) .nil).imp fun vs H Q E h => by
    rw [List.append_nil]
    exact h
  have RY6 : FnR l.prog w K mg base CX0 6 h_nested (spOver K C .nested) := (FnOk.raw Y6 (Ecnested.binds (ps := ["cls", "shape"]) fun _ _ _ _ _ _ us hl => match us, hl with | [_, _], _ => rfl) .nil).imp fun vs H Q E h => by
    rw [List.append_nil]
    exact h
  have cr : ClX.CRead K C (.type "type") := ⟨rdO, gaO⟩
  have O1 := ok_orS E2 T M I0 d0 GBo g12 k12 b12
  have O2 := ok_andS E3 T M I0 d0 GBo g12 k12 b12
  have O3 := ok_subS E4 T M I0 d0 GBo g12 k12 b12
  have O4 := ok_invS E5 T M I0 d0 GAb g11 k11 b11
  have J : Isi K C := ⟨ha, hn, ht, hm, kit_self⟩
  have O6 := ok_eqS E6 T NM J Q27 g27 k27 b27 GBX g12 k12 b12
  have O7 := ok_boolS E7 T (hTp _ zbool) Q27 g27 k27 b27
  have O8 := ok_leastS (k := 0) (fP := f0) E8 T Q27 g27 k27 b27 Q28 g28 k28 b28
  have O9 := ok_inS E9 T Q27 g27 k27 b27 GBX g12 k12 b12
  have LF : Lf l.prog w K mg base C (.type "type") f14 h_every h_never h_nothing h_texts pevery pnever pnothing ptexts _ := ⟨GT, b14, g14, k14, cr, ⟨fc_every, ⟨_, r_every⟩, f_every⟩, ⟨fc_never, ⟨_, r_never⟩, f_never⟩, ⟨fc_nothing, ⟨_, r_nothing⟩, f_nothing⟩, ⟨fc_texts, ⟨_, r_texts⟩, f_texts⟩, RY1, RY2, RY3, R40, R41, R42⟩
  have GLf := ok_leafS F15 T LF
  have LH : Lh l.prog w K mg base C (.type "type") f14 f15 h_lists h_nested plists pnested h5 h2 h3 h4 _ _ _ _ _ _ := ⟨GT, b14, g14, k14, GLf, b15, g15, k15, cr, ⟨fc_lists, ⟨_, r_lists⟩, f_lists⟩, ⟨fc_nested, ⟨_, r_nested⟩, f_nested⟩, RY5, RY6, O4, O1, O2, O3, m5, m2, m3, m4, d5, d2, d3, d4, sF⟩
  have GSh := ok_shape F16 b16 g16 T LH 2
  have GHa := ok_has (P := l.prog) (w := w) (base := base) F17 b17 g17 NM NK NB ⟨hTp _ zall⟩ 10
  have LC : Lc l.prog w K mg base C TB h6 h9 h7 h4 h1 _ _ _ _ _ := ⟨O6, O9, O7, O3, I9, m6, m9, m7, m4, m1, d6, d9, d7, d4, d1, sF, nE, oC, hTp _ zbool⟩
  have GPl := ok_plain F29 T LH LF
  have GNe := ok_nest F30 T LH LF
  have GSa := ok_same F31 T LC
  have GDi := ok_diff F32 T LC
  have OT : Oth K C := ⟨fun t h => (by simp only [List.mem_cons, List.not_mem_nil, or_false] at h; rcases h with rfl | rfl | rfl | rfl | rfl | rfl <;> assumption), fun t h => (by simp only [List.mem_cons, List.not_mem_nil, or_false] at h; rcases h with rfl | rfl | rfl | rfl | rfl | rfl <;> exact kit_of hd tC (by assumption))⟩
  exact ok_law F33 ⟨hTp _ zmax⟩ NB NV T LH LC ⟨GB, b13, g13, k13, GSh, b16, g16, k16, GPl, b29, g29, k29, GNe, b30, g30, k30, GSa, b31, g31, k31, GHa, b17, g17, k17, GDi, b32, g32, k32, O8, m8, d8⟩ OT
end TX
open PySem PySem.W PyProof.Rows
set_option maxRecDepth 100000 in
set_option maxHeartbeats 0 in
theorem PySem.Challenge.cw_textorlist_k18_equal_shapes_holds : PySem.Challenge.rw_textorlist_k18_equal_shapes.Holds := by
  w_on; o_law; k_head; (case hw => w_witness2)
  k_fill
  refine LamX.walk_ofTs (l := PySem.Challenge.rw_textorlist_k18_equal_shapes) (n := 63) (k := 12) (CX := fun _ => L2.CX0) (x := "_law_script") rfl (by decide) rfl ⟨rfl, by decide, by decide⟩ (fun w h Y => PySem.W.km_in_of Y) ?F (fun _ _ _ _ _ z => z)
  case F =>
    intro w mg fa h Y KX G hmg
    have tabs := PySem.W.km_tabs_of Y
    refine' TX.all_mk KX G hmg ?a0 ?l0 ?c0 ?k0 ?a1 ?l1 ?c1 ?k1 ?a2 ?l2 ?c2 ?k2 ?a3 ?l3 ?c3 ?k3 ?a4 ?l4 ?c4 ?k4 ?a5 ?l5 ?c5 ?k5 ?a6 ?l6 ?c6 ?k6 ?a7 ?l7 ?c7 ?k7 ?a8 ?l8 ?c8 ?k8 ?a9 ?l9 ?c9 ?k9 ?a10 ?l10 ?c10 ?k10 ?a11 ?l11 ?c11 ?k11 ?a12 ?l12 ?c12 ?k12 ?a13 ?l13 ?c13 ?k13 ?a14 ?l14 ?c14 ?k14 ?a15 ?l15 ?c15 ?k15 ?a16 ?l16 ?c16 ?k16 ?a17 ?l17 ?c17 ?k17 ?a18 ?l18 ?c18 ?k18 ?a19 ?l19 ?c19 ?k19 ?a20 ?l20 ?c20 ?k20 ?a21 ?l21 ?c21 ?k21 ?a22 ?l22 ?c22 ?k22 ?a23 ?l23 ?c23 ?k23 ?a24 ?l24 ?c24 ?k24 ?a25 ?l25 ?c25 ?k25 ?a26 ?l26 ?c26 ?k26 ?a27 ?l27 ?c27 ?k27 ?a28 ?l28 ?c28 ?k28 ?a29 ?l29 ?c29 ?k29 ?a30 ?l30 ?c30 ?k30 ?a31 ?l31 ?c31 ?k31 ?a32 ?l32 ?c32 ?k32 ?a33 ?l33 ?c33 ?k33 ?aC ?aM0 ?lM0 ?cM0 ?kM0 ?iM0 ?aM1 ?lM1 ?cM1 ?kM1 ?iM1 ?aM2 ?lM2 ?cM2 ?kM2 ?iM2 ?aM3 ?lM3 ?cM3 ?kM3 ?iM3 ?aM4 ?lM4 ?cM4 ?kM4 ?iM4 ?aM5 ?lM5 ?cM5 ?kM5 ?iM5 ?aM6 ?lM6 ?cM6 ?kM6 ?iM6 ?aM7 ?lM7 ?cM7 ?kM7 ?iM7 ?aM8 ?lM8 ?cM8 ?kM8 ?iM8 ?aM9 ?lM9 ?cM9 ?kM9 ?iM9 ?pg ?hd ?po ?sa ?mk ?kc ?nR ?nP ?ha ?hn ?ht ?hm ?tC ?uS ?uL ?uN ?aAl ?q0 ?q1 ?q2 ?q3 ?q4 ?q5 ?aLV ?lLV ?aAI ?lAI ?aNP ?lNP ?lE1 ?lE2 ?lE3 ?lE4 ?rdO ?gaO ?sF ?nE ?oC ?uB ?uI ?uT ?a_every ?r_every ?f_every ?fc_every ?a_never ?r_never ?f_never ?fc_never ?a_nothing ?r_nothing ?f_nothing ?fc_nothing ?a_texts ?r_texts ?f_texts ?fc_texts ?a_lists ?r_lists ?f_lists ?fc_lists ?a_nested ?r_nested ?f_nested ?fc_nested ?lcevery ?ccevery ?kcevery ?lcnever ?ccnever ?kcnever ?lcnothing ?ccnothing ?kcnothing ?lctexts ?cctexts ?kctexts ?lclists ?cclists ?kclists ?lcnested ?ccnested ?kcnested ?lTD ?ecd ?lcL ?pT ?nT ?chT ?hTab ?zisinstance ?zlist ?ztuple ?zlen ?zabs ?zenumerate ?zint ?zrange ?zsum ?zmin ?zmax ?zstr ?zall ?zset ?zsorted ?zbool
    (case a0 => k_is)
    (case l0 => k_is)
    (case c0 => k_is)
    (case k0 => k_is)
    (case a1 => k_is)
    (case l1 => k_is)
    (case c1 => k_is)
    (case k1 => k_is)
    (case a2 => k_is)
    (case l2 => k_is)
    (case c2 => k_is)
    (case k2 => k_is)
    (case a3 => k_is)
    (case l3 => k_is)
    (case c3 => k_is)
    (case k3 => k_is)
    (case a4 => k_is)
    (case l4 => k_is)
    (case c4 => k_is)
    (case k4 => k_is)
    (case a5 => k_is)
    (case l5 => k_is)
    (case c5 => k_is)
    (case k5 => k_is)
    (case a6 => k_is)
    (case l6 => k_is)
    (case c6 => k_is)
    (case k6 => k_is)
    (case a7 => k_is)
    (case l7 => k_is)
    (case c7 => k_is)
    (case k7 => k_is)
    (case a8 => k_is)
    (case l8 => k_is)
    (case c8 => k_is)
    (case k8 => k_is)
    (case a9 => k_is)
    (case l9 => k_is)
    (case c9 => k_is)
    (case k9 => k_is)
    (case a10 => k_is)
    (case l10 => k_is)
    (case c10 => k_is)
    (case k10 => k_is)
    (case a11 => k_is)
    (case l11 => k_is)
    (case c11 => k_is)
    (case k11 => k_is)
    (case a12 => k_is)
    (case l12 => k_is)
    (case c12 => k_is)
    (case k12 => k_is)
    (case a13 => k_is)
    (case l13 => k_is)
    (case c13 => k_is)
    (case k13 => k_is)
    (case a14 => k_is)
    (case l14 => k_is)
    (case c14 => k_is)
    (case k14 => k_is)
    (case a15 => k_is)
    (case l15 => k_is)
    (case c15 => k_is)
    (case k15 => k_is)
    (case a16 => k_is)
    (case l16 => k_is)
    (case c16 => k_is)
    (case k16 => k_is)
    (case a17 => k_is)
    (case l17 => k_is)
    (case c17 => k_is)
    (case k17 => k_is)
    (case a18 => k_is)
    (case l18 => k_is)
    (case c18 => k_is)
    (case k18 => k_is)
    (case a19 => k_is)
    (case l19 => k_is)
    (case c19 => k_is)
    (case k19 => k_is)
    (case a20 => k_is)
    (case l20 => k_is)
    (case c20 => k_is)
    (case k20 => k_is)
    (case a21 => k_is)
    (case l21 => k_is)
    (case c21 => k_is)
    (case k21 => k_is)
    (case a22 => k_is)
    (case l22 => k_is)
    (case c22 => k_is)
    (case k22 => k_is)
    (case a23 => k_is)
    (case l23 => k_is)
    (case c23 => k_is)
    (case k23 => k_is)
    (case a24 => k_is)
    (case l24 => k_is)
    (case c24 => k_is)
    (case k24 => k_is)
    (case a25 => k_is)
    (case l25 => k_is)
    (case c25 => k_is)
    (case k25 => k_is)
    (case a26 => k_is)
    (case l26 => k_is)
    (case c26 => k_is)
    (case k26 => k_is)
    (case a27 => k_is)
    (case l27 => k_is)
    (case c27 => k_is)
    (case k27 => k_is)
    (case a28 => k_is)
    (case l28 => k_is)
    (case c28 => k_is)
    (case k28 => k_is)
    (case a29 => k_is)
    (case l29 => k_is)
    (case c29 => k_is)
    (case k29 => k_is)
    (case a30 => k_is)
    (case l30 => k_is)
    (case c30 => k_is)
    (case k30 => k_is)
    (case a31 => k_is)
    (case l31 => k_is)
    (case c31 => k_is)
    (case k31 => k_is)
    (case a32 => k_is)
    (case l32 => k_is)
    (case c32 => k_is)
    (case k32 => k_is)
    (case a33 => k_is)
    (case l33 => k_is)
    (case c33 => k_is)
    (case k33 => k_is)
    (case aC => k_is)
    (case aM0 => k_is)
    (case lM0 => k_is)
    (case cM0 => k_is)
    (case kM0 => k_is)
    (case iM0 => k_is)
    (case aM1 => k_is)
    (case lM1 => k_is)
    (case cM1 => k_is)
    (case kM1 => k_is)
    (case iM1 => k_is)
    (case aM2 => k_is)
    (case lM2 => k_is)
    (case cM2 => k_is)
    (case kM2 => k_is)
    (case iM2 => k_is)
    (case aM3 => k_is)
    (case lM3 => k_is)
    (case cM3 => k_is)
    (case kM3 => k_is)
    (case iM3 => k_is)
    (case aM4 => k_is)
    (case lM4 => k_is)
    (case cM4 => k_is)
    (case kM4 => k_is)
    (case iM4 => k_is)
    (case aM5 => k_is)
    (case lM5 => k_is)
    (case cM5 => k_is)
    (case kM5 => k_is)
    (case iM5 => k_is)
    (case aM6 => k_is)
    (case lM6 => k_is)
    (case cM6 => k_is)
    (case kM6 => k_is)
    (case iM6 => k_is)
    (case aM7 => k_is)
    (case lM7 => k_is)
    (case cM7 => k_is)
    (case kM7 => k_is)
    (case iM7 => k_is)
    (case aM8 => k_is)
    (case lM8 => k_is)
    (case cM8 => k_is)
    (case kM8 => k_is)
    (case iM8 => k_is)
    (case aM9 => k_is)
    (case lM9 => k_is)
    (case cM9 => k_is)
    (case kM9 => k_is)
    (case iM9 => k_is)
    (case pg => k_is)
    (case hd => k_is)
    (case po => k_is)
    (case sa => k_is)
    (case mk => k_is)
    (case kc => k_is)
    (case nR => k_is)
    (case nP => k_is)
    (case ha => k_is)
    (case hn => k_is)
    (case ht => k_is)
    (case hm => k_is)
    (case tC => k_is)
    (case uS => k_is)
    (case uL => k_is)
    (case uN => k_is)
    (case aAl => k_is)
    (case q0 => k_is)
    (case q1 => k_is)
    (case q2 => k_is)
    (case q3 => k_is)
    (case q4 => k_is)
    (case q5 => k_is)
    (case aLV => k_is)
    (case lLV => k_is)
    (case aAI => k_is)
    (case lAI => k_is)
    (case aNP => k_is)
    (case lNP => k_is)
    (case lE1 => k_is)
    (case lE2 => k_is)
    (case lE3 => k_is)
    (case lE4 => k_is)
    (case rdO => first | k_is | rfl | decide +kernel)
    (case gaO => first | k_is | rfl | decide +kernel)
    (case sF => first | k_is | rfl | decide +kernel)
    (case nE => k_is)
    (case oC => k_is)
    (case uB => k_is)
    (case uI => k_is)
    (case uT => k_is)
    (case a_every => k_is)
    (case r_every => first | k_is | rfl | decide +kernel)
    (case f_every => first | k_is | rfl | decide +kernel)
    (case fc_every => first | k_is | rfl | decide +kernel)
    (case a_never => k_is)
    (case r_never => first | k_is | rfl | decide +kernel)
    (case f_never => first | k_is | rfl | decide +kernel)
    (case fc_never => first | k_is | rfl | decide +kernel)
    (case a_nothing => k_is)
    (case r_nothing => first | k_is | rfl | decide +kernel)
    (case f_nothing => first | k_is | rfl | decide +kernel)
    (case fc_nothing => first | k_is | rfl | decide +kernel)
    (case a_texts => k_is)
    (case r_texts => first | k_is | rfl | decide +kernel)
    (case f_texts => first | k_is | rfl | decide +kernel)
    (case fc_texts => first | k_is | rfl | decide +kernel)
    (case a_lists => k_is)
    (case r_lists => first | k_is | rfl | decide +kernel)
    (case f_lists => first | k_is | rfl | decide +kernel)
    (case fc_lists => first | k_is | rfl | decide +kernel)
    (case a_nested => k_is)
    (case r_nested => first | k_is | rfl | decide +kernel)
    (case f_nested => first | k_is | rfl | decide +kernel)
    (case fc_nested => first | k_is | rfl | decide +kernel)
    (case lcevery => k_is)
    (case ccevery => k_is)
    (case kcevery => k_is)
    (case lcnever => k_is)
    (case ccnever => k_is)
    (case kcnever => k_is)
    (case lcnothing => k_is)
    (case ccnothing => k_is)
    (case kcnothing => k_is)
    (case lctexts => k_is)
    (case cctexts => k_is)
    (case kctexts => k_is)
    (case lclists => k_is)
    (case cclists => k_is)
    (case kclists => k_is)
    (case lcnested => k_is)
    (case ccnested => k_is)
    (case kcnested => k_is)
    (case lTD => k_is)
    (case ecd => rfl)
    (case lcL => first | k_is | rfl | decide +kernel)
    (case pT => rfl)
    (case nT => first | kernel_rfl | k_is | rfl | decide +kernel)
    (case chT => first | kernel_rfl | k_is | rfl | decide +kernel)
    (case hTab => exact tabs _ (by k_mem))
    (case zisinstance => k_is)
    (case zlist => k_is)
    (case ztuple => k_is)
    (case zlen => k_is)
    (case zabs => k_is)
    (case zenumerate => k_is)
    (case zint => k_is)
    (case zrange => k_is)
    (case zsum => k_is)
    (case zmin => k_is)
    (case zmax => k_is)
    (case zstr => k_is)
    (case zall => k_is)
    (case zset => k_is)
    (case zsorted => k_is)
    (case zbool => k_is)
