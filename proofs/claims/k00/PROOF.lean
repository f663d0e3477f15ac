import PyProof.Rows.All
import Wide.All
import OpenK.AllK
import Wide.FinOn
import HandS.ForMost
import HandS.IsInst
import HandS.DeepEq
import HandS.TupAny
import PySem.Challenge.RW_endsahead_k00_errors_and_words_of_any_va
import HandS.Codes
import HandS.ExcIs
import KE.KExcIs
import HandS.Walk
import HandS.Zip
import HandS.ExcValue
import HandS.ExcOwn
import PyProof.ReprLen
import HandS.TupMul
set_option Elab.async false
set_option linter.all false
set_option maxRecDepth 100000
/-! Promises of defs that are called where no repr is under way, and repr of data. -/
namespace Gd
open PySem PySem.Spec PyProof.Rows L2

/-! ### a promise that holds where nothing is being shown -/
structure FnG (P : Program) (w : World) (K : PySem.W.Frag) (mg : Str → Option Value) (base : Heap) (k : Nat) (f : Addr) (fd : FuncData) (ps : List Str) (sp : Sp) : Prop where
  len : ∀ vs H Q E, sp vs H Q E → vs.length = ps.length
  go : ∀ {A : Around} {outer : List Env} {s : Shared} {H : Hp} {args : Args} {us : List Value} {vs : List V} {Q : VK} {E : XK},
    A.guards = some [] → Room k A → Env0 P w K mg base A outer s H → BindsTo s fd args (ps.zip us) → Vals vs us → sp vs H Q E →
    codeAny (model P w) A (.call (.ref f) args) (CR CX0 outer P w H s Q E) s

section
variable {P : Program} {w : World} {K : PySem.W.Frag} {mg : Str → Option Value} {base : Heap}
theorem FnG.of {k : Nat} {f : Addr} {fd : FuncData} {ps : List Str} {sp : Sp} (F : FnOk P w K mg base CX0 k f fd ps sp) : FnG P w K mg base k f fd ps sp :=
  ⟨F.len, fun {A outer s H args us vs Q E} _ hr e0 hb r h => F.run A outer s H args us vs Q E hr e0 hb r h⟩

theorem okG {x qual : Str} {st : Stmt} {f : Addr} {fd : FuncData} {N ps : List Str} {k : Nat} {sp : Sp} (F : Fun K x qual st f fd) (S : FnScope N ps (defScope st))
    (len : ∀ vs H Q E, sp vs H Q E → vs.length = ps.length)
    (body : ∀ (cdv : Value) (A : Around) (outer : List Env) (s : Shared) (H : Hp) (vs : List V) (Q : VK) (E : XK), A.guards = some [] →
      Room k (A.deeper (envOfC qual (defScope st) s.heap.objs.size f cdv)) → sp vs H Q E →
      ∃ t, PSs (cxOf CX0 P w K mg base N qual (defScope st) f cdv A outer s H E).nox (defBody st) t ∧
        t { nx := fun _ H' => Q .non H', rt := Q } (start N vs) H) : FnG P w K mg base (k + 1) f fd ps sp := by
  obtain ⟨oc, od, kV, doc, pm, an, cdv, ct, osl, rfl, lk, hcd⟩ := F.ex
  refine ⟨len, fun {A outer s H args us vs Q E} hg hr e0 hb r hsp => ?_⟩
  have nv := len _ _ _ _ hsp
  have there : ∀ b o, base.get? b = some o → s.heap.get? b = some o := fun b o e => (e0.bs b o e).1
  have kin : K.In s.heap := e0.mod.kin.keeps there
  refine Att.call_fn kin (e0.mod.nolimit.keeps there) lk hcd hr.depth hb ?_ (fun s1 x => ?_) S.co S.gen S.kind
  · rw [List.all_eq_true]
    rintro ⟨n, v⟩ hy
    have hp := S.par n (List.of_mem_zip hy).1
    simp only [Bool.or_eq_true, beq_iff_eq]
    exact hp
  · obtain ⟨t, ht, hq⟩ := body cdv A outer s H vs Q E hg (hr.deeper _) hsp
    have I := inv_start (CX := CX0) (E := E) (P := P) (w := w) (f := f) (cd := cdv) S hr.hd e0 nv r x
    refine wpAny_mono (ht.nox.run [] s1 (start N vs) H _ I hq) ?_ fun e s' hs => hs
    intro fl s' hs
    cases fl with
    | next =>
      obtain ⟨σ', H', J, q⟩ := hs
      exact ⟨.non, H', J.os, J.bare, J.base, J.hok, rfl, q⟩
    | brk =>
      obtain ⟨_, _, _, q⟩ := hs
      exact q.elim
    | cont =>
      obtain ⟨_, _, _, q⟩ := hs
      exact q.elim
    | ret u =>
      obtain ⟨v, σ', H', J, rv, q⟩ := hs
      exact ⟨v, H', J.os, J.bare, J.base, J.hok, rv, q⟩
end

section
variable {X : Cx} {k : Nat} {f : Addr} {fd : FuncData} {ps : List Str} {sp : Sp} {x : Str} {p pos : Pos} {e : Expr} {es : List Expr} {t : TA} {E : XK}
theorem runG {pins : List (Addr × Obj)} {σ : L2.St} {H : Hp} {s : Shared} {Q : VK} {us : List Value} {vs : List V} (F : FnG X.prog X.w X.K X.mg X.base k f fd ps sp) (hg : X.A.guards = some []) (hr : Room k X.A)
    (hb : Binds X.K fd ps []) (I : Inv X pins σ H s) (r : Vals vs us) (h : sp vs H Q E) : wpAny (model X.prog X.w) X.A (call (.ref f) us) (EP X pins σ Q) X.xe s := by
  have hl : (us ++ []).length = ps.length := by
    rw [List.append_nil, ← r.length]
    exact F.len _ _ _ _ h
  have hb' := hb s us I.kIn hl
  rw [List.append_nil] at hb'
  refine wpAny_call (codeAny_mono (F.go (E := E) hg hr I.env0 hb' r h) ?_)
  intro r s' hq
  cases r with
  | error e => exact False.elim hq
  | ok fl =>
    cases fl with
    | ret u => exact I.after hq
    | next => exact False.elim hq
    | brk => exact False.elim hq
    | cont => exact False.elim hq
/-- f(..) of such a def, from a body that stands likewise -/
theorem pe_callG (F : FnG X.prog X.w X.K X.mg X.base k f fd ps sp) (hgd : X.A.guards = some []) (hr : Room k X.A) (hg : Gl X x) (hm : X.mg x = some (.ref f)) (hk : PySem.W.keepIn X.K (.ref f) = true) (hb : Binds X.K fd ps [])
    (ha : PA X (e :: es) t) (hdb : (x == ("__debug__" : Str)) = false := by decide) (he : starEach (e :: es) X.env = (false, eval e X.env) :: starEach es X.env := by rfl)
    (hpl : (backTo pos (starEach es X.env)).any (·.1) = false := by rfl) : PE X (.Call (.Name x p) (e :: es) [] pos) (fun σ H Q => t σ H fun vs H1 => sp vs H1 Q E0) := by
  refine ⟨fun pins s σ H Q I h => ?_⟩
  refine wpAny_Call_Name_kw (ld_glob I hg hm ?_ hdb)
  refine PySem.W.callWith_K (h₀ := X.base) I.ok.mod.kin hk ?_ he hpl
  refine thn (ha.run pos pins s σ H _ I h) ?_
  rintro us s1 ⟨vs, H1, I1, r, q⟩
  exact ⟨I1.kIn, runG (E := E0) F hgd hr hb I1 r q⟩
end

/-! ### the law's own head -/
section
variable {P : Program} {w : World} {K : PySem.W.Frag} {mg mb : Str → Option Value} {k : Nat} {fa a : Addr} {fd : FuncData} {x : Str} {sp : Sp} {s1 : Shared} {vs : List Value} {ns : List Int}
/-- what is wanted behind the law's call -/
abbrev Want (s1 : Shared) (r : Result) (s' : Shared) : Prop := r = .ok (.ret (.bool true)) ∧ OldK s1.heap s'.heap ∧ s'.os = s1.os ∧ AllBare s'.gens

theorem head_at (H : Hp) (KX : K.In s1.heap) (hns : s1.heap.Ns mainGlobals mg) (hb : s1.heap.Ns builtinsNs mb) (hbb : ∀ x : Str, x ≠ "__name__" → mb x = bootBuiltins x) (hlim : s1.heap.NoLimit) (hg : s1.gens = #[])
    (ha : s1.heap.get? a = some { cls := .type "list", data := .seq vs.toArray }) (hr : Room k callerA)
    (F : ∀ base : Heap, K.In base → base.Ns mainGlobals mg → FnG P w K mg base k fa fd [x] sp) (hbind : ∀ (s : Shared) (u : Value), BindsTo s fd ⟨[u], []⟩ [(x, u)])
    (hO : Only H) (hok : HOk P w H s1.heap) (hA : ∀ b o, H b = some o → b = a) (hK : ∀ o, H a = some o → K.lookup a = none)
    (h : sp [.ref a] H (fun v _ => v = .bl true) E0) : codeAny (model P w) callerA (.call (.ref fa) ⟨[.ref a], []⟩) (Want s1) s1 := by
  -- an object that is no list stands in the base
  have stay : ∀ (b : Addr) (o : Obj), s1.heap.get? b = some o → (b = a → H a = none) → (hidT s1.heap H).get? b = some o := by
    intro b o e n
    refine hidT_get e ?_
    cases q : H b with
    | none => rfl
    | some u =>
      have eb := hA b u q
      rw [eb] at q
      rw [n eb] at q
      cases q
  have space : ∀ (b : Addr) (m : Str → Option Value), s1.heap.Ns b m → (hidT s1.heap H).Ns b m := by
    rintro b m ⟨o, es, ep, e, d, r⟩
    refine ⟨o, es, ep, stay b o e fun eb => ?_, d, r⟩
    rw [eb, ha] at e
    cases e
    cases d
  have kin : K.In (hidT s1.heap H) := by
    intro b o e
    refine stay b o (KX b o e) fun eb => ?_
    cases q : H a with
    | none => rfl
    | some u =>
      have z := hK u q
      rw [← eb, e] at z
      cases z
  have md : Mod K mg (hidT s1.heap H) := by
    refine ⟨kin, space _ _ hns, ⟨mb, space _ _ hb, hbb⟩, ?_⟩
    obtain ⟨mc, h1, h2⟩ := hlim
    exact ⟨mc, space _ _ h1, h2⟩
  have none0 : ∀ b : Addr, b ∉ ([] : List Addr) := fun b z => nomatch z
  have e0 : Env0 P w K mg (hidT s1.heap H) callerA [] s1 H :=
    { frames := rfl, mod := md, bs := fun b o e => of_hidT e, bsz := Nat.le_of_eq (hidT_size _ _), funs := trivial, frf := fun b z => absurd z (none0 b), hok := hok, bare := .of_eq hg }
  refine codeAny_mono ((F _ kin (space _ _ hns)).go (E := E0) (us := [.ref a]) (vs := [.ref a]) rfl hr e0 (hbind s1 (.ref a)) (.cons rfl .nil) h) ?_
  intro r s' z
  cases r with
  | error e => exact False.elim z
  | ok fl =>
    cases fl with
    | next => exact False.elim z
    | brk => exact False.elim z
    | cont => exact False.elim z
    | ret u =>
      obtain ⟨v, H', os, bare, un, hok', rv, q⟩ := z
      have qv : v = .bl true := q
      rw [qv] at rv
      have ru : u = Value.bool true := rv
      refine ⟨by rw [ru], OldK.of_keep fun b o e => ?_, os, bare⟩
      rcases hO b with nb | ⟨ob, xs, eb⟩
      · exact un.keep b o e nb (none0 b) (none0 b)
      · have o1 := (hok b _ eb).1
        have o2 := (hok' b _ (un.frzs b ob _ eb)).1
        rw [e] at o1
        rw [o1]
        exact o2

theorem head_law (KX : K.In s1.heap) (hns : s1.heap.Ns mainGlobals mg) (hb : s1.heap.Ns builtinsNs mb) (hbb : ∀ x : Str, x ≠ "__name__" → mb x = bootBuiltins x) (hlim : s1.heap.NoLimit) (hg : s1.gens = #[])
    (ha : s1.heap.get? a = some { cls := .type "list", data := .seq vs.toArray }) (hi : IntsAre vs ns) (hl : ns.length ≤ sizeLine) (hr : Room k callerA)
    (F : ∀ base : Heap, K.In base → base.Ns mainGlobals mg → FnG P w K mg base k fa fd [x] sp) (hbind : ∀ (s : Shared) (u : Value), BindsTo s fd ⟨[u], []⟩ [(x, u)])
    (hsp : ∀ H : Hp, Only H → SqL K H a (ns.map V.int) → sp [.ref a] H (fun v _ => v = .bl true) E0) : codeAny (model P w) callerA (.call (.ref fa) ⟨[.ref a], []⟩) (Want s1) s1 := by
  have rv := vals_ints hi
  have lv : vs.length ≤ sizeLine := by
    rw [← rv.length, List.length_map]
    exact hl
  cases hk : K.lookup a with
  | some o =>
    have eo := KX a o hk
    rw [ha] at eo
    cases eo
    have hO : Only (fun _ => none) := fun _ => .inl rfl
    refine head_at (fun _ => none) KX hns hb hbb hlim hg ha hr F hbind hO ?_ ?_ ?_ (hsp _ hO (.inr ⟨_, vs.toArray, _, hk, rfl, rfl, rfl, ?_, ?_⟩))
    · intro b u z
      cases z
    · intro b o z
      cases z
    · intro o z
      cases z
    · rw [List.size_toArray]
      exact lv
    · rw [List.toList_toArray]
      exact rv
  | none =>
    let H : Hp := fun b => if b = a then some (.frz { cls := .type "list", data := .seq vs.toArray } (.lst (ns.map V.int))) else none
    have Ha : H a = some (.frz { cls := .type "list", data := .seq vs.toArray } (.lst (ns.map V.int))) := if_pos rfl
    have Hb : ∀ b, b ≠ a → H b = none := fun b n => if_neg n
    have hO : Only H := by
      intro b
      by_cases e : b = a
      · rw [e]
        exact .inr ⟨_, _, Ha⟩
      · exact .inl (Hb b e)
    refine head_at H KX hns hb hbb hlim hg ha hr F hbind hO ?_ ?_ (fun _ _ => hk) (hsp H hO (.inl (.inr ⟨_, Ha⟩)))
    · intro b u z
      by_cases e : b = a
      · rw [e] at z ⊢
        rw [Ha] at z
        cases z
        refine ⟨ha, ?_, vs, _, rv, ha⟩
        rw [List.length_map]
        exact hl
      · rw [Hb b e] at z
        cases z
    · intro b o z
      by_cases e : b = a
      · exact e
      · rw [Hb b e] at z
        cases z
end

/-- the goal behind k_head, from the law's promise -/
theorem walkG {l : PySem.W.OpenLaw} {n k : Nat} {q : Program} {loose : List Str} {XP : (Str → Option Value) → Heap → Prop} {YP : World → Heap → Prop} {d : DefRec} {K : Params → PySem.W.Frag} {sp : World → Sp} {x : Str}
    (hn : l.most = some n) (hn2 : n ≤ sizeLine) (hdf : d.params.defaults = []) (hr : Room k callerA) (hY : ∀ (w : World) (h : Heap), YP w h → (K w.params).In h)
    (F : ∀ (w : World) (mg : Str → Option Value) (fa : Addr) (h : Heap), (K w.params).In h → h.Ns mainGlobals mg → mg d.name = some (.ref fa) →
      ∃ fd : FuncData, (∀ (s : Shared) (u : Value), BindsTo s fd ⟨[u], []⟩ [(x, u)]) ∧
        ∀ base : Heap, (K w.params).In base → base.Ns mainGlobals mg → FnG l.prog w (K w.params) mg base k fa fd [x] (sp w))
    (hsp : ∀ (w : World) (H : Hp) (a : Addr) (ns : List Int), ns.length ≤ n → Only H → SqL (K w.params) H a (ns.map V.int) → sp w [.ref a] H (fun v _ => v = .bl true) E0) :
    PySem.W.WalkO q loose XP YP l.row.toRowW d [] (fun f vs => PySem.call f vs) := by
  refine Att.attach_call hn hdf ?_
  intro w s0 s1 mg mb fa o pm cd doc a vs ns G Y ho hd hcd hmg hobj hints hlen hg
  have KX := hY w _ Y
  obtain ⟨fd, hb, hF⟩ := F w mg fa _ KX G.T.g hmg
  exact head_law KX G.T.g G.T.b G.T.builtins G.T.nolimit hg hobj hints (Nat.le_trans hlen hn2) hr hF hb fun H hO hS => hsp w H a ns hlen hO hS
end Gd


set_option Elab.async false
set_option linter.all false
set_option maxRecDepth 100000
/-! Data at a value: none, truths, ints, texts, lists, tuples, dicts of flat values; repr of it; its type. -/
namespace Gd
open PySem PySem.Spec PyProof.Rows L2

def isFlat : V → Bool
  | .non => true | .bl _ => true | .int _ => true | .str _ => true | _ => false
def flatD : V → PyData
  | .bl b => .bool b | .int i => .int i | .str x => .str x | _ => .none
def keyD : Key → PyData
  | .inl i => .int i | .inr x => .str x
mutual
def hasList : PyData → Bool
  | .none => false | .bool _ => false | .int _ => false | .str _ => false
  | .list _ => true
  | .tuple xs => anyList xs
  | .dict _ => false
def anyList : List PyData → Bool
  | [] => false
  | x :: xs => hasList x || anyList xs
end
mutual
inductive Rp (K : PySem.W.Frag) (H : Hp) : V → PyData → Prop
  | non : Rp K H .non .none
  | bl (b : Bool) : Rp K H (.bl b) (.bool b)
  | int (i : Int) : Rp K H (.int i) (.int i)
  | str (x : Str) : Rp K H (.str x) (.str x)
  | lst {a : Addr} {xs : List V} {ds : List PyData} : SqL K H a xs → RpAll K H xs ds → Rp K H (.ref a) (.list ds)
  | tup {a : Addr} {xs : List V} {ds : List PyData} : SqT K H a xs → RpAll K H xs ds → Rp K H (.ref a) (.tuple ds)
  | dct {a : Addr} {kvs : List (Key × V)} : H a = some (.dK kvs) → (∀ p ∈ kvs, isFlat p.2 = true) → Rp K H (.ref a) (.dict (kvs.map fun p => (keyD p.1, flatD p.2)))
inductive RpAll (K : PySem.W.Frag) (H : Hp) : List V → List PyData → Prop
  | nil : RpAll K H [] []
  | cons {v : V} {vs : List V} {d : PyData} {ds : List PyData} : Rp K H v d → RpAll K H vs ds → RpAll K H (v :: vs) (d :: ds)
end

theorem seqT_same {K : PySem.W.Frag} {H H' : Hp} {a : Addr} {xs : List V} (e : Same H H') (h : SqT K H a xs) : SqT K H' a xs := by
  rcases h with (h | ⟨o, h⟩) | h
  · exact .inl (.inl (e _ _ h))
  · exact .inl (.inr ⟨o, e _ _ h⟩)
  · exact .inr h
mutual
theorem Rp.same {K : PySem.W.Frag} {H H' : Hp} (e : Same H H') : ∀ {v : V} {d : PyData}, Rp K H v d → Rp K H' v d
  | _, _, .non => .non
  | _, _, .bl b => .bl b
  | _, _, .int i => .int i
  | _, _, .str x => .str x
  | _, _, .lst h r => .lst (e.seq h) (RpAll.same e r)
  | _, _, .tup h r => .tup (seqT_same e h) (RpAll.same e r)
  | _, _, .dct h f => .dct (e _ _ h) f
theorem RpAll.same {K : PySem.W.Frag} {H H' : Hp} (e : Same H H') : ∀ {vs : List V} {ds : List PyData}, RpAll K H vs ds → RpAll K H' vs ds
  | _, _, .nil => .nil
  | _, _, .cons h r => .cons (Rp.same e h) (RpAll.same e r)
end

theorem flat_reads {h : Heap} {v : V} {u : Value} (f : isFlat v = true) (r : RelV v u) : Reads h u (flatD v) [] := by
  cases v with
  | non => cases r; exact .none
  | bl b => cases r; exact .bool b
  | int i => obtain ⟨t, rfl⟩ := r; exact .int i t
  | str x => obtain ⟨t, rfl⟩ := r; exact .str x t
  | byt _ => cases f
  | flt _ => cases f
  | ref _ => cases f
  | ty _ => cases f
theorem key_reads {h : Heap} {k : Key} {u : Value} (f : keyIs k u = true) : Reads h u (keyD k) [] := by
  rcases keyIs_shape f with ⟨i, t, rfl, rfl⟩ | ⟨x, t, rfl, rfl⟩
  · exact .int i t
  · exact .str x t
theorem pairs_read {P : Program} {w : World} {h : Heap} : ∀ {kvs : List (Key × V)} {vs : List (Key × Value)} {es : List DictEntry}, KV kvs vs → Pairs (mixKind P w) es vs → (∀ p ∈ kvs, isFlat p.2 = true) →
    ReadsAll h (es.map (·.key)) ((kvs.map fun p => (keyD p.1, flatD p.2)).map (·.1)) [] ∧ ReadsAll h (es.map (·.val)) ((kvs.map fun p => (keyD p.1, flatD p.2)).map (·.2)) []
  | [], _, _, .nil, .nil, _ => ⟨.nil, .nil⟩
  | p :: kvs, q :: vs, e :: es, .cons r t, .cons h1 h2 h3, hf => by
    obtain ⟨r1, r2⟩ := r
    obtain ⟨a, b⟩ := pairs_read (h := h) t h3 fun p' hp => hf p' (List.mem_cons_of_mem _ hp)
    have k1 : keyIs p.1 e.key = true := by
      rw [r1]
      exact h1
    have v1 : RelV p.2 e.val := by
      rw [h2]
      exact r2
    exact ⟨.cons (as := []) (bs := []) (key_reads k1) a, .cons (as := []) (bs := []) (flat_reads (hf p List.mem_cons_self) v1) b⟩

section
variable {X : Cx} {pins : List (Addr × Obj)} {σ : L2.St} {H : Hp} {s : Shared}
mutual
theorem Rp.reads (I : Inv X pins σ H s) : ∀ (d : PyData) (v : V) (u : Value), Rp X.K H v d → RelV v u → ∃ as, Reads s.heap u d as ∧ (hasList d = false → sysModules ∉ as)
  | .none, _, _, h, r => by
    cases h
    cases r
    exact ⟨_, .none, fun _ z => nomatch z⟩
  | .bool b, _, _, h, r => by
    cases h
    cases r
    exact ⟨_, .bool b, fun _ z => nomatch z⟩
  | .int i, _, _, h, r => by
    cases h
    obtain ⟨t, rfl⟩ := r
    exact ⟨_, .int i t, fun _ z => nomatch z⟩
  | .str x, _, _, h, r => by
    cases h
    obtain ⟨t, rfl⟩ := r
    exact ⟨_, .str x t, fun _ z => nomatch z⟩
  | .list ds, _, _, h, r => by
    cases h with
    | lst hs ha =>
      cases r
      obtain ⟨its, rv, ⟨o, n, ho, hc, _, hd⟩, _⟩ := I.list hs
      obtain ⟨as, hr, _⟩ := RpAll.reads I ds _ its ha rv
      exact ⟨_, .list ho hc hd hr, fun z => by simp [hasList] at z⟩
  | .tuple ds, _, _, h, r => by
    cases h with
    | tup hs ha =>
      cases r
      obtain ⟨its, rv, ⟨o, ho, hc, n, hd⟩, _⟩ := I.tuple hs
      obtain ⟨as, hr, hm⟩ := RpAll.reads I ds _ its ha rv
      exact ⟨_, .tuple ho hc hd hr, fun z => hm (by simpa [hasList] using z)⟩
  | .dict D, v, u, h, r => by
    cases h with
    | @dct a kvs ha hf =>
      cases r
      obtain ⟨_, hsys, vs, kv, o, es, ep, ho, ex, hd, _, hp, _⟩ := (show ObjOk X.prog X.w H s.heap a (.dK kvs) from I.hok a _ ha)
      obtain ⟨r1, r2⟩ := pairs_read (h := s.heap) kv hp hf
      refine ⟨_, .dict ho ex.1 hd r1 r2, fun _ z => ?_⟩
      have z2 : sysModules ∈ [a] := z
      have e : sysModules = a := by simpa using z2
      rw [e] at hsys
      simp at hsys
theorem RpAll.reads (I : Inv X pins σ H s) : ∀ (ds : List PyData) (vs : List V) (us : List Value), RpAll X.K H vs ds → Vals vs us → ∃ as, ReadsAll s.heap us ds as ∧ (anyList ds = false → sysModules ∉ as)
  | [], _, _, h, r => by
    cases h
    cases r
    exact ⟨_, .nil, fun _ z => nomatch z⟩
  | d :: ds, _, _, h, r => by
    cases h with
    | cons h1 h2 =>
      cases r with
      | cons r1 r2 =>
        obtain ⟨as, q1, m1⟩ := Rp.reads I d _ _ h1 r1
        obtain ⟨bs, q2, m2⟩ := RpAll.reads I ds _ _ h2 r2
        refine ⟨_, .cons q1 q2, fun z => ?_⟩
        have z' : hasList d = false ∧ anyList ds = false := by simpa [anyList] using z
        intro hm
        rcases List.mem_append.mp hm with hm | hm
        · exact m1 z'.1 hm
        · exact m2 z'.2 hm
end
end

/-- data that repr shows: no dict beside a list, ints and nesting within bounds, the text within its line -/
structure Fine (d : PyData) : Prop where
  mix : d.hasDict = true → hasList d = false
  sh : d.showable = true
  dp : d.depth ≤ 60
  sz : d.shown.length ≤ sizeLine
def rRepr (K : PySem.W.Frag) : List V → Hp → VK → Prop := fun xs H Q => ∃ v d, xs = [v] ∧ Rp K H v d ∧ Fine d ∧ Q (.str d.shown) H
theorem call_reprA {X : Cx} (hg : X.A.guards = some []) (hu : X.A.units + 64 < cLine) : CallR X (.builtin "repr") (rRepr X.K) := by
  intro pins s σ H xs us Q I r h
  obtain ⟨v, d, rfl, hv, F, q⟩ := h
  obtain ⟨u, rfl, ru⟩ := vals1 r
  have big : ∀ {a : Addr}, v = .ref a → wpAny (model X.prog X.w) X.A (call (.builtin "repr") [u]) (EP X pins σ Q) X.xe s := by
    intro a e
    subst e
    cases ru
    obtain ⟨as, rd, hm⟩ := Rp.reads I d _ _ hv rfl
    refine repr_of_reads' rd F.sh (fun z => hm (F.mix z)) hg (by have := F.dp; omega) (fun _ _ e => e) (fun h' u tk k => ?_) F.sz
    exact ⟨.str d.shown, H, I.kept (h' := h') (t' := tk) k, ⟨_, rfl⟩, q⟩
  cases v with
  | non =>
    cases hv
    cases ru
    exact PySem.P.repr_of_none ⟨.str "None", H, I.tok _, ⟨_, rfl⟩, by simpa only [PyData.shown] using q⟩
  | bl b =>
    cases hv
    cases ru
    exact PySem.P.repr_of_bool ⟨.str _, H, I.tok _, ⟨_, rfl⟩, by simpa only [PyData.shown] using q⟩
  | int i =>
    cases hv
    obtain ⟨t, rfl⟩ := ru
    have hz : i.natAbs.log2 < 1920 := by simpa [PyData.showable] using F.sh
    exact PySem.P.repr_of_int hz ⟨.str (toString i), H, I.tok _, ⟨_, rfl⟩, by simpa only [PyData.shown] using q⟩
  | str x =>
    cases hv
    obtain ⟨t, rfl⟩ := ru
    exact PySem.P.repr_of_str ⟨.str (reprText x), H, I.tok _, ⟨_, rfl⟩, by simpa only [PyData.shown] using q⟩ (by simpa only [PyData.shown] using F.sz)
  | ref a => exact big rfl
  | byt _ => cases hv
  | flt _ => cases hv
  | ty _ => cases hv
end Gd


set_option Elab.async false
set_option linter.all false
set_option maxRecDepth 100000
namespace Ke
open PySem PySem.Spec PyProof.Rows L2 Gd
open C8 (tCut pss_cut)
/-! ### the text -/
def topS (i : Nat) : Stmt := PySem.Challenge.pw_endsahead_k00_errors_and_words_of_any_va.main.body.getD i (.Pass ⟨0, 0, 0, 0⟩)
abbrev sBag : Stmt := topS 28
abbrev sTake : Stmt := topS 29
abbrev sSome : Stmt := topS 30
abbrev nBag : List Str := ["script", "cell"]
abbrev nTake : List Str := ["bag", "many", "cell", "stirred", "value", "begin", "second"]
abbrev nSome : List Str := ["bag", "things"]
theorem scBag : FnScope nBag ["script"] (defScope sBag) := ⟨rfl, rfl, rfl, by decide +kernel, rfl, by decide +kernel, by decide +kernel⟩
theorem scTake : FnScope nTake ["bag", "many"] (defScope sTake) := ⟨rfl, rfl, rfl, by decide +kernel, rfl, by decide +kernel, by decide +kernel⟩
theorem scSome : FnScope nSome ["bag", "things"] (defScope sSome) := ⟨rfl, rfl, rfl, by decide +kernel, rfl, by decide +kernel, by decide +kernel⟩

/-! ### what is still built-in -/
structure Bi (mg : Str → Option Value) : Prop where
  abs : mg "abs" = none
  int : mg "int" = none
  len : mg "len" = none
  range : mg "range" = none
  repr : mg "repr" = none
  isi : mg "isinstance" = none
  str : mg "str" = none
  tuple : mg "tuple" = none
  list : mg "list" = none
  bool : mg "bool" = none
  all : mg "all" = none
  zip : mg "zip" = none
  enum : mg "enumerate" = none

/-! ### the bag -/
/-- a list's item at a place from 0 on, read for an op= -/
def rGet0 (K : PySem.W.Frag) : R2 := fun x y H Q => ∃ p xs i v, x = .ref p ∧ y = .int i ∧ 0 ≤ i ∧ SqL K H p xs ∧ atI xs i = some v ∧ Q v H
theorem get_list {X : Cx} : PGet X (rGet0 X.K) := by
  intro pins s σ H o i ov iv Q I ro ri h
  obtain ⟨p, xs, k, v, rfl, rfl, h0, hp, ha, q⟩ := h
  cases ro
  obtain ⟨t, rfl⟩ := ri
  obtain ⟨its, r, pl, hz⟩ := I.list hp
  obtain ⟨j, h1, h2, h3, h4, h5⟩ := atI_get ha
  obtain ⟨u, hu, ru⟩ := r.get h2
  have hn := line63
  have hj : k.toNat = j := by
    rw [seqIndex_of h0 h5] at h1
    exact Option.some.inj h1
  exact wpAny_getItem_list pl.isList h0 (by omega) (by rw [hj]; simpa using hu) ⟨v, H, I, ru, q⟩
/-- the bag at b, its numbers at L -/
structure Bg (H : Hp) (b L : Addr) : Prop where
  ex : ∃ (i0 i1 i2 : Int) (ns : List Int), H b = some (.lst [.int i0, .int i1, .int i2, .ref L]) ∧ 0 ≤ i0 ∧ 0 ≤ i1 ∧ i1 < 2147483647 ∧ 0 ≤ i2 ∧ H L = some (.lst (ns.map V.int)) ∧ (∀ n ∈ ns, 0 ≤ n) ∧ ns.length ≤ 63
/-- all but the bag is as it was, and the bag is one -/
structure Af (b L : Addr) (H H' : Hp) : Prop where
  bg : Bg H' b L
  same : ∀ a o, a ≠ b → H a = some o → H' a = some o
theorem Bg.ne {H : Hp} {b L : Addr} (h : Bg H b L) : L ≠ b := by
  obtain ⟨i0, i1, i2, ns, e, _, _, _, _, f, _⟩ := h.ex
  intro z
  rw [z, e] at f
  have f' := HO.lst.inj (Option.some.inj f)
  cases ns with
  | nil => cases f'
  | cons a ns =>
    cases ns with
    | nil => cases f'
    | cons a2 ns =>
      cases ns with
      | nil => cases f'
      | cons a3 ns =>
        cases ns with
        | nil => cases f'
        | cons a4 ns => cases f'
theorem Bg.same {H H' : Hp} {b L : Addr} (h : Bg H b L) (s : Same H H') : Bg H' b L := by
  obtain ⟨i0, i1, i2, ns, e, h0, h1, h2, h3, f, g⟩ := h.ex
  exact ⟨i0, i1, i2, ns, s _ _ e, h0, h1, h2, h3, s _ _ f, g⟩
theorem Af.refl {H : Hp} {b L : Addr} (h : Bg H b L) : Af b L H H := ⟨h, fun _ _ _ e => e⟩
theorem Af.of {H H' : Hp} {b L : Addr} (h : Bg H b L) (s : Same H H') : Af b L H H' := ⟨h.same s, fun a o _ e => s a o e⟩
theorem Af.trans {H H1 H2 : Hp} {b L : Addr} (h : Af b L H H1) (g : Af b L H1 H2) : Af b L H H2 := ⟨g.bg, fun a o n e => g.same a o n (h.same a o n e)⟩
theorem Af.to {H H1 H2 : Hp} {b L : Addr} (h : Af b L H H1) (s : Same H1 H2) : Af b L H H2 := h.trans (.of h.bg s)
theorem same_new {H : Hp} {p : Addr} {o : HO} (h : H p = none) : Same H (upd H p o) := fun b x e => by
  rw [upd_ne (ne_of_none e h)]
  exact e
/-- the bag gets other numbers -/
theorem Af.put {H H1 : Hp} {b L : Addr} {i0 i1 i2 : Int} {xs : List V} (h : Af b L H H1) (hx : xs = [.int i0, .int i1, .int i2, .ref L]) (h0 : 0 ≤ i0) (h1 : 0 ≤ i1) (h2 : i1 < 2147483647) (h3 : 0 ≤ i2) : Af b L H (upd H1 b (.lst xs)) := by
  obtain ⟨_, _, _, ns, e, _, _, _, _, f, g⟩ := h.bg.ex
  refine ⟨⟨i0, i1, i2, ns, by rw [upd_same, hx], h0, h1, h2, h3, ?_, g⟩, fun a o n e => ?_⟩
  · rw [upd_ne h.bg.ne]
    exact f
  · rw [upd_ne n]
    exact h.same a o n e

theorem cut_ints {ns : List Int} (i : Int) (h : ∀ n ∈ ns, 0 ≤ n) : ∃ ms : List Int, cutV (ns.map V.int) (some i) none = ms.map V.int ∧ (∀ n ∈ ms, 0 ≤ n) ∧ ms.length ≤ ns.length := by
  unfold cutV
  refine ⟨List.take (HT.sIx (ns.map V.int).length (ns.map V.int).length none - HT.sIx (ns.map V.int).length 0 (some i)) (List.drop (HT.sIx (ns.map V.int).length 0 (some i)) ns), ?_, ?_, ?_⟩
  · rw [List.map_take, List.map_drop]
  · intro n hn
    exact h n (List.mem_of_mem_drop (List.mem_of_mem_take hn))
  · rw [List.length_take, List.length_drop]
    omega
theorem head_int {ms : List Int} (h : ∀ n ∈ ms, 0 ≤ n) : ∃ n : Int, (ms.map V.int ++ [V.int 0])[0]? = some (.int n) ∧ 0 ≤ n := by
  cases ms with
  | nil => exact ⟨0, rfl, by decide⟩
  | cons a ms => exact ⟨a, rfl, h a List.mem_cons_self⟩
section
variable {P : Program} {w : World} {K : PySem.W.Frag} {mg : Str → Option Value} {base : Heap}
/-! ### _law_bag -/
def spBag (K : PySem.W.Frag) : Sp := fun vs H Q _ => ∃ (a : Addr) (ns : List Int), vs = [.ref a] ∧ SqL K H a (ns.map V.int) ∧ ns.length ≤ 63 ∧
  ∀ H' b L, Same H H' → H b = none → Bg H' b L → Q (.ref b) H'
def absI (i : Int) : Int := if i < 0 then -i else i
theorem absI_nn (i : Int) : 0 ≤ absI i := by
  unfold absI
  split <;> omega
theorem ok_bag {k : Nat} {f : Addr} {fd : FuncData} (F : Fun K "_law_bag" "_law_bag" sBag f fd) (B : Bi mg) : FnOk P w K mg base CX0 (k + 1) f fd ["script"] (spBag K) := by
  refine F.ok scBag (fun vs H Q E h => ?_) (fun cdv A outer s H vs Q E hr h => ?_)
  · obtain ⟨a, ns, rfl, _⟩ := h
    rfl
  · obtain ⟨a, ns, rfl, hS, hlen, q⟩ := h
    refine ⟨_, pss_one (ps_ret (pe_lst (pa_cons pe_int (pa_cons pe_int (pa_cons pe_int (pa_cons
      (pe_lc (own := [("cell", 1)]) (g := gName 1) (tt := tYes) rfl scBag.nd (pi_list (pe_slice sl_list (pv 0) po_none (po_some pe_int)))
        (blkOk_by (own := [("cell", 1)]) (N := nBag) (sc := defScope sBag) (by decide +kernel)) (fun _ _ _ _ _ => pg_name (i := 1) scBag.nd rfl (Or.inl rfl)) (fun _ _ _ _ _ => pts_nil)
        (fun _ _ _ _ _ => pe_callB call_abs (by rfl) B.abs PyProof.Rows.boot_abs (pa_cons (pv 1) pa_nil))) pa_nil)))))), ?_⟩
    refine ⟨.ref a, rfl, 63, rfl, a, ns.map V.int, rfl, hS, fun c nc => ?_⟩
    have s1 : Same H (upd H c (.lst (cutV (ns.map V.int) none (some 63)))) := same_new nc
    have ec : cutV (ns.map V.int) none (some 63) = ns.map V.int := by
      unfold cutV
      rw [HT.sIx_none, show HT.sIx (ns.map V.int).length (ns.map V.int).length (some (63 : Int)) = min 63 (ns.map V.int).length from HT.sIx_nat _ _ 63]
      rw [List.length_map, Nat.min_eq_right hlen]
      show List.take (ns.length - 0) (ns.map V.int) = _
      exact List.take_of_length_le (by rw [List.length_map]; omega)
    rw [ec]
    refine ⟨c, rfl, ⟨ns.map V.int, SqL.of upd_same⟩, fun D nD => ?_⟩
    rw [ec] at s1
    have nDc : c ≠ D := fun z => by
      rw [← z, upd_same] at nD
      cases nD
    have s2 : Same H (upd (upd H c (.lst (ns.map V.int))) D (.lst [])) := s1.trans (same_new nD)
    refine lc_list (xs := ns.map V.int) (fun i H' => Same H H' ∧ H' c = some (.lst (ns.map V.int)) ∧ H' D = some (.lst (((ns.map absI).take i).map V.int)) ∧ (∀ p, H' p = none → H p = none) ∧ H D = none) ⟨s2, ?_, ?_, ?_, ?_⟩ (fun i H' _ h => SqL.of h.2.1) ?_ ?_
    · rw [upd_ne nDc, upd_same]
    · rw [upd_same]
      rfl
    · intro p hp
      cases e : H p with
      | none => rfl
      | some o =>
        rw [s2 _ _ e] at hp
        cases hp
    · cases e : H D with
      | none => rfl
      | some o =>
        rw [s1 _ _ e] at nD
        cases nD
    · rintro i x H' hx ⟨sm, hc, hD, hn, hD0⟩
      rw [List.getElem?_map] at hx
      cases ex : ns[i]? with
      | none =>
        rw [ex] at hx
        cases hx
      | some n =>
        rw [ex] at hx
        cases hx
        refine ⟨rfl, _, rfl, n, rfl, _, hD, ?_, ?_, ?_, ?_, ?_, hD0⟩
        · rw [List.length_map, List.length_take, List.length_map]
          exact small1000 (by omega)
        · intro b o e
          rw [upd_ne (ne_of_none e hD0)]
          exact sm b o e
        · rw [upd_ne nDc]
          exact hc
        · rw [upd_same, List.take_add_one, List.getElem?_map, ex, List.map_append]
          rfl
        · intro p hp
          refine hn p ?_
          by_cases e : p = D
          · rw [e, upd_same] at hp
            cases hp
          · rw [upd_ne e] at hp
            exact hp
    · rintro H' ⟨sm, hc, hD, hn, hD0⟩
      refine ⟨by show 4 ≤ sizeLine; decide, fun b nb => ?_⟩
      refine q _ b D (sm.trans (same_new nb)) (hn b nb) ⟨0, 1234567891, 0, ns.map absI, upd_same, by decide, by decide, by decide, by decide, ?_, ?_⟩
      · have nb2 : D ≠ b := ne_of_none hD nb
        rw [upd_ne nb2, hD, List.length_map, List.take_of_length_le (by simp)]
      · refine ⟨fun m hm => ?_, by rw [List.length_map]; exact hlen⟩
        obtain ⟨x, _, rfl⟩ := List.mem_map.mp hm
        exact absI_nn x
/-! ### _law_take -/
def spTake (K : PySem.W.Frag) : Sp := fun vs H Q _ => ∃ (b L : Addr) (m : Int), vs = [.ref b, .int m] ∧ Bg H b L ∧ 0 < m ∧ m < 1073741824 ∧
  ∀ H' r, Af b L H H' → 0 ≤ r → r < m → Q (.int r) H'
theorem ok_take {k : Nat} {f : Addr} {fd : FuncData} (F : Fun K "_law_take" "_law_take" sTake f fd) (B : Bi mg) : FnOk P w K mg base CX0 (k + 1) f fd ["bag", "many"] (spTake K) := by
  refine F.ok scTake (fun vs H Q E h => ?_) (fun cdv A outer s H vs Q E hr h => ?_)
  · obtain ⟨b, L, m, rfl, _⟩ := h
    rfl
  · obtain ⟨b, L, m, rfl, hB, hm0, hm1, q⟩ := h
    have nd := scTake.nd
    refine ⟨_, pss_cut (ps_if (pt_cmpR op_eq (pe_ix ix_list (pv 0) pe_int (fun _ _ => rfl)) pe_int (nomark _))
        (pss_cons (ps_set (i := 2) nd rfl (.inl rfl) (pe_ix ix_list (pe_op op_cat (pe_slice sl_list (pe_ix ix_list (pv 0) pe_int (fun _ _ => rfl)) (po_some (pe_ix ix_list (pv 0) pe_int (fun _ _ => rfl))) po_none) (pe_lst (pa_cons pe_int pa_nil))) pe_int (fun _ _ => rfl)))
        (pss_cons (ps_augS (pv 0) pe_int get_list pe_int ip_add set_list)
        (pss_cut (ps_if (pt_cmpR op_ge (pv 2) (pe_op op_pow pe_int pe_int) (nomark _)) (pss_one (ps_asg (pv 2) (pg_sub (pv 0) pe_int set_list))) pss_nil)
        (pss_cons (ps_set (i := 3) nd rfl (.inl rfl) (pe_op op_add (pe_op op_add (pe_op op_mul (pe_ix ix_list (pv 0) pe_int (fun _ _ => rfl)) pe_int) (pe_op op_mod (pe_callTy call_int1 (by rfl) B.int PyProof.Rows.boot_int (pa_cons (pv 2) pa_nil)) pe_int)) (pe_op op_mul pe_int (pe_ix ix_list (pv 0) pe_int (fun _ _ => rfl)))))
        (pss_one (ps_asg (pe_op op_mod (pe_callTy call_int1 (by rfl) B.int PyProof.Rows.boot_int (pa_cons (pv 3) pa_nil)) pe_int) (pg_sub (pv 0) pe_int set_list))))))) pss_nil)
      (pss_cons (ps_if (pt_cmpR op_gt (pe_ix ix_list (pv 0) pe_int (fun _ _ => rfl)) pe_int (nomark _))
        (pss_cons (ps_set (i := 4) nd rfl (.inl rfl) (pe_op op_mod (pe_callTy call_int1 (by rfl) B.int PyProof.Rows.boot_int (pa_cons (pe_ix ix_list (pv 0) pe_int (fun _ _ => rfl)) pa_nil)) (pv 1)))
        (pss_cons (ps_asg (pe_op op_fdiv (pe_callTy call_int1 (by rfl) B.int PyProof.Rows.boot_int (pa_cons (pe_ix ix_list (pv 0) pe_int (fun _ _ => rfl)) pa_nil)) (pv 1)) (pg_sub (pv 0) pe_int set_list))
        (pss_one (ps_ret (pv 4))))) pss_nil)
      (pss_cons (ps_set (i := 5) nd rfl (.inl rfl) (pe_op op_mod (pe_callTy call_int1 (by rfl) B.int PyProof.Rows.boot_int (pa_cons (pe_op op_mul (pe_op op_add (pe_ix ix_list (pv 0) pe_int (fun _ _ => rfl)) pe_int) pe_int) pa_nil)) pe_int))
      (pss_cons (ps_set (i := 6) nd rfl (.inl rfl) (pe_op op_mod (pe_callTy call_int1 (by rfl) B.int PyProof.Rows.boot_int (pa_cons (pe_op op_mul (pe_op op_mod (pe_callTy call_int1 (by rfl) B.int PyProof.Rows.boot_int (pa_cons (pe_op op_mul (pv 5) (pv 5)) pa_nil)) pe_int) pe_int) pa_nil)) pe_int))
      (pss_one (ps_ret (pe_op op_mod (pe_callTy call_int1 (by rfl) B.int PyProof.Rows.boot_int (pa_cons (pe_op op_fdiv (pv 6) pe_int) pa_nil)) (pv 1))))))), ?_⟩
    refine ⟨fun σ H1 => (∃ y2 y3, σ = [some (.ref b), some (.int m), y2, y3, none, none, none]) ∧ Af b L H H1, ?_, ?_⟩
    · -- if bag[0] == 0
      obtain ⟨i0, i1, i2, ns, e0, p0, p1, p1', p2, eL, pn, pl⟩ := hB.ex
      refine ⟨.ref b, rfl, b, _, 0, .int i0, rfl, rfl, SqL.of e0, rfl, rfl, _, rfl, ite2 (fun z => ?_) (fun z => ?_)⟩
      · -- cell = (bag[3][bag[2]:] + [0])[0]
        refine ⟨.ref b, rfl, b, _, 3, .ref L, rfl, rfl, SqL.of e0, rfl, .ref b, rfl, b, _, 2, .int i2, rfl, rfl, SqL.of e0, rfl, i2, rfl, L, ns.map V.int, rfl, SqL.of eL, fun c nc => ?_⟩
        obtain ⟨ms, ec, mn, ml⟩ := cut_ints i2 pn
        rw [ec]
        have s1 : Same H (upd H c (.lst (ms.map V.int))) := same_new nc
        refine ⟨by show 1 ≤ sizeLine; decide, fun d nd' => ?_⟩
        have ncd : c ≠ d := fun z => by
          rw [← z, upd_same] at nd'
          cases nd'
        have s2 : Same H (upd (upd H c (.lst (ms.map V.int))) d (.lst [.int 0])) := s1.trans (same_new nd')
        refine ⟨c, d, ms.map V.int, [.int 0], rfl, rfl, by rw [upd_ne ncd, upd_same], upd_same, ?_, fun p np => ?_⟩
        · rw [List.length_map]
          exact Nat.le_of_lt (small1000 (by show ms.length + 1 ≤ 1000; omega))
        have s3 := s2.trans (same_new (o := .lst (ms.map V.int ++ [.int 0])) np)
        obtain ⟨n, en, n0⟩ := head_int mn
        refine ⟨p, _, 0, .int n, rfl, rfl, SqL.of upd_same, atI_nat (j := 0) en, ?_⟩
        generalize upd (upd (upd H c (.lst (ms.map V.int))) d (.lst [.int 0])) p (.lst (ms.map V.int ++ [.int 0])) = H1 at s3 ⊢
        have a1 : Af b L H H1 := .of hB s3
        have f0 := s3 _ _ e0
        -- bag[2] += 1
        refine ⟨.ref b, rfl, b, _, 2, .int i2, rfl, rfl, by decide, SqL.of f0, rfl, i2, 1, rfl, rfl, b, _, 2, 2, rfl, rfl, f0, rfl, ?_⟩
        have a2 : Af b L H (upd H1 b (.lst ([V.int i0, .int i1, .int i2, .ref L].set 2 (.int (i2 + 1))))) := a1.put rfl p0 p1 p1' (by omega)
        have f2 : (upd H1 b (.lst ([V.int i0, .int i1, .int i2, .ref L].set 2 (.int (i2 + 1))))) b = some (.lst [.int i0, .int i1, .int (i2 + 1), .ref L]) := upd_same
        generalize upd H1 b (.lst ([V.int i0, .int i1, .int i2, .ref L].set 2 (.int (i2 + 1)))) = H2 at a2 f2 ⊢
        -- if cell >= 10 ** 18
        refine ⟨fun σ H3 => σ = [some (.ref b), some (.int m), some (.int n), none, none, none, none] ∧ Af b L H H3 ∧ ∃ j0 : Int, 0 ≤ j0 ∧ H3 b = some (.lst [.int j0, .int i1, .int (i2 + 1), .ref L]), ?_, ?_⟩
        · refine ⟨_, rfl, _, _, rfl, rfl, ⟨by decide, by decide, by decide⟩, _, _, rfl, rfl, _, rfl, ite2 (fun z => ?_) (fun z => ?_)⟩
          · refine ⟨_, rfl, .ref b, rfl, b, _, 0, 0, rfl, rfl, f2, rfl, rfl, ?_, n, n0, upd_same⟩
            exact a2.put rfl n0 p1 p1' (by omega)
          · exact ⟨rfl, a2, i0, p0, f2⟩
        · rintro σ H3 ⟨rfl, a3, j0, j0n, f3⟩
          -- stirred
          refine ⟨.ref b, rfl, b, _, 1, .int i1, rfl, rfl, SqL.of f3, rfl, i1, 48271, rfl, rfl, .inl ⟨by omega, by omega⟩, _, rfl, .inl ⟨n, rfl, n, 2147483647, rfl, rfl, (by show (0 : Int) < 2147483647; decide), _, _, rfl, rfl, .ref b, rfl, b, _, 2, .int (i2 + 1), rfl, rfl, SqL.of f3, rfl, 7919, _, rfl, rfl, .inl ⟨by decide, by decide⟩, _, _, rfl, rfl, ?_⟩⟩
          -- bag[1]
          refine ⟨_, rfl, .inl ⟨_, rfl, _, 2147483647, rfl, rfl, (by show (0 : Int) < 2147483647; decide), .ref b, rfl, b, _, 1, 1, rfl, rfl, f3, rfl, ⟨_, _, rfl⟩, ?_⟩⟩
          exact a3.put rfl j0n (Int.emod_nonneg _ (by decide)) (Int.emod_lt_of_pos _ (by decide)) (by omega)
      · refine ⟨⟨none, none, rfl⟩, .refl hB⟩
    · rintro σ H1 ⟨⟨y2, y3, rfl⟩, hA⟩
      obtain ⟨i0, i1, i2, ns, e0, p0, p1, p1', p2, eL, pn, pl⟩ := hA.bg.ex
      refine ⟨.ref b, rfl, b, _, 0, .int i0, rfl, rfl, SqL.of e0, rfl, _, _, rfl, rfl, _, rfl, ite2 (fun z => ?_) (fun z => ?_)⟩
      · -- value
        refine ⟨.ref b, rfl, b, _, 0, .int i0, rfl, rfl, SqL.of e0, rfl, .inl ⟨i0, rfl, _, rfl, i0, m, rfl, rfl, hm0, ?_⟩⟩
        refine ⟨.ref b, rfl, b, _, 0, .int i0, rfl, rfl, SqL.of e0, rfl, .inl ⟨i0, rfl, _, rfl, i0, m, rfl, rfl, ⟨hm0, hm1⟩, .ref b, rfl, b, _, 0, 0, rfl, rfl, e0, rfl, _, rfl, ?_⟩⟩
        exact q _ _ (hA.put rfl (Int.ediv_nonneg p0 (by omega)) p1 p1' p2) (Int.emod_nonneg _ (by omega)) (Int.emod_lt_of_pos _ hm0)
      · -- begin, second
        have pos : ∀ j : Int, (0 : Int) < j → (fun (_ j : Int) => (0 : Int) < j) 0 j := fun _ h => h
        refine ⟨.ref b, rfl, b, _, 1, .int i1, rfl, rfl, SqL.of e0, rfl, _, _, rfl, rfl, _, _, rfl, rfl, .inl ⟨by omega, by omega⟩, .inl ⟨_, rfl, _, 1000000007, rfl, rfl, pos 1000000007 (by decide), ?_⟩⟩
        have g0 := Int.emod_nonneg ((i1 + 1) * 39373) (b := 1000000007) (by decide)
        have g1 := Int.emod_lt_of_pos ((i1 + 1) * 39373) (b := 1000000007) (by decide)
        refine ⟨_, rfl, _, rfl, (i1 + 1) * 39373 % 1000000007, _, rfl, rfl, .inl ⟨by omega, by omega⟩, .inl ⟨_, rfl, _, 998244353, rfl, rfl, pos 998244353 (by decide), ?_⟩⟩
        have h0 := Int.emod_nonneg ((i1 + 1) * 39373 % 1000000007 * ((i1 + 1) * 39373 % 1000000007)) (b := 998244353) (by decide)
        have h1 := Int.emod_lt_of_pos ((i1 + 1) * 39373 % 1000000007 * ((i1 + 1) * 39373 % 1000000007)) (b := 998244353) (by decide)
        refine ⟨_, 30011, rfl, rfl, .inl ⟨Int.lt_of_lt_of_le (by decide) h0, Int.lt_trans h1 (by decide)⟩, .inl ⟨_, rfl, _, 998244353, rfl, rfl, pos 998244353 (by decide), ?_⟩⟩
        refine ⟨_, rfl, _, 7, rfl, rfl, ⟨by decide, by decide⟩, .inl ⟨_, rfl, _, rfl, _, m, rfl, rfl, hm0, ?_⟩⟩
        exact q _ _ hA (Int.emod_nonneg _ (by omega)) (Int.emod_lt_of_pos _ hm0)
end
end Ke


set_option Elab.async false
set_option linter.all false
set_option maxRecDepth 100000
namespace Ke
open PySem PySem.Spec PyProof.Rows L2 Gd
open C8 (tCut pss_cut)
abbrev sAlike : Stmt := topS 31
abbrev sLInt : Stmt := topS 32
abbrev sInt : Stmt := topS 23
abbrev nAlike : List Str := ["found", "due"]
theorem scAlike : FnScope nAlike ["found", "due"] (defScope sAlike) := ⟨rfl, rfl, rfl, by decide +kernel, rfl, by decide +kernel, by decide +kernel⟩
theorem scLInt : FnScope ["thing"] ["thing"] (defScope sLInt) := ⟨rfl, rfl, rfl, by decide +kernel, rfl, by decide +kernel, by decide +kernel⟩
theorem scInt : FnScope ["thing"] ["thing"] (defScope sInt) := ⟨rfl, rfl, rfl, by decide +kernel, rfl, by decide +kernel, by decide +kernel⟩

/-! ### the heap without the bag -/
def off (b : Addr) (H : Hp) : Hp := fun a => if a = b then none else H a
theorem off_ne {H : Hp} {a b : Addr} (h : a ≠ b) : off b H a = H a := if_neg h
theorem off_le {H : Hp} {b : Addr} : Same (off b H) H := fun a o e => by
  by_cases z : a = b
  · rw [z] at e
    unfold off at e
    rw [if_pos rfl] at e
    cases e
  · rw [off_ne z] at e
    exact e
theorem off_some {H : Hp} {a b : Addr} {o : HO} (e : off b H a = some o) : a ≠ b := fun z => by
  rw [z] at e
  unfold off at e
  rw [if_pos rfl] at e
  cases e
theorem Af.off {H H' : Hp} {b L : Addr} (h : Af b L H H') : Same (off b H) (Ke.off b H') := fun a o e => by
  have n := off_some e
  rw [off_ne n] at e ⊢
  exact h.same a o n e
theorem Bg.neNone {H : Hp} {b L p : Addr} (h : Bg H b L) (n : H p = none) : p ≠ b := fun z => by
  obtain ⟨_, _, _, _, e, _⟩ := h.ex
  rw [z, e] at n
  cases n
theorem off_new {H : Hp} {b p : Addr} {o : HO} (n : p ≠ b) : off b (upd H p o) p = some o := by
  rw [off_ne n, upd_same]

/-! ### what may be drawn from -/
def Seq (K : PySem.W.Frag) (H : Hp) (T : V) (els : List V) : Prop :=
  (∃ a, T = .ref a ∧ (SqL K H a els ∨ SqT K H a els)) ∨ ∃ z : Str, T = .str z ∧ z.length ≤ sizeLine ∧ els = z.cps.toList.map fun c => V.str ⟨#[c]⟩
theorem Seq.same {K : PySem.W.Frag} {H H' : Hp} {T : V} {els : List V} (h : Seq K H T els) (e : Same H H') : Seq K H' T els := by
  rcases h with ⟨a, r, h | h⟩ | h
  · exact .inl ⟨a, r, .inl (e.seq h)⟩
  · exact .inl ⟨a, r, .inr (seqT_same e h)⟩
  · exact .inr h
theorem Seq.len {K : PySem.W.Frag} {H : Hp} {T : V} {els : List V} (h : Seq K H T els) : LenV K T H els.length := by
  rcases h with ⟨a, rfl, h | h⟩ | ⟨z, rfl, hz, rfl⟩
  · exact .inl ⟨_, h, rfl⟩
  · exact .inr ⟨_, h, rfl⟩
  · refine ⟨hz, ?_⟩
    rw [List.length_map, Array.length_toList]
    rfl
theorem Seq.at_ {K : PySem.W.Frag} {H : Hp} {T : V} {els : List V} {j : Nat} {v : V} {Q : VK} (h : Seq K H T els) (e : els[j]? = some v) (q : Q v H) : rIx K T (.int (j : Int)) H Q := by
  rcases h with ⟨a, rfl, h | h⟩ | ⟨z, rfl, hz, rfl⟩
  · exact .inl ⟨_, _, _, _, rfl, rfl, h, atI_nat e, q⟩
  · exact .inr (.inl ⟨_, _, _, _, rfl, rfl, h, atI_nat e, q⟩)
  · rw [List.getElem?_map] at e
    cases ec : z.cps.toList[j]? with
    | none =>
      rw [ec] at e
      cases e
    | some c =>
      rw [ec] at e
      cases e
      exact .inr (.inr ⟨_, _, c, rfl, rfl, hz, atI_nat ec, q⟩)

section
variable {P : Program} {w : World} {K : PySem.W.Frag} {mg : Str → Option Value} {base : Heap}
/-! ### _law_some -/
def spSome (K : PySem.W.Frag) : Sp := fun vs H Q _ => ∃ (b L : Addr) (T : V) (els : List V), vs = [.ref b, T] ∧ Bg H b L ∧ Seq K (off b H) T els ∧ 0 < els.length ∧ els.length ≤ 1000 ∧
  ∀ H' v, Af b L H H' → v ∈ els → Q v H'
theorem ok_some {k : Nat} {f fT : Addr} {fd fdT : FuncData} (F : Fun K "_law_some" "_law_some" sSome f fd) (B : Bi mg) (FT : Fun K "_law_take" "_law_take" sTake fT fdT) (bT : Binds K fdT ["bag", "many"] []) (gT : mg "_law_take" = some (.ref fT)) :
    FnOk P w K mg base CX0 (k + 2) f fd ["bag", "things"] (spSome K) := by
  have GT : FnOk P w K mg base CX0 (k + 1) fT fdT ["bag", "many"] (spTake K) := ok_take FT B
  refine F.ok scSome (fun vs H Q E h => ?_) (fun cdv A outer s H vs Q E hr h => ?_)
  · obtain ⟨b, L, T, els, rfl, _⟩ := h
    rfl
  · obtain ⟨b, L, T, els, rfl, hB, hS, h0, h1, q⟩ := h
    refine ⟨_, pss_one (ps_ret (pe_ix ix_seq (pv 1) (pe_call GT hr (by rfl) gT FT.kp bT .nil pass0 (pa_cons (pv 0) (pa_cons (pe_callB call_len (by rfl) B.len PySem.boot_len (pa_cons (pv 1) pa_nil)) pa_nil))) (fun _ _ => rfl))), ?_⟩
    refine ⟨T, rfl, .ref b, rfl, T, rfl, T, els.length, rfl, (hS.same off_le).len, b, L, _, rfl, hB, by omega, by omega, fun H' r hA r0 r1 => ?_⟩
    obtain ⟨j, rfl⟩ := Int.eq_ofNat_of_zero_le r0
    have hj : j < els.length := by omega
    have ej : els[j]? = some els[j] := List.getElem?_eq_getElem hj
    exact ((hS.same hA.off).same off_le).at_ ej (q _ _ hA (List.getElem_mem hj))

/-! ### the type of a value -/
/-- an exception object at a, of the class at C -/
def ExV (a C : Addr) (od : Option Addr) : HO := .ext fun h => ∃ (oe : Obj) (vs : Array Value), h.get? a = some oe ∧ oe.cls = .ref C ∧ oe.dict = od ∧ oe.data = .fields vs
def ExAt (K : PySem.W.Frag) (H : Hp) (v : V) (C : Addr) : Prop := ∃ (a : Addr) (od : Option Addr), v = .ref a ∧ H a = some (ExV a C od) ∧ ExcC K C ∧ ∀ d, od = some d → ∃ fs, H d = some (.xd fs)
def TyE (K : PySem.W.Frag) (H : Hp) (v : V) (t : Value) : Prop := TyX K H v t ∨ ∃ C, t = .ref C ∧ ExAt K H v C
def IsA (K : PySem.W.Frag) (H : Hp) (v : V) (T : String) (r : Bool) : Prop := ∃ t, TyE K H v t ∧ PySem.W.kitOne K t (.type T) = some r
theorem ExAt.same {K : PySem.W.Frag} {H H' : Hp} {v : V} {C : Addr} (h : ExAt K H v C) (e : Same H H') : ExAt K H' v C := by
  obtain ⟨a, od, r, h1, h2, h3⟩ := h
  refine ⟨a, od, r, e _ _ h1, h2, fun d q => ?_⟩
  obtain ⟨fs, z⟩ := h3 d q
  exact ⟨fs, e _ _ z⟩
theorem TyX.same' {K : PySem.W.Frag} {H H' : Hp} {v : V} {t : Value} (h : TyX K H v t) (e : Same H H') : TyX K H' v t := by
  cases h with
  | base h =>
    cases h with
    | non => exact .base .non
    | bl b => exact .base (.bl b)
    | int i => exact .base (.int i)
    | str x => exact .base (.str x)
    | flt x => exact .base (.flt x)
    | lst z => exact .base (.lst (e _ _ z))
    | frz z => exact .base (.frz (e _ _ z))
    | tup z => exact .base (.tup (e _ _ z))
    | dK z => exact .base (.dK (e _ _ z))
    | dT z => exact .base (.dT (e _ _ z))
    | ins z a b c d f => exact .base (.ins (e _ _ z) a b c d f)
  | byt b => exact .byt b
  | set z => exact .set (e _ _ z)
  | kList z c => exact .kList z c
  | kTuple z c => exact .kTuple z c
  | kDict z c => exact .kDict z c
  | fTuple z => exact .fTuple (e _ _ z)
  | fDict z => exact .fDict (e _ _ z)
theorem TyE.same {K : PySem.W.Frag} {H H' : Hp} {v : V} {t : Value} (h : TyE K H v t) (e : Same H H') : TyE K H' v t := by
  rcases h with h | ⟨C, r, h⟩
  · exact .inl (TyX.same' h e)
  · exact .inr ⟨C, r, h.same e⟩
theorem IsA.same {K : PySem.W.Frag} {H H' : Hp} {v : V} {T : String} {r : Bool} (h : IsA K H v T r) (e : Same H H') : IsA K H' v T r := by
  obtain ⟨t, a, b⟩ := h
  exact ⟨t, a.same e, b⟩
theorem ty_list {K : PySem.W.Frag} {H : Hp} {a : Addr} {xs : List V} (h : SqL K H a xs) : TyX K H (.ref a) (.type "list") := by
  rcases h with (h | ⟨o, h⟩) | ⟨o, its, n, h, hc, _⟩
  · exact .base (.lst h)
  · exact .base (.frz h)
  · exact .kList h hc
theorem ty_tuple {K : PySem.W.Frag} {H : Hp} {a : Addr} {xs : List V} (h : SqT K H a xs) : TyX K H (.ref a) (.type "tuple") := by
  rcases h with (h | ⟨o, h⟩) | ⟨o, its, n, h, hc, _⟩
  · exact .base (.tup h)
  · exact .fTuple h
  · exact .kTuple h hc
/-- the name of the type of data -/
def nameD : PyData → String
  | .none => "NoneType" | .bool _ => "bool" | .int _ => "int" | .str _ => "str" | .list _ => "list" | .tuple _ => "tuple" | .dict _ => "dict"
theorem ty_of {K : PySem.W.Frag} {H : Hp} {v : V} {d : PyData} (h : Rp K H v d) : TyE K H v (.type (nameD d)) := by
  cases h with
  | non => exact .inl (.base .non)
  | bl b => exact .inl (.base (.bl b))
  | int i => exact .inl (.base (.int i))
  | str x => exact .inl (.base (.str x))
  | lst h _ => exact .inl (ty_list h)
  | tup h _ => exact .inl (ty_tuple h)
  | dct h _ => exact .inl (.base (.dK h))
theorem is_of {K : PySem.W.Frag} {H : Hp} {v : V} {d : PyData} {T : String} {r : Bool} (h : Rp K H v d) (k : kitB (nameD d) T = some r) : IsA K H v T r := ⟨_, ty_of h, kit_ty k⟩
theorem kit_exc {X : Cx} {pins : List (Addr × Obj)} {σ : L2.St} {H : Hp} {s : Shared} {v : V} {u : Value} {C : Addr} (I : Inv X pins σ H s) (rx : RelV v u) (h : ExAt X.K H v C) :
    ∃ P : Heap → Prop, PySem.W.KitX X.K u (.ref C) P ∧ P s.heap ∧ u ≠ .builtin "__main__.__loader__#opaque" := by
  obtain ⟨a, od, rfl, ha, T, hx⟩ := h
  obtain rfl : u = Value.ref a := rx
  obtain ⟨⟨oe, vs, ho, hc, hdd, hdat⟩, _, _⟩ := I.hok a _ ha
  have hcl : (PySem.W.clsIn X.K C).isSome = true := by
    obtain ⟨cd, q, _⟩ := PySem.W.any_some T.hd
    rw [q]
    rfl
  have nc : PySem.W.notCls oe = true := by
    unfold PySem.W.notCls
    rw [hdat] <;> rfl
  cases od with
  | none => exact ⟨_, PySem.W.kitx_exc (ox := oe) (od := none) hcl T.hg T.hk T.hs T.ha T.hn T.ht T.hm, ⟨ho, hc, nc, by rw [hdd]; trivial⟩, fun z => nomatch z⟩
  | some d =>
    obtain ⟨fs, hd⟩ := hx d rfl
    have hy : ObjOk X.prog X.w H s.heap d (.xd fs) := I.hok d _ hd
    obtain ⟨mA, hns, hr⟩ := hy
    obtain ⟨o, hod, hl⟩ := lookIn_ns hns
    exact ⟨_, PySem.W.kitx_exc (ox := oe) (od := some o) hcl T.hg T.hk T.hs T.ha T.hn T.ht T.hm, ⟨ho, hc, nc, by rw [hdd]; exact hod⟩, fun z => nomatch z⟩
theorem kit_ofE {X : Cx} {pins : List (Addr × Obj)} {σ : L2.St} {H : Hp} {s : Shared} {v : V} {u t : Value} (I : Inv X pins σ H s) (rx : RelV v u) (ty : TyE X.K H v t) :
    ∃ P : Heap → Prop, PySem.W.KitX X.K u t P ∧ P s.heap ∧ u ≠ .builtin "__main__.__loader__#opaque" := by
  rcases ty with ty | ⟨C, rfl, h⟩
  · exact kit_of I rx ty
  · exact kit_exc I rx h
/-- isinstance(v, c) -/
def rIsE2 (K : PySem.W.Frag) : List V → Hp → VK → Prop := fun xs H Q => ∃ (v c : V) (t u : Value) (b : Bool), xs = [v, c] ∧ ClsV c u ∧ TyE K H v t ∧ PySem.W.kitOne K t u = some b ∧ Q (.bl b) H
theorem call_isE2 {X : Cx} : CallR X (.builtin "isinstance") (rIsE2 X.K) := by
  intro pins s σ H xs us Q I r h
  obtain ⟨v, c, t, u, b, rfl, k, ty, e, q⟩ := h
  obtain ⟨u1, u2, rfl, r1, r2⟩ := vals2 r
  have e2 := k.eq r2
  subst e2
  obtain ⟨P, Z, p, hx⟩ := kit_ofE I r1 ty
  exact PySem.W.kia_one Z I.kIn p e hx fun tk => ⟨.bl b, H, I.tok tk, rfl, q⟩
/-! ### is_integer, _law_is_int -/
def spInt (K : PySem.W.Frag) : Sp := fun vs H Q _ => ∃ (v : V) (r1 r2 : Bool), vs = [v] ∧ IsA K H v "int" r1 ∧ IsA K H v "bool" r2 ∧ Q (.bl (r1 && !r2)) H
theorem ok_lint {k : Nat} {f : Addr} {fd : FuncData} (F : Fun K "_law_is_int" "_law_is_int" sLInt f fd) (B : Bi mg) : FnOk P w K mg base CX0 (k + 1) f fd ["thing"] (spInt K) := by
  refine F.ok scLInt (fun vs H Q E h => ?_) (fun cdv A outer s H vs Q E hr h => ?_)
  · obtain ⟨v, r1, r2, rfl, _⟩ := h
    rfl
  · obtain ⟨v, r1, r2, rfl, h1, h2, q⟩ := h
    refine ⟨_, pss_one (ps_ret (pe_and (pe_callB call_isE2 (by rfl) B.isi PyProof.Rows.boot_isinstance (pa_cons (pv 0) (pa_cons (pe_bltn (v := .ty "int") (by rfl) B.int PyProof.Rows.boot_int rfl) pa_nil)))
      (pe_one (pe_not (pe_callB call_isE2 (by rfl) B.isi PyProof.Rows.boot_isinstance (pa_cons (pv 0) (pa_cons (pe_bltn (v := .ty "bool") (by rfl) B.bool PyProof.Rows.boot_bool rfl) pa_nil))))))), ?_⟩
    obtain ⟨t1, a1, b1⟩ := h1
    obtain ⟨t2, a2, b2⟩ := h2
    refine ⟨v, rfl, v, .ty "int", t1, _, r1, rfl, .ty _, a1, b1, r1, rfl, ?_⟩
    cases r1 with
    | false => exact iteF q
    | true => exact iteT ⟨v, rfl, v, .ty "bool", t2, _, r2, rfl, .ty _, a2, b2, r2, rfl, q⟩
theorem ok_int {k : Nat} {f : Addr} {fd : FuncData} (F : Fun K "is_integer" "is_integer" sInt f fd) (B : Bi mg) : FnOk P w K mg base CX0 (k + 1) f fd ["thing"] (spInt K) := by
  refine F.ok scInt (fun vs H Q E h => ?_) (fun cdv A outer s H vs Q E hr h => ?_)
  · obtain ⟨v, r1, r2, rfl, _⟩ := h
    rfl
  · obtain ⟨v, r1, r2, rfl, h1, h2, q⟩ := h
    refine ⟨_, pss_one (ps_ret (pe_and (pe_callB call_isE2 (by rfl) B.isi PyProof.Rows.boot_isinstance (pa_cons (pv 0) (pa_cons (pe_bltn (v := .ty "int") (by rfl) B.int PyProof.Rows.boot_int rfl) pa_nil)))
      (pe_one (pe_not (pe_callB call_isE2 (by rfl) B.isi PyProof.Rows.boot_isinstance (pa_cons (pv 0) (pa_cons (pe_bltn (v := .ty "bool") (by rfl) B.bool PyProof.Rows.boot_bool rfl) pa_nil))))))), ?_⟩
    obtain ⟨t1, a1, b1⟩ := h1
    obtain ⟨t2, a2, b2⟩ := h2
    refine ⟨v, rfl, v, .ty "int", t1, _, r1, rfl, .ty _, a1, b1, r1, rfl, ?_⟩
    cases r1 with
    | false => exact iteF q
    | true => exact iteT ⟨v, rfl, v, .ty "bool", t2, _, r2, rfl, .ty _, a2, b2, r2, rfl, q⟩

/-! ### _law_alike -/
/-- two that == calls equal: flat ones, data without dicts, dicts -/
def Eqv (K : PySem.W.Frag) (H : Hp) (x y : V) (d : PyData) : Prop :=
  (x = y ∧ scal x x = true) ∨ (Dp K H x d ∧ Dp K H y d ∧ SeqAt.shaped d = true) ∨ ∃ n, n ≤ 60 ∧ EqR K H (EqV K H n) x y
def rEqA (K : PySem.W.Frag) : R2 := fun x y H Q => rEq x y H Q ∨ rEqD K x y H Q ∨ rEqV K x y H Q
theorem op_eqA {X : Cx} (hu : X.A.units + 64 < cLine) : OpR X (compareOp .Eq) (rEqA X.K) := op_eq.or ((op_eqD hu).or (op_eqV hu))
theorem Eqv.go {K : PySem.W.Frag} {H : Hp} {x y : V} {d : PyData} {Q : VK} (h : Eqv K H x y d) (q : Q (.bl true) H) : rEqA K x y H Q := by
  rcases h with ⟨rfl, h⟩ | ⟨h1, h2, h3⟩ | ⟨n, hn, h⟩
  · exact .inl ⟨h, by rw [decide_eq_true rfl]; exact q⟩
  · exact .inr (.inl ⟨d, d, h1, h2, h3, h3, by rw [SeqAt.eqv_refl _ (SeqAt.canLay_of_shaped h3)]; exact q⟩)
  · exact .inr (.inr ⟨n, hn, h, q⟩)
def spAlike (K : PySem.W.Frag) : Sp := fun vs H Q _ => ∃ (x y : V) (d : PyData), vs = [x, y] ∧ Eqv K H x y d ∧ Rp K H x d ∧ Rp K H y d ∧ Fine d ∧ Q (.bl true) H
theorem ok_alike {k : Nat} {f : Addr} {fd : FuncData} (F : Fun K "_law_alike" "_law_alike" sAlike f fd) (B : Bi mg) : FnG P w K mg base (k + 1) f fd ["found", "due"] (spAlike K) := by
  refine okG F scAlike (fun vs H Q E h => ?_) (fun cdv A outer s H vs Q E hg hr h => ?_)
  · obtain ⟨x, y, d, rfl, _⟩ := h
    rfl
  · obtain ⟨x, y, d, rfl, he, hx, hy, hf, q⟩ := h
    refine ⟨_, pss_one (ps_ret (pe_and (pe_cmpR (op_eqA hr.units) (pv 0) (pv 1) (nomark _)) (pe_one (pe_cmpR op_eq
      (pe_callB (call_reprA hg hr.units) (by rfl) B.repr PyProof.Rows.boot_repr (pa_cons (pv 0) pa_nil)) (pe_callB (call_reprA hg hr.units) (by rfl) B.repr PyProof.Rows.boot_repr (pa_cons (pv 1) pa_nil)) (nomark _))))), ?_⟩
    refine ⟨x, rfl, y, rfl, he.go ⟨true, rfl, iteT ⟨x, rfl, x, d, rfl, hx, hf, y, rfl, y, d, rfl, hy, hf, rfl, ?_⟩⟩⟩
    rw [decide_eq_true rfl]
    exact q
end
end Ke


set_option Elab.async false
set_option linter.all false
set_option maxRecDepth 100000
namespace Ke
open PySem PySem.Spec PyProof.Rows L2 Gd
open C8 (tCut pss_cut)
abbrev sKw : Stmt := topS 33
abbrev sSg : Stmt := topS 34
abbrev sLet : Stmt := topS 35
abbrev sDig : Stmt := topS 36
abbrev sSort : Stmt := topS 37
theorem scKw : FnScope ["words"] [] (defScope sKw) := ⟨rfl, rfl, rfl, by decide +kernel, rfl, by decide +kernel, by decide +kernel⟩
theorem scSg : FnScope [] [] (defScope sSg) := ⟨rfl, rfl, rfl, by decide +kernel, rfl, by decide +kernel, by decide +kernel⟩
theorem scLet : FnScope ["sign"] ["sign"] (defScope sLet) := ⟨rfl, rfl, rfl, by decide +kernel, rfl, by decide +kernel, by decide +kernel⟩
theorem scDig : FnScope ["sign"] ["sign"] (defScope sDig) := ⟨rfl, rfl, rfl, by decide +kernel, rfl, by decide +kernel, by decide +kernel⟩
abbrev nSort : List Str := ["word", "odd", "is_number", "sign"]
theorem scSort : FnScope nSort ["word"] (defScope sSort) := ⟨rfl, rfl, rfl, by decide +kernel, rfl, by decide +kernel, by decide +kernel⟩

/-! ### words -/
def kwL : List Str := ["plain", "once", "record", "choice", "given", "def", "let", "open", "if", "else", "match", "repeat", "give", "true", "false", "num", "truth", "and"]
def sgL : List Str := ["{", "}", "(", ")", ",", ":", ";", "=", "+", "<", "."]
def isL (c : Nat) : Bool := decide (97 ≤ c) && decide (c ≤ 122)
def isD (c : Nat) : Bool := decide (48 ≤ c) && decide (c ≤ 57)
/-- signs of a text below 128, and not too many -/
structure Asc (n : Nat) (z : Str) : Prop where
  len : z.length ≤ n
  low : ∀ c ∈ z.cps.toList, c < 128
def oneS (c : Nat) : V := .str ⟨#[c]⟩
def inL (z : Str) (l : List Str) : Bool := inV (.str z) (l.map V.str)
/-- the sort of a word, by the law's own going -/
def srt (z : Str) : V :=
  if inL z kwL = true then .str "keyword" else if inL z sgL = true then .str "sign" else
  if ¬ (1 ≤ z.length ∧ z.length ≤ 20) ∨ (z.cps.toList.filter fun c => !isL c && !isD c) ≠ [] then .non else
  match z.cps.toList with
  | [] => .non
  | c :: r => if isL c = true then .str "name" else
    if ((decide (z.length ≤ 9) && (z.cps.toList.filter isL).isEmpty) && (c != 48 || decide (z.length = 1))) = true then .str "number" else .non

theorem flat_strs : ∀ l : List Str, (l.map V.str).all flatV = true
  | [] => rfl
  | _ :: l => by
    rw [List.map_cons, List.all_cons, flat_strs l]
    rfl
/-! ### lists of texts as data -/
theorem dp_strs {K : PySem.W.Frag} {H : Hp} : ∀ l : List Str, DpAll K H (l.map V.str) (l.map PyData.str)
  | [] => .nil
  | x :: l => .cons (.str x) (dp_strs l)
theorem lay_strs : ∀ l : List Str, (∀ z ∈ l, ∀ c ∈ z.cps.toList, c < 128) → PyData.canLayAll0 (l.map PyData.str) = true
  | [], _ => by simp [PyData.canLayAll0]
  | x :: l, h => by
    have h1 : PyData.strOk x = true := by
      unfold PyData.strOk
      rw [Array.all_eq_true]
      intro i hi
      have := h x List.mem_cons_self x.cps[i] (by simp)
      simp only [decide_eq_true_eq]
      omega
    rw [List.map_cons, PyData.canLayAll0, PyData.canLay0, h1, lay_strs l fun z hz => h z (List.mem_cons_of_mem _ hz)]
    rfl
theorem depth_strs : ∀ l : List Str, PyData.depthAll (l.map PyData.str) = 0
  | [] => by simp [PyData.depthAll]
  | x :: l => by
    rw [List.map_cons, PyData.depthAll, depth_strs l, PyData.depth]
    rfl
theorem shaped_strs {l : List Str} (h : ∀ z ∈ l, ∀ c ∈ z.cps.toList, c < 128) : SeqAt.shaped (.list (l.map PyData.str)) = true := by
  unfold SeqAt.shaped
  rw [PyData.canLay0, lay_strs l h, PyData.depth, depth_strs]
  rfl
theorem eqv_nil (l : List PyData) : PyData.eqv (.list l) (.list []) = l.isEmpty := by
  cases l <;> simp [PyData.eqv, PyData.eqvAll]

section
variable {P : Program} {w : World} {K : PySem.W.Frag} {mg : Str → Option Value} {base : Heap}
def spNew0 (l : List Str) : Sp := fun vs H Q _ => vs = [] ∧ ∀ H' p, Same H H' → H p = none → H' p = some (.lst (l.map V.str)) → Q (.ref p) H'
theorem ok_kw {k : Nat} {f : Addr} {fd : FuncData} (F : Fun K "_law_keywords" "_law_keywords" sKw f fd) : FnOk P w K mg base CX0 (k + 1) f fd [] (spNew0 kwL) := by
  refine F.ok scKw (fun vs H Q E h => ?_) (fun cdv A outer s H vs Q E hr h => ?_)
  · rw [h.1]
    rfl
  · obtain ⟨rfl, q⟩ := h
    refine ⟨_, pss_cons (ps_set (i := 0) scKw.nd rfl (.inl rfl) pe_str) (pss_one (ps_ret (pe_split (pv 0) pe_str))), ?_⟩
    refine ⟨_, rfl, ⟨_, rfl⟩, _, _, rfl, rfl, by decide +kernel, by decide +kernel, fun p np => ?_⟩
    have e : Txt.split "plain once record choice given def let open if else match repeat give true false num truth and" " " = kwL := by decide +kernel
    rw [e]
    exact q _ p (same_new np) np upd_same
theorem ok_sg {k : Nat} {f : Addr} {fd : FuncData} (F : Fun K "_law_signs" "_law_signs" sSg f fd) : FnOk P w K mg base CX0 (k + 1) f fd [] (spNew0 sgL) := by
  refine F.ok scSg (fun vs H Q E h => ?_) (fun cdv A outer s H vs Q E hr h => ?_)
  · rw [h.1]
    rfl
  · obtain ⟨rfl, q⟩ := h
    refine ⟨_, pss_one (ps_ret (pe_lst (pa_cons pe_str (pa_cons pe_str (pa_cons pe_str (pa_cons pe_str (pa_cons pe_str (pa_cons pe_str (pa_cons pe_str (pa_cons pe_str (pa_cons pe_str (pa_cons pe_str (pa_cons pe_str pa_nil))))))))))))), ?_⟩
    exact ⟨by decide, fun p np => q _ p (same_new np) np upd_same⟩

/-! ### signs -/
def spSign (g : Nat → Bool) : Sp := fun vs H Q _ => ∃ c : Nat, vs = [.str ⟨#[c]⟩] ∧ Q (.bl (g c)) H
theorem le_one (a c : Nat) : (!decide ((⟨#[c]⟩ : Str).cps.toList < (⟨#[a]⟩ : Str).cps.toList)) = decide (a ≤ c) := by
  have e : ((⟨#[c]⟩ : Str).cps.toList < (⟨#[a]⟩ : Str).cps.toList) ↔ c < a := by
    show ([c] : List Nat) < [a] ↔ c < a
    rw [List.cons_lt_cons_iff]
    simp
  by_cases h : c < a
  · rw [decide_eq_true (e.mpr h), decide_eq_false (by omega)]
    rfl
  · rw [decide_eq_false (fun z => h (e.mp z)), decide_eq_true (by omega)]
    rfl
theorem ok_let {k : Nat} {f : Addr} {fd : FuncData} (F : Fun K "_law_is_letter" "_law_is_letter" sLet f fd) : FnOk P w K mg base CX0 (k + 1) f fd ["sign"] (spSign isL) := by
  refine F.ok scLet (fun vs H Q E h => ?_) (fun cdv A outer s H vs Q E hr h => ?_)
  · obtain ⟨c, rfl, _⟩ := h
    rfl
  · obtain ⟨c, rfl, q⟩ := h
    refine ⟨_, pss_one (ps_ret (pe_chain op_le_str op_le_str pe_str (pv 0) pe_str)), ?_⟩
    refine ⟨_, rfl, _, _, rfl, rfl, _, rfl, ?_⟩
    have e1 : (!decide ((⟨#[c]⟩ : Str).cps.toList < (Str.ofString "a").cps.toList)) = decide (97 ≤ c) := le_one 97 c
    have e2 : (!decide ((Str.ofString "z").cps.toList < (⟨#[c]⟩ : Str).cps.toList)) = decide (c ≤ 122) := le_one c 122
    rw [e1]
    unfold isL at q
    cases h : decide (97 ≤ c) with
    | true =>
      rw [h] at q
      refine iteT ⟨_, _, rfl, rfl, ?_⟩
      rw [e2]
      exact q
    | false =>
      rw [h] at q
      exact iteF q
theorem ok_dig {k : Nat} {f : Addr} {fd : FuncData} (F : Fun K "_law_is_digit" "_law_is_digit" sDig f fd) : FnOk P w K mg base CX0 (k + 1) f fd ["sign"] (spSign isD) := by
  refine F.ok scDig (fun vs H Q E h => ?_) (fun cdv A outer s H vs Q E hr h => ?_)
  · obtain ⟨c, rfl, _⟩ := h
    rfl
  · obtain ⟨c, rfl, q⟩ := h
    refine ⟨_, pss_one (ps_ret (pe_chain op_le_str op_le_str pe_str (pv 0) pe_str)), ?_⟩
    refine ⟨_, rfl, _, _, rfl, rfl, _, rfl, ?_⟩
    have e1 : (!decide ((⟨#[c]⟩ : Str).cps.toList < (Str.ofString "0").cps.toList)) = decide (48 ≤ c) := le_one 48 c
    have e2 : (!decide ((Str.ofString "9").cps.toList < (⟨#[c]⟩ : Str).cps.toList)) = decide (c ≤ 57) := le_one c 57
    rw [e1]
    unfold isD at q
    cases h : decide (48 ≤ c) with
    | true =>
      rw [h] at q
      refine iteT ⟨_, _, rfl, rfl, ?_⟩
      rw [e2]
      exact q
    | false =>
      rw [h] at q
      exact iteF q
/-- a comprehension over a text: those signs that p lets by, each as e says -/
theorem lc_text {z : Str} {p : Nat → Bool} {e : Nat → V} {g : TG} {tt : TT} {te : TE} {vs : List Nat} {σ : L2.St} {H1 : Hp} {D : Addr} {Qd : Hp → Prop} (hz : z.length < sizeLine) (nD : H1 D = none)
    (hs : ∀ (c : Nat) (H : Hp) (Y : V → Hp → Prop) (N : Hp → Prop), c ∈ z.cps.toList → Same H1 H → (p c = true → Y (e c) H) → (p c = false → N H) →
      g (.str ⟨#[c]⟩) (wipe σ vs) H fun σ2 H2 => wipe σ2 vs = wipe σ vs ∧ tt σ2 H2 fun b H3 => if b = true then te σ2 H3 Y else N H3)
    (hd : ∀ H, Same H1 H → H D = some (.lst ((z.cps.toList.filter p).map e)) → (∀ q, H q = none → H1 q = none) → Qd H) :
    ∃ W : Nat → Nat → Hp → Prop, (∃ m, W 0 m (upd H1 D (.lst []))) ∧ ∀ i m H, W i m H →
      ((Its z).stop i H ∧ Qd H) ∨ ((Its z).go i H ∧ ∃ Nx : Hp → Prop, (∀ H', Nx H' → ∃ m', m' < m ∧ W (i + 1) m' H') ∧ ∀ x H', (Its z).yld i H x H' → g x (wipe σ vs) H' fun σ2 H2 => wipe σ2 vs = wipe σ vs ∧ tt σ2 H2 fun b H3 =>
        if b = true then te σ2 H3 fun y H4 => ∃ acc, H4 D = some (.lst acc) ∧ acc.length < sizeLine ∧ Nx (upd H4 D (.lst (acc ++ [y]))) else Nx H3) := by
  refine lc_it walk_str (fun i H => Same H1 H ∧ H D = some (.lst (((z.cps.toList.take i).filter p).map e)) ∧ ∀ q, H q = none → H1 q = none) ⟨same_new nD, ?_, ?_⟩ (fun _ _ _ _ => trivial) ?_ ?_
  · rw [upd_same]
    rfl
  · intro q hq
    by_cases c : q = D
    · rw [c]
      exact nD
    · rw [upd_ne c] at hq
      exact hq
  · rintro i x H H' hi ⟨sm, hD, hn⟩ ⟨rfl, c, hc, rfl⟩
    have hc' : z.cps.toList[i]? = some c := by
      rw [Array.getElem?_toList]
      exact hc
    have et : z.cps.toList.take (i + 1) = z.cps.toList.take i ++ [c] := by
      rw [List.take_add_one, hc']
      rfl
    refine hs c H' _ _ (List.mem_of_getElem? hc') sm (fun hp => ?_) (fun hp => ?_)
    · refine ⟨_, hD, ?_, ?_, ?_, ?_⟩
      · rw [List.length_map]
        refine Nat.lt_of_le_of_lt (List.length_filter_le _ _) (Nat.lt_of_le_of_lt ?_ hz)
        rw [List.length_take, Array.length_toList]
        exact Nat.min_le_right _ _
      · intro b o eb
        rw [upd_ne (ne_of_none eb nD)]
        exact sm b o eb
      · rw [upd_same, et, List.filter_append, List.map_append, List.filter_cons, if_pos hp]
        rfl
      · intro q hq
        by_cases cq : q = D
        · rw [cq]
          exact nD
        · rw [upd_ne cq] at hq
          exact hn q hq
    · refine ⟨sm, ?_, hn⟩
      rw [et, List.filter_append, List.filter_cons, if_neg (by rw [hp]; decide), List.filter_nil, List.append_nil]
      exact hD
  · rintro H ⟨sm, hD, hn⟩
    refine hd H sm ?_ hn
    rw [hD, List.take_of_length_le (by rw [Array.length_toList]; exact Nat.le_refl _)]

/-! ### _law_sort -/
def spSortL : Sp := fun vs H Q _ => ∃ z : Str, vs = [.str z] ∧ Asc 1000 z ∧ ∀ H', Same H H' → Q (srt z) H'
theorem ok_sort {k : Nat} {f fK fG fA fD : Addr} {fd dK dG dA dD : FuncData} (F : Fun K "_law_sort" "_law_sort" sSort f fd) (B : Bi mg)
    (FK : Fun K "_law_keywords" "_law_keywords" sKw fK dK) (bK : Binds K dK [] []) (gK : mg "_law_keywords" = some (.ref fK))
    (FG : Fun K "_law_signs" "_law_signs" sSg fG dG) (bG : Binds K dG [] []) (gG : mg "_law_signs" = some (.ref fG))
    (FA : Fun K "_law_is_letter" "_law_is_letter" sLet fA dA) (bA : Binds K dA ["sign"] []) (gA : mg "_law_is_letter" = some (.ref fA))
    (FD : Fun K "_law_is_digit" "_law_is_digit" sDig fD dD) (bD : Binds K dD ["sign"] []) (gD : mg "_law_is_digit" = some (.ref fD)) :
    FnOk P w K mg base CX0 (k + 2) f fd ["word"] spSortL := by
  have GK : FnOk P w K mg base CX0 (k + 1) fK dK [] (spNew0 kwL) := ok_kw FK
  have GG : FnOk P w K mg base CX0 (k + 1) fG dG [] (spNew0 sgL) := ok_sg FG
  have GA : FnOk P w K mg base CX0 (k + 1) fA dA ["sign"] (spSign isL) := ok_let FA
  have GD : FnOk P w K mg base CX0 (k + 1) fD dD ["sign"] (spSign isD) := ok_dig FD
  refine F.ok scSort (fun vs H Q E h => ?_) (fun cdv A outer s H vs Q E hr h => ?_)
  · obtain ⟨z, rfl, _⟩ := h
    rfl
  · obtain ⟨z, rfl, hA, q⟩ := h
    have nd := scSort.nd
    refine ⟨_, pss_cons (ps_if (pt_cmpR op_in_seq (pv 0) (pe_call0 GK hr (by rfl) gK FK.kp bK .nil pass0) (by rfl)) (pss_one (ps_ret pe_str)) pss_nil)
      (pss_cons (ps_if (pt_cmpR op_in_seq (pv 0) (pe_call0 GG hr (by rfl) gG FG.kp bG .nil pass0) (by rfl)) (pss_one (ps_ret pe_str)) pss_nil)
      (pss_cons (ps_setLc (i := 1) (own := [("sign", 3)]) (g := gName 3) (by rfl) nd rfl rfl (sw_true rfl rfl rfl (by decide +kernel)) (pi_str (pv 0))
          (blkOk_by (own := [("sign", 3)]) (N := nSort) (sc := defScope sSort) (by decide +kernel)) (fun _ _ _ _ _ => pg_name (i := 3) nd rfl (Or.inl rfl))
          (fun _ _ _ _ _ => pts_one (PW.pt (pw_and (pt_not (pt_val (pe_call GA hr (by rfl) gA FA.kp bA .nil pass0 (pa_cons (pv 3) pa_nil)))) (pw_and1 (pt_not (pt_val (pe_call GD hr (by rfl) gD FD.kp bD .nil pass0 (pa_cons (pv 3) pa_nil)))))))) (fun _ _ _ _ _ => pv 3))
      (pss_cons (ps_if (PW.pt (pw_or (pt_not (pt_chain op_le op_le pe_int (pe_callB call_len (by rfl) B.len PySem.boot_len (pa_cons (pv 0) pa_nil)) pe_int)) (pw_or1 (pt_cmpR (op_neD hr.units) (pv 1) (pe_lst pa_nil) (nomark _))))) (pss_one (ps_ret pe_non)) pss_nil)
      (pss_cons (ps_if (pt_val (pe_call GA hr (by rfl) gA FA.kp bA .nil pass0 (pa_cons (pe_ix ix_str (pv 0) pe_int (fun _ _ => rfl)) pa_nil))) (pss_one (ps_ret pe_str)) pss_nil)
      (pss_cons (ps_set (i := 2) nd rfl (.inl rfl) (pe_and (pe_cmpR op_le (pe_callB call_len (by rfl) B.len PySem.boot_len (pa_cons (pv 0) pa_nil)) pe_int (nomark _))
          (pe_one (pe_cmpR (op_eqD hr.units) (pe_lc (own := [("sign", 3)]) (g := gName 3) (by rfl) nd (pi_str (pv 0)) (blkOk_by (own := [("sign", 3)]) (N := nSort) (sc := defScope sSort) (by decide +kernel)) (fun _ _ _ _ _ => pg_name (i := 3) nd rfl (Or.inl rfl))
            (fun _ _ _ _ _ => pts_one (pt_val (pe_call GA hr (by rfl) gA FA.kp bA .nil pass0 (pa_cons (pv 3) pa_nil)))) (fun _ _ _ _ _ => pv 3)) (pe_lst pa_nil) (nomark _)))))
      (pss_one (ps_ret (pe_ifExp (PW.pt (pw_and (pt_val (pv 2)) (pw_and1 (PW.pt (pw_or (pt_cmpR op_ne (pe_ix ix_str (pv 0) pe_int (fun _ _ => rfl)) pe_str (nomark _)) (pw_or1 (pt_cmpR op_eq (pe_callB call_len (by rfl) B.len PySem.boot_len (pa_cons (pv 0) pa_nil)) pe_int (nomark _)))))))) pe_str pe_non)))))))), ?_⟩
    have hz : z.length < sizeLine := Nat.lt_of_le_of_lt hA.len (by decide)
    have hz' : z.length ≤ sizeLine := Nat.le_of_lt hz
    -- word in _law_keywords()
    refine ⟨.str z, rfl, rfl, fun H1 p1 s1 _ e1 => ⟨p1, _, rfl, .inl (SqL.of e1), rfl, flat_strs kwL, _, rfl, ite2 (fun c => ?_) (fun c => ?_)⟩⟩
    · have c' : inL z kwL = true := c
      have e : srt z = .str "keyword" := if_pos c'
      rw [e] at q
      exact q H1 s1
    have c1 : ¬ inL z kwL = true := c
    -- word in _law_signs()
    refine ⟨.str z, rfl, rfl, fun H2 p2 s2' _ e2 => ⟨p2, _, rfl, .inl (SqL.of e2), rfl, flat_strs sgL, _, rfl, ite2 (fun c => ?_) (fun c => ?_)⟩⟩
    · have c' : inL z sgL = true := c
      have e : srt z = .str "sign" := (if_neg c1).trans (if_pos c')
      rw [e] at q
      exact q H2 (s1.trans s2')
    have c2 : ¬ inL z sgL = true := c
    have s2 := s1.trans s2'
    have e0 : srt z = _ := (if_neg c1).trans (if_neg c2)
    -- odd
    refine ⟨.str z, rfl, z, rfl, fun D nD => lc_text (p := fun c => !isL c && !isD c) (e := oneS) hz nD (fun c H3 Y N hc sm hy hn => ?_) (fun H3 s3' eD _ => ?_)⟩
    · refine ⟨rfl, _, rfl, c, rfl, isL c, rfl, ?_⟩
      cases hl : isL c with
      | true => exact iteF (iteF (hn (by rw [hl]; rfl)))
      | false =>
        refine iteT ⟨_, rfl, c, rfl, isD c, rfl, ?_⟩
        cases hd : isD c with
        | true => exact iteF (hn (by rw [hl, hd]; rfl))
        | false => exact iteT ⟨_, rfl, hy (by rw [hl, hd]; rfl)⟩
    have s3 := s2.trans s3'
    generalize ho : (z.cps.toList.filter fun c => !isL c && !isD c) = odd at eD e0
    have lowO : ∀ y ∈ odd.map (fun c => (⟨#[c]⟩ : Str)), ∀ c ∈ y.cps.toList, c < 128 := by
      intro y hy c hc
      obtain ⟨a, ha, rfl⟩ := List.mem_map.mp hy
      have hca : c = a := by simpa using hc
      rw [hca]
      rw [← ho] at ha
      exact hA.low a (List.mem_filter.mp ha).1
    have eO : odd.map oneS = (odd.map fun c => (⟨#[c]⟩ : Str)).map V.str := by
      rw [List.map_map]
      rfl
    have none1 : ¬ (1 ≤ z.length ∧ z.length ≤ 20) ∨ odd ≠ [] → srt z = .non := fun h => e0.trans (if_pos h)
    -- not 1 <= len(word) <= 20 or odd != []
    refine ⟨.str z, rfl, .str z, z.length, rfl, ⟨hz', rfl⟩, _, _, rfl, rfl, _, rfl, ?_⟩
    by_cases h1 : 1 ≤ z.length
    case neg =>
      rw [decide_eq_false (show ¬ (1 : Int) ≤ (z.length : Int) by omega)]
      refine iteF ⟨_, rfl, iteT (iteT ?_)⟩
      rw [none1 (.inl fun h => h1 h.1)] at q
      exact q _ s3
    rw [decide_eq_true (show (1 : Int) ≤ (z.length : Int) by omega)]
    refine iteT ⟨_, _, rfl, rfl, _, rfl, ?_⟩
    by_cases h2 : z.length ≤ 20
    case neg =>
      rw [decide_eq_false (show ¬ (z.length : Int) ≤ 20 by omega)]
      refine iteT (iteT ?_)
      rw [none1 (.inl fun h => h2 h.2)] at q
      exact q _ s3
    rw [decide_eq_true (show (z.length : Int) ≤ 20 by omega)]
    refine iteF ⟨.ref D, rfl, Nat.zero_le _, fun e4 n4 => ?_⟩
    have s4' : Same H3 (upd H3 e4 (.lst [])) := same_new n4
    have s4 := s3.trans s4'
    refine ⟨.list ((odd.map fun c => (⟨#[c]⟩ : Str)).map PyData.str), .list [], .lst (xs := odd.map oneS) (SqL.of (s4' _ _ eD)) (by rw [eO]; exact dp_strs _), .lst (SqL.of upd_same) .nil, shaped_strs lowO, by decide, _, rfl, ?_⟩
    rw [eqv_nil]
    cases hod : odd with
    | cons o os =>
      refine iteT ?_
      rw [none1 (.inr (by rw [hod]; intro h; cases h))] at q
      exact q _ s4
    | nil =>
    refine iteF ?_
    have e5 : srt z = _ := e0.trans (if_neg (by rw [hod]; intro h; rcases h with h | h; exact h ⟨h1, h2⟩; exact h rfl))
    cases hcs : z.cps.toList with
    | nil =>
      have : z.length = z.cps.toList.length := (Array.length_toList).symm
      rw [hcs] at this
      exact absurd this (by show ¬ z.length = 0; omega)
    | cons c r =>
    rw [hcs] at e5
    have e6 : srt z = if isL c = true then V.str "name" else if ((decide (z.length ≤ 9) && ((c :: r).filter isL).isEmpty) && (c != 48 || decide (z.length = 1))) = true then V.str "number" else .non := e5
    have at0 : atI z.cps.toList 0 = some c := atI_nat (j := 0) (by rw [hcs]; rfl)
    -- _law_is_letter(word[0])
    refine ⟨.str z, rfl, z, 0, c, rfl, rfl, hz', at0, c, rfl, _, rfl, ite2 (fun hl => ?_) (fun hl => ?_)⟩
    · rw [e6, if_pos hl] at q
      exact q _ s4
    rw [if_neg hl] at e6
    -- is_number
    refine ⟨.str z, rfl, .str z, z.length, rfl, ⟨hz', rfl⟩, _, _, rfl, rfl, _, rfl, ?_⟩
    by_cases h9 : z.length ≤ 9
    case neg =>
      rw [decide_eq_false (show ¬ (z.length : Int) ≤ 9 by omega)]
      refine iteF ⟨_, rfl, false, rfl, iteF (iteF ?_)⟩
      rw [decide_eq_false h9] at e6
      rw [e6] at q
      exact q _ s4
    rw [decide_eq_true (show (z.length : Int) ≤ 9 by omega)]
    rw [decide_eq_true h9] at e6
    refine iteT ⟨.str z, rfl, z, rfl, fun D5 nD5 => lc_text (p := isL) (e := oneS) hz nD5 (fun c H6 Y N hc sm hy hn => ?_) (fun H6 s6' eD6 _ => ?_)⟩
    · refine ⟨rfl, _, rfl, c, rfl, isL c, rfl, ?_⟩
      cases hl : isL c with
      | true => exact iteT ⟨_, rfl, hy hl⟩
      | false => exact iteF (hn hl)
    have s6 := s4.trans s6'
    rw [hcs] at eD6
    generalize hf : (c :: r).filter isL = fl at eD6 e6
    have lowF : ∀ y ∈ fl.map (fun c => (⟨#[c]⟩ : Str)), ∀ c ∈ y.cps.toList, c < 128 := by
      intro y hy a ha
      obtain ⟨x, hx, rfl⟩ := List.mem_map.mp hy
      have hax : a = x := by simpa using ha
      rw [hax]
      rw [← hf, ← hcs] at hx
      exact hA.low x (List.mem_filter.mp hx).1
    have eF : fl.map oneS = (fl.map fun c => (⟨#[c]⟩ : Str)).map V.str := by
      rw [List.map_map]
      rfl
    refine ⟨Nat.zero_le _, fun e7 n7 => ?_⟩
    have s7' : Same H6 (upd H6 e7 (.lst [])) := same_new n7
    have s7 := s6.trans s7'
    refine ⟨.list ((fl.map fun c => (⟨#[c]⟩ : Str)).map PyData.str), .list [], .lst (xs := fl.map oneS) (SqL.of (s7' _ _ eD6)) (by rw [eF]; exact dp_strs _), .lst (SqL.of upd_same) .nil, shaped_strs lowF, by decide, ?_⟩
    rw [eqv_nil]
    have em : ((fl.map fun c => (⟨#[c]⟩ : Str)).map PyData.str).isEmpty = fl.isEmpty := by
      cases fl <;> rfl
    rw [em]
    refine ⟨_, rfl, _, rfl, ?_⟩
    cases hfe : fl.isEmpty with
    | false =>
      refine iteF (iteF ?_)
      rw [hfe] at e6
      rw [e6] at q
      exact q _ s7
    | true =>
    rw [hfe] at e6
    refine iteT ⟨.str z, rfl, z, 0, c, rfl, rfl, hz', at0, rfl, _, rfl, ?_⟩
    have ne48 : (!decide (V.str ⟨#[c]⟩ = V.str "0")) = (c != 48) := by
      by_cases h : c = 48
      · rw [h]
        decide
      · have h' : ¬ V.str ⟨#[c]⟩ = V.str "0" := by
          intro e
          have e2 : (⟨#[c]⟩ : Str).cps.toList = (Str.ofString "0").cps.toList := by rw [V.str.inj e]
          have e3 : [c] = [48] := e2
          exact h (List.cons.inj e3).1
        rw [decide_eq_false h']
        simp [h]
    rw [ne48]
    cases hc48 : (c != 48) with
    | true =>
      refine iteT (iteT ?_)
      rw [hc48] at e6
      rw [e6] at q
      exact q _ s7
    | false =>
    rw [hc48] at e6
    refine iteF ⟨.str z, rfl, .str z, z.length, rfl, ⟨hz', rfl⟩, rfl, _, rfl, ?_⟩
    by_cases hn1 : z.length = 1
    · rw [decide_eq_true (show V.int (z.length : Int) = V.int 1 by rw [hn1]; rfl)]
      refine iteT ?_
      rw [decide_eq_true hn1] at e6
      rw [e6] at q
      exact q _ s7
    · rw [decide_eq_false (show ¬ V.int (z.length : Int) = V.int 1 from fun e => hn1 (by have := V.int.inj e; omega))]
      refine iteF ?_
      rw [decide_eq_false hn1] at e6
      rw [e6] at q
      exact q _ s7
end
end Ke


set_option Elab.async false
set_option linter.all false
set_option maxRecDepth 100000
namespace Ke
open PySem PySem.Spec PyProof.Rows L2 Gd
open C8 (tCut pss_cut)
abbrev sPSort : Stmt := topS 18
abbrev sPNum : Stmt := topS 19
abbrev sPName : Stmt := topS 20
abbrev sIsName : Stmt := topS 24
abbrev sIsKind : Stmt := topS 25
abbrev sLWord : Stmt := topS 38
abbrev sLName : Stmt := topS 39
abbrev sLKind : Stmt := topS 40
abbrev nText : List Str := ["text", "letter"]
theorem scPSort : FnScope ["thing"] ["thing"] (defScope sPSort) := ⟨rfl, rfl, rfl, by decide +kernel, rfl, by decide +kernel, by decide +kernel⟩
theorem scPNum : FnScope nText ["text"] (defScope sPNum) := ⟨rfl, rfl, rfl, by decide +kernel, rfl, by decide +kernel, by decide +kernel⟩
theorem scPName : FnScope nText ["text"] (defScope sPName) := ⟨rfl, rfl, rfl, by decide +kernel, rfl, by decide +kernel, by decide +kernel⟩
theorem scIsName : FnScope ["thing"] ["thing"] (defScope sIsName) := ⟨rfl, rfl, rfl, by decide +kernel, rfl, by decide +kernel, by decide +kernel⟩
theorem scIsKind : FnScope ["thing"] ["thing"] (defScope sIsKind) := ⟨rfl, rfl, rfl, by decide +kernel, rfl, by decide +kernel, by decide +kernel⟩
theorem scLWord : FnScope ["thing"] ["thing"] (defScope sLWord) := ⟨rfl, rfl, rfl, by decide +kernel, rfl, by decide +kernel, by decide +kernel⟩
theorem scLName : FnScope ["thing"] ["thing"] (defScope sLName) := ⟨rfl, rfl, rfl, by decide +kernel, rfl, by decide +kernel, by decide +kernel⟩
theorem scLKind : FnScope ["thing"] ["thing"] (defScope sLKind) := ⟨rfl, rfl, rfl, by decide +kernel, rfl, by decide +kernel, by decide +kernel⟩

/-! ### the program's own looks, and that they come to the same -/
def numB (z : Str) : Bool := (decide (1 ≤ z.length) && decide (z.length ≤ 9)) && (!((z.cps.toList.head? == some 48) && decide (1 < z.length)) && z.cps.toList.all isD)
def nameB (z : Str) : Bool := (decide (1 ≤ z.length) && decide (z.length ≤ 20)) && ((match z.cps.toList with | [] => false | c :: _ => isL c) && z.cps.toList.all fun c => isL c || isD c)
def srtP (z : Str) : V := if inL z kwL = true then .str "keyword" else if inL z sgL = true then .str "sign" else if numB z = true then .str "number" else if nameB z = true then .str "name" else .non
theorem isL_isD {c : Nat} (h : isL c = true) : isD c = false := by
  unfold isL at h
  unfold isD
  simp only [Bool.and_eq_true, decide_eq_true_eq] at h
  rw [decide_eq_false (show ¬ c ≤ 57 by omega), Bool.and_false]
theorem all_LD {cs : List Nat} : (cs.filter fun c => !isL c && !isD c) = [] ↔ (cs.all fun c => isL c || isD c) = true := by
  rw [List.filter_eq_nil_iff, List.all_eq_true]
  refine forall_congr' fun c => forall_congr' fun _ => ?_
  cases isL c <;> cases isD c <;> simp
theorem all_D {cs : List Nat} (h : (cs.all fun c => isL c || isD c) = true) : cs.all isD = (cs.filter isL).isEmpty := by
  rw [List.all_eq_true] at h
  rw [Bool.eq_iff_iff, List.isEmpty_iff, List.filter_eq_nil_iff, List.all_eq_true]
  refine forall_congr' fun c => ?_
  constructor
  · intro k hc hl
    have := isL_isD hl
    rw [k hc] at this
    cases this
  · intro k hc
    have := h c hc
    have nl := k hc
    cases hl : isL c with
    | true => exact absurd hl nl
    | false =>
      rw [hl] at this
      simpa using this
theorem len_cps (z : Str) : z.length = z.cps.toList.length := Array.length_toList.symm
theorem srt_eq (z : Str) : srtP z = srt z := by
  unfold srtP srt
  by_cases hk : inL z kwL = true
  · rw [if_pos hk, if_pos hk]
  rw [if_neg hk, if_neg hk]
  by_cases hg : inL z sgL = true
  · rw [if_pos hg, if_pos hg]
  rw [if_neg hg, if_neg hg]
  by_cases hl : 1 ≤ z.length ∧ z.length ≤ 20
  case neg =>
    rw [if_pos (show ¬ (1 ≤ z.length ∧ z.length ≤ 20) ∨ (z.cps.toList.filter fun c => !isL c && !isD c) ≠ [] from .inl hl)]
    have n1 : numB z = false := by
      unfold numB
      by_cases h1 : 1 ≤ z.length
      · rw [decide_eq_false (show ¬ z.length ≤ 9 by omega), Bool.and_false, Bool.false_and]
      · rw [decide_eq_false h1, Bool.false_and, Bool.false_and]
    have n2 : nameB z = false := by
      unfold nameB
      by_cases h1 : 1 ≤ z.length
      · rw [decide_eq_false (show ¬ z.length ≤ 20 by omega), Bool.and_false, Bool.false_and]
      · rw [decide_eq_false h1, Bool.false_and, Bool.false_and]
    rw [n1, n2]
    rfl
  by_cases ho : (z.cps.toList.filter fun c => !isL c && !isD c) = []
  case neg =>
    rw [if_pos (show ¬ (1 ≤ z.length ∧ z.length ≤ 20) ∨ (z.cps.toList.filter fun c => !isL c && !isD c) ≠ [] from .inr ho)]
    have na : (z.cps.toList.all fun c => isL c || isD c) = false := by
      cases h : z.cps.toList.all fun c => isL c || isD c with
      | false => rfl
      | true => exact absurd (all_LD.mpr h) ho
    have nd : z.cps.toList.all isD = false := by
      cases h : z.cps.toList.all isD with
      | false => rfl
      | true =>
        rw [List.all_eq_true] at h
        have na' : (z.cps.toList.all fun c => isL c || isD c) = true := List.all_eq_true.mpr fun c hc => by rw [h c hc, Bool.or_true]
        rw [na] at na'
        cases na'
    have n1 : numB z = false := by
      unfold numB
      rw [nd, Bool.and_false, Bool.and_false]
    have n2 : nameB z = false := by
      unfold nameB
      rw [na, Bool.and_false, Bool.and_false]
    rw [n1, n2]
    rfl
  rw [if_neg (show ¬ (¬ (1 ≤ z.length ∧ z.length ≤ 20) ∨ (z.cps.toList.filter fun c => !isL c && !isD c) ≠ []) by intro h; rcases h with h | h; exact h hl; exact h ho)]
  have ha := all_LD.mp ho
  have hd := all_D ha
  have hlen := len_cps z
  unfold numB nameB
  rw [ha, hd, decide_eq_true hl.1, decide_eq_true hl.2]
  cases hcs : z.cps.toList with
  | nil =>
    rw [hcs] at hlen
    have : z.length = 0 := hlen
    omega
  | cons c r =>
    have e1 : (List.head? (c :: r) == some 48) = (c == 48) := rfl
    rw [e1]
    cases hc : isL c with
    | true =>
      have nf : (List.filter isL (c :: r)).isEmpty = false := by
        rw [List.filter_cons, if_pos hc]
        rfl
      rw [nf]
      simp [hc]
    | false =>
      simp only [hc, Bool.true_and, Bool.false_and, Bool.false_eq_true, if_false, Bool.and_assoc]
      have : (!((c == 48) && decide (1 < z.length))) = ((c != 48) || decide (z.length = 1)) := by
        by_cases h1 : z.length = 1
        · rw [decide_eq_true h1, decide_eq_false (show ¬ 1 < z.length by omega)]
          simp
        · rw [decide_eq_false h1, decide_eq_true (show 1 < z.length by omega)]
          simp [bne]
      rw [this, Bool.and_comm ((c != 48) || decide (z.length = 1))]

/-! ### the texts of letters and digits -/
theorem mem_digits (c : Nat) : decide (c ∈ (Str.ofString "0123456789").cps.toList) = isD c := by
  have e : (Str.ofString "0123456789").cps.toList = List.range' 48 10 := by decide +kernel
  rw [e]
  unfold isD
  by_cases h : 48 ≤ c ∧ c ≤ 57
  · rw [decide_eq_true h.1, decide_eq_true h.2, decide_eq_true (List.mem_range'_1.mpr ⟨h.1, by omega⟩)]
    rfl
  · rw [decide_eq_false (fun z => h (by have := List.mem_range'_1.mp z; omega))]
    by_cases h1 : 48 ≤ c
    · rw [decide_eq_false (show ¬ c ≤ 57 by omega), Bool.and_false]
    · rw [decide_eq_false h1, Bool.false_and]
theorem mem_letters (c : Nat) : decide (c ∈ (Str.ofString "abcdefghijklmnopqrstuvwxyz").cps.toList) = isL c := by
  have e : (Str.ofString "abcdefghijklmnopqrstuvwxyz").cps.toList = List.range' 97 26 := by decide +kernel
  rw [e]
  unfold isL
  by_cases h : 97 ≤ c ∧ c ≤ 122
  · rw [decide_eq_true h.1, decide_eq_true h.2, decide_eq_true (List.mem_range'_1.mpr ⟨h.1, by omega⟩)]
    rfl
  · rw [decide_eq_false (fun z => h (by have := List.mem_range'_1.mp z; omega))]
    by_cases h1 : 97 ≤ c
    · rw [decide_eq_false (show ¬ c ≤ 122 by omega), Bool.and_false]
    · rw [decide_eq_false h1, Bool.false_and]
/-! ### the module's constants -/
structure Cs (K : PySem.W.Frag) (mg : Str → Option Value) (ka sa : Addr) : Prop where
  kw : mg "KEYWORDS" = some (.ref ka)
  sg : mg "SIGNS" = some (.ref sa)
  lt : ∃ t, mg "LETTERS" = some (.str "abcdefghijklmnopqrstuvwxyz" t)
  dg : ∃ t, mg "DIGITS" = some (.str "0123456789" t)
  ln : ∃ t, mg "LONGEST_NAME" = some (.int 20 t)
  lm : ∃ t, mg "LONGEST_NUMBER" = some (.int 9 t)
  kwT : ∀ H, SqT K H ka (kwL.map V.str)
  sgT : ∀ H, SqT K H sa (sgL.map V.str)
theorem all_map (cs : List Nat) (g : Nat → Bool) : ((cs.filter fun _ => true).map fun c => V.bl (g c)) = (cs.map g).map V.bl := by
  rw [List.filter_eq_self.mpr (fun _ _ => rfl), List.map_map]
  rfl
theorem all_id (cs : List Nat) (g : Nat → Bool) : (cs.map g).all id = cs.all g := by
  rw [List.all_map]
  rfl
theorem first_is (c : Nat) : decide (V.str ⟨#[c]⟩ = V.str "0") = (c == 48) := by
  by_cases h : c = 48
  · rw [h]
    decide
  · have h' : ¬ V.str ⟨#[c]⟩ = V.str "0" := by
      intro e
      have e2 : (⟨#[c]⟩ : Str).cps.toList = (Str.ofString "0").cps.toList := by rw [V.str.inj e]
      have e3 : [c] = [48] := e2
      exact h (List.cons.inj e3).1
    rw [decide_eq_false h']
    simp [h]

section
variable {P : Program} {w : World} {K : PySem.W.Frag} {mg : Str → Option Value} {base : Heap}
def spText (g : Str → Bool) : Sp := fun vs H Q _ => ∃ z : Str, vs = [.str z] ∧ z.length ≤ 1000 ∧ ∀ H', Same H H' → Q (.bl (g z)) H'
theorem ok_pnum {k : Nat} {f kw sg : Addr} {fd : FuncData} (F : Fun K "_shows_number" "_shows_number" sPNum f fd) (B : Bi mg) (C : Cs K mg kw sg) : FnOk P w K mg base CX0 (k + 1) f fd ["text"] (spText numB) := by
  obtain ⟨tm, gm⟩ := C.lm
  obtain ⟨td, gd⟩ := C.dg
  refine F.ok scPNum (fun vs H Q E h => ?_) (fun cdv A outer s H vs Q E hr h => ?_)
  · obtain ⟨z, rfl, _⟩ := h
    rfl
  · obtain ⟨z, rfl, hlen, q⟩ := h
    have nd := scPNum.nd
    have hz : z.length < sizeLine := Nat.lt_of_le_of_lt hlen (by decide)
    have hz' : z.length ≤ sizeLine := Nat.le_of_lt hz
    refine ⟨_, pss_cons (ps_if (PW.pt (pw_or (pt_not (pt_chain op_le op_le pe_int (pe_callB call_len (by rfl) B.len PySem.boot_len (pa_cons (pv 0) pa_nil)) (pe_glob (v := .int 9) (by rfl) gm ⟨_, rfl⟩)))
          (pw_or1 (PW.pt (pw_and (pt_cmpR op_eq (pe_ix ix_str (pv 0) pe_int (fun _ _ => rfl)) pe_str (nomark _)) (pw_and1 (pt_cmpR op_gt (pe_callB call_len (by rfl) B.len PySem.boot_len (pa_cons (pv 0) pa_nil)) pe_int (nomark _))))))))
        (pss_one (ps_ret pe_bl)) pss_nil)
      (pss_one (ps_ret (pe_callB (cr_all rfl) (by rfl) B.all PyProof.Rows.boot_all (pa_cons
        (pe_lc (own := [("letter", 1)]) (g := gName 1) (tt := tYes) (by rfl) nd (pi_str (pv 0)) (blkOk_by (own := [("letter", 1)]) (N := nText) (sc := defScope sPNum) (by decide +kernel)) (fun _ _ _ _ _ => pg_name (i := 1) nd rfl (Or.inl rfl))
          (fun _ _ _ _ _ => pts_nil) (fun _ _ _ _ _ => pe_cmpR op_in_sign (pv 1) (pe_glob (v := .str "0123456789") (by rfl) gd ⟨_, rfl⟩) (by rfl))) pa_nil)))), ?_⟩
    have last : (decide (1 ≤ z.length) && decide (z.length ≤ 9)) = true → ((z.cps.toList.head? == some 48) && decide (1 < z.length)) = false → ∀ (H' : Hp), Same H H' → Q (.bl (z.cps.toList.all isD)) H' := by
      intro e1 e2 H' sm
      have e : numB z = z.cps.toList.all isD := by
        unfold numB
        rw [e1, e2]
        rfl
      rw [← e]
      exact q H' sm
    have no : numB z = false → Q (.bl false) H := by
      intro e
      rw [← e]
      exact q H (Same.refl H)
    refine ⟨.str z, rfl, .str z, z.length, rfl, ⟨hz', rfl⟩, _, _, rfl, rfl, _, rfl, ?_⟩
    by_cases h1 : 1 ≤ z.length
    case neg =>
      rw [decide_eq_false (show ¬ (1 : Int) ≤ (z.length : Int) by omega)]
      refine iteF ⟨_, rfl, iteT (iteT (no ?_))⟩
      unfold numB
      rw [decide_eq_false h1]
      rfl
    rw [decide_eq_true (show (1 : Int) ≤ (z.length : Int) by omega)]
    refine iteT ⟨_, _, rfl, rfl, _, rfl, ?_⟩
    by_cases h2 : z.length ≤ 9
    case neg =>
      rw [decide_eq_false (show ¬ (z.length : Int) ≤ 9 by omega)]
      refine iteT (iteT (no ?_))
      unfold numB
      rw [decide_eq_false h2, Bool.and_false]
      rfl
    rw [decide_eq_true (show (z.length : Int) ≤ 9 by omega)]
    cases hcs : z.cps.toList with
    | nil =>
      have hl := len_cps z
      rw [hcs] at hl
      exact absurd hl (by show ¬ z.length = 0; omega)
    | cons c r =>
    have at0 : atI z.cps.toList 0 = some c := atI_nat (j := 0) (by rw [hcs]; rfl)
    have eh : (z.cps.toList.head? == some 48) = (c == 48) := by
      rw [hcs]
      rfl
    rw [eh] at last
    refine iteF ⟨.str z, rfl, z, 0, c, rfl, rfl, hz', at0, rfl, _, rfl, ?_⟩
    rw [first_is c]
    have go : ((c == 48) && decide (1 < z.length)) = false → ∀ D, H D = none → ∀ H', Same H H' → H' D = some (.lst ((z.cps.toList.map isD).map V.bl)) → Q (.bl ((z.cps.toList.map isD).all id)) H' := by
      intro e D nD H' sm eD
      rw [all_id]
      exact last (by rw [decide_eq_true h1, decide_eq_true h2]; rfl) e H' sm
    cases h48 : c == 48 with
    | true =>
      refine iteT ⟨.str z, rfl, .str z, z.length, rfl, ⟨hz', rfl⟩, _, _, rfl, rfl, _, rfl, ?_⟩
      by_cases hb : 1 < z.length
      · rw [decide_eq_true (show (1 : Int) < (z.length : Int) by omega)]
        refine iteT (no ?_)
        unfold numB
        rw [eh, h48, decide_eq_true hb, Bool.true_and, Bool.not_true, Bool.false_and, Bool.and_false]
      · rw [decide_eq_false (show ¬ (1 : Int) < (z.length : Int) by omega)]
        rw [h48, decide_eq_false hb] at go
        refine iteF ⟨.str z, rfl, z, rfl, fun D nD => lc_text (p := fun _ => true) (e := fun c => V.bl (isD c)) hz nD (fun c H3 Y N hc sm hy hn => ?_) (fun H3 sm eD _ => ?_)⟩
        · refine ⟨rfl, _, rfl, c, _, rfl, rfl, ?_⟩
          rw [mem_digits]
          exact hy rfl
        · rw [all_map] at eD
          exact ⟨D, _, rfl, SqL.of eD, go rfl D nD H3 sm eD⟩
    | false =>
      rw [h48] at go
      refine iteF (iteF ⟨.str z, rfl, z, rfl, fun D nD => lc_text (p := fun _ => true) (e := fun c => V.bl (isD c)) hz nD (fun c H3 Y N hc sm hy hn => ?_) (fun H3 sm eD _ => ?_)⟩)
      · refine ⟨rfl, _, rfl, c, _, rfl, rfl, ?_⟩
        rw [mem_digits]
        exact hy rfl
      · rw [all_map] at eD
        exact ⟨D, _, rfl, SqL.of eD, go rfl D nD H3 sm eD⟩
theorem ok_pname {k : Nat} {f kw sg : Addr} {fd : FuncData} (F : Fun K "_looks_like_name" "_looks_like_name" sPName f fd) (B : Bi mg) (C : Cs K mg kw sg) : FnOk P w K mg base CX0 (k + 1) f fd ["text"] (spText nameB) := by
  obtain ⟨tn, gn⟩ := C.ln
  obtain ⟨tl, gl⟩ := C.lt
  obtain ⟨td, gd⟩ := C.dg
  refine F.ok scPName (fun vs H Q E h => ?_) (fun cdv A outer s H vs Q E hr h => ?_)
  · obtain ⟨z, rfl, _⟩ := h
    rfl
  · obtain ⟨z, rfl, hlen, q⟩ := h
    have nd := scPName.nd
    have hz : z.length < sizeLine := Nat.lt_of_le_of_lt hlen (by decide)
    have hz' : z.length ≤ sizeLine := Nat.le_of_lt hz
    refine ⟨_, pss_cons (ps_if (PW.pt (pw_or (pt_not (pt_chain op_le op_le pe_int (pe_callB call_len (by rfl) B.len PySem.boot_len (pa_cons (pv 0) pa_nil)) (pe_glob (v := .int 20) (by rfl) gn ⟨_, rfl⟩)))
          (pw_or1 (pt_cmpR op_notIn_sign (pe_ix ix_str (pv 0) pe_int (fun _ _ => rfl)) (pe_glob (v := .str "abcdefghijklmnopqrstuvwxyz") (by rfl) gl ⟨_, rfl⟩) (by rfl)))))
        (pss_one (ps_ret pe_bl)) pss_nil)
      (pss_one (ps_ret (pe_callB (cr_all rfl) (by rfl) B.all PyProof.Rows.boot_all (pa_cons
        (pe_lc (own := [("letter", 1)]) (g := gName 1) (tt := tYes) (by rfl) nd (pi_str (pv 0)) (blkOk_by (own := [("letter", 1)]) (N := nText) (sc := defScope sPName) (by decide +kernel)) (fun _ _ _ _ _ => pg_name (i := 1) nd rfl (Or.inl rfl))
          (fun _ _ _ _ _ => pts_nil) (fun _ _ _ _ _ => pe_or (pe_cmpR op_in_sign (pv 1) (pe_glob (v := .str "abcdefghijklmnopqrstuvwxyz") (by rfl) gl ⟨_, rfl⟩) (by rfl))
            (pe_one (pe_cmpR op_in_sign (pv 1) (pe_glob (v := .str "0123456789") (by rfl) gd ⟨_, rfl⟩) (by rfl))))) pa_nil)))), ?_⟩
    have no : nameB z = false → Q (.bl false) H := by
      intro e
      rw [← e]
      exact q H (Same.refl H)
    refine ⟨.str z, rfl, .str z, z.length, rfl, ⟨hz', rfl⟩, _, _, rfl, rfl, _, rfl, ?_⟩
    by_cases h1 : 1 ≤ z.length
    case neg =>
      rw [decide_eq_false (show ¬ (1 : Int) ≤ (z.length : Int) by omega)]
      refine iteF ⟨_, rfl, iteT (iteT (no ?_))⟩
      unfold nameB
      rw [decide_eq_false h1]
      rfl
    rw [decide_eq_true (show (1 : Int) ≤ (z.length : Int) by omega)]
    refine iteT ⟨_, _, rfl, rfl, _, rfl, ?_⟩
    by_cases h2 : z.length ≤ 20
    case neg =>
      rw [decide_eq_false (show ¬ (z.length : Int) ≤ 20 by omega)]
      refine iteT (iteT (no ?_))
      unfold nameB
      rw [decide_eq_false h2, Bool.and_false]
      rfl
    rw [decide_eq_true (show (z.length : Int) ≤ 20 by omega)]
    cases hcs : z.cps.toList with
    | nil =>
      have hl := len_cps z
      rw [hcs] at hl
      exact absurd hl (by show ¬ z.length = 0; omega)
    | cons c r =>
    have at0 : atI z.cps.toList 0 = some c := atI_nat (j := 0) (by rw [hcs]; rfl)
    have en : nameB z = (isL c && z.cps.toList.all fun c => isL c || isD c) := by
      unfold nameB
      rw [decide_eq_true h1, decide_eq_true h2, hcs]
      rfl
    refine iteF ⟨.str z, rfl, z, 0, c, rfl, rfl, hz', at0, c, _, rfl, rfl, _, rfl, ?_⟩
    rw [mem_letters]
    cases hl : isL c with
    | false =>
      refine iteT (no ?_)
      rw [en, hl]
      rfl
    | true =>
      rw [hl, Bool.true_and] at en
      refine iteF ⟨.str z, rfl, z, rfl, fun D nD => lc_text (p := fun _ => true) (e := fun c => V.bl (isL c || isD c)) hz nD (fun c H3 Y N hc sm hy hn => ?_) (fun H3 sm eD _ => ?_)⟩
      · refine ⟨rfl, _, rfl, c, _, rfl, rfl, _, rfl, ?_⟩
        rw [mem_letters]
        have hy' := hy rfl
        cases hlc : isL c with
        | true =>
          rw [hlc] at hy'
          exact iteT hy'
        | false =>
          rw [hlc] at hy'
          refine iteF ⟨_, rfl, c, _, rfl, rfl, ?_⟩
          rw [mem_digits]
          exact hy'
      · rw [all_map _ fun c => isL c || isD c] at eD
        refine ⟨D, _, rfl, SqL.of eD, ?_⟩
        rw [all_id, ← en]
        exact q H3 sm

/-! ### sort_of_word -/
/-- a text of bounded length, or what is none -/
def Tx (K : PySem.W.Frag) (H : Hp) (v : V) : Prop := (∃ z, v = .str z ∧ Asc 1000 z) ∨ IsA K H v "str" false
theorem Tx.same {H H' : Hp} {v : V} (h : Tx K H v) (e : Same H H') : Tx K H' v := by
  rcases h with h | h
  · exact .inl h
  · exact .inr (h.same e)
theorem Tx.is {H : Hp} {v : V} (h : Tx K H v) : ∃ r, IsA K H v "str" r ∧ (r = true → ∃ z, v = .str z ∧ Asc 1000 z) := by
  rcases h with ⟨z, rfl, hz⟩ | h
  · exact ⟨true, ⟨_, .inl (.base (.str z)), kit_ty (by decide +kernel)⟩, fun _ => ⟨z, rfl, hz⟩⟩
  · exact ⟨false, h, fun e => nomatch e⟩
/-- the sort of a value -/
def srV : V → V
  | .str z => srt z
  | _ => .non
theorem IsA.notStr {H : Hp} {z : Str} (h : IsA K H (.str z) "str" false) : False := by
  obtain ⟨t, ht, hk⟩ := h
  rcases ht with ht | ⟨C, _, a, od, e, _⟩
  · cases ht with
    | base b =>
      cases b
      have e : PySem.W.kitOne K (.type "str") (.type "str") = some true := kit_ty (by decide +kernel)
      rw [e] at hk
      cases hk
  · cases e
theorem srV_not {H : Hp} {v : V} (h : IsA K H v "str" false) : srV v = .non := by
  cases v with
  | str z => exact h.notStr.elim
  | _ => rfl
def spSrt (K : PySem.W.Frag) : Sp := fun vs H Q _ => ∃ v, vs = [v] ∧ Tx K H v ∧ ∀ H', Same H H' → Q (srV v) H'
theorem ok_psort {k : Nat} {f fN fM kw sg : Addr} {fd dN dM : FuncData} (F : Fun K "sort_of_word" "sort_of_word" sPSort f fd) (B : Bi mg) (C : Cs K mg kw sg)
    (FN : Fun K "_shows_number" "_shows_number" sPNum fN dN) (bN : Binds K dN ["text"] []) (gN : mg "_shows_number" = some (.ref fN))
    (FM : Fun K "_looks_like_name" "_looks_like_name" sPName fM dM) (bM : Binds K dM ["text"] []) (gM : mg "_looks_like_name" = some (.ref fM)) :
    FnOk P w K mg base CX0 (k + 2) f fd ["thing"] (spSrt K) := by
  have GN : FnOk P w K mg base CX0 (k + 1) fN dN ["text"] (spText numB) := ok_pnum FN B C
  have GM : FnOk P w K mg base CX0 (k + 1) fM dM ["text"] (spText nameB) := ok_pname FM B C
  refine F.ok scPSort (fun vs H Q E h => ?_) (fun cdv A outer s H vs Q E hr h => ?_)
  · obtain ⟨v, rfl, _⟩ := h
    rfl
  · obtain ⟨v, rfl, hT, q⟩ := h
    refine ⟨_, pss_cons (ps_if (pt_not (pt_val (pe_callB call_isE2 (by rfl) B.isi PyProof.Rows.boot_isinstance (pa_cons (pv 0) (pa_cons (pe_bltn (v := .ty "str") (by rfl) B.str PyProof.Rows.boot_str rfl) pa_nil))))) (pss_one (ps_ret pe_non)) pss_nil)
      (pss_cons (ps_if (pt_cmpR op_in_seq (pv 0) (pe_glob (v := .ref kw) (by rfl) C.kw rfl) (by rfl)) (pss_one (ps_ret pe_str)) pss_nil)
      (pss_cons (ps_if (pt_cmpR op_in_seq (pv 0) (pe_glob (v := .ref sg) (by rfl) C.sg rfl) (by rfl)) (pss_one (ps_ret pe_str)) pss_nil)
      (pss_cons (ps_if (pt_val (pe_call GN hr (by rfl) gN FN.kp bN .nil pass0 (pa_cons (pv 0) pa_nil))) (pss_one (ps_ret pe_str)) pss_nil)
      (pss_cons (ps_if (pt_val (pe_call GM hr (by rfl) gM FM.kp bM .nil pass0 (pa_cons (pv 0) pa_nil))) (pss_one (ps_ret pe_str)) pss_nil)
      (pss_one (ps_ret pe_non)))))), ?_⟩
    obtain ⟨r, ⟨t, a, b⟩, hr'⟩ := hT.is
    refine ⟨v, rfl, v, .ty "str", t, _, r, rfl, .ty _, a, b, r, rfl, ?_⟩
    cases r with
    | false =>
      refine iteT ?_
      have := q H (Same.refl H)
      rw [srV_not ⟨t, a, b⟩] at this
      exact this
    | true =>
    obtain ⟨z, rfl, hA⟩ := hr' rfl
    have e0 : srV (.str z) = srtP z := (srt_eq z).symm
    rw [e0] at q
    refine iteF ⟨.str z, rfl, kw, _, rfl, .inr (C.kwT H), rfl, flat_strs kwL, _, rfl, ite2 (fun c => ?_) (fun c => ?_)⟩
    · have e : srtP z = .str "keyword" := if_pos (show inL z kwL = true from c)
      rw [e] at q
      exact q H (Same.refl H)
    have c1 : ¬ inL z kwL = true := c
    refine ⟨.str z, rfl, sg, _, rfl, .inr (C.sgT H), rfl, flat_strs sgL, _, rfl, ite2 (fun c => ?_) (fun c => ?_)⟩
    · have e : srtP z = .str "sign" := (if_neg c1).trans (if_pos (show inL z sgL = true from c))
      rw [e] at q
      exact q H (Same.refl H)
    have e1 : srtP z = _ := (if_neg c1).trans (if_neg (show ¬ inL z sgL = true from c))
    refine ⟨.str z, rfl, z, rfl, hA.len, fun H1 s1 => ⟨_, rfl, ite2 (fun c => ?_) (fun c => ?_)⟩⟩
    · rw [e1, if_pos c] at q
      exact q H1 s1
    rw [if_neg c] at e1
    refine ⟨.str z, rfl, z, rfl, hA.len, fun H2 s2 => ⟨_, rfl, ite2 (fun c => ?_) (fun c => ?_)⟩⟩
    · rw [e1, if_pos c] at q
      exact q H2 (s1.trans s2)
    · rw [e1, if_neg c] at q
      exact q H2 (s1.trans s2)

/-! ### is_name, is_kind, _law_is_word, _law_is_name, _law_is_kind -/
def isNameV (v : V) : Bool := decide (srV v = .str "name")
def isWordV (v : V) : Bool := !decide (srV v = .non)
def isKindV (v : V) : Bool := isNameV v || (decide (v = .str "num") || decide (v = .str "truth"))
def spV (K : PySem.W.Frag) (g : V → Bool) : Sp := fun vs H Q _ => ∃ v, vs = [v] ∧ Tx K H v ∧ ∀ H', Same H H' → Q (.bl (g v)) H'
theorem srt_scal (z : Str) : scal (srt z) (.str "name") = true ∧ scal (srt z) .non = true := by
  unfold srt
  split
  · exact ⟨rfl, rfl⟩
  split
  · exact ⟨rfl, rfl⟩
  split
  · exact ⟨rfl, rfl⟩
  split
  · exact ⟨rfl, rfl⟩
  split
  · exact ⟨rfl, rfl⟩
  split
  · exact ⟨rfl, rfl⟩
  · exact ⟨rfl, rfl⟩
theorem srV_scal (v : V) : scal (srV v) (.str "name") = true := by
  cases v with
  | str z => exact (srt_scal z).1
  | _ => rfl
theorem ok_isname {k : Nat} {f fS : Addr} {fd dS : FuncData} (F : Fun K "is_name" "is_name" sIsName f fd) (GS : FnOk P w K mg base CX0 k fS dS ["thing"] (spSrt K)) (kS : PySem.W.keepIn K (.ref fS) = true) (bS : Binds K dS ["thing"] []) (gS : mg "sort_of_word" = some (.ref fS)) :
    FnOk P w K mg base CX0 (k + 1) f fd ["thing"] (spV K isNameV) := by
  refine F.ok scIsName (fun vs H Q E h => ?_) (fun cdv A outer s H vs Q E hr h => ?_)
  · obtain ⟨v, rfl, _⟩ := h
    rfl
  · obtain ⟨v, rfl, hT, q⟩ := h
    refine ⟨_, pss_one (ps_ret (pe_cmpR op_eq (pe_call GS hr (by rfl) gS kS bS .nil pass0 (pa_cons (pv 0) pa_nil)) pe_str (nomark _))), ?_⟩
    exact ⟨v, rfl, v, rfl, hT, fun H' sm => ⟨srV_scal v, q H' sm⟩⟩
/-- v in ('num', 'truth'), v a text -/
theorem in_two (z : Str) : inV (.str z) [.str "num", .str "truth"] = (decide (V.str z = .str "num") || decide (V.str z = .str "truth")) := by
  unfold inV
  simp only [List.any_cons, List.any_nil, Bool.or_false, eqV]
  have e : ∀ x : Str, (x == z) = decide (V.str z = .str x) := by
    intro x
    by_cases h : z = x
    · subst h
      simp
    · rw [decide_eq_false (fun e => h (V.str.inj e))]
      exact beq_eq_false_iff_ne.mpr fun e => h e.symm
  rw [e, e]
theorem not_str_two {H : Hp} {v : V} (h : IsA K H v "str" false) : (decide (v = .str "num") || decide (v = .str "truth")) = false := by
  cases v with
  | str z => exact h.notStr.elim
  | _ => rfl
theorem ok_iskind {k : Nat} {f fN : Addr} {fd dN : FuncData} (F : Fun K "is_kind" "is_kind" sIsKind f fd) (B : Bi mg) (GN : FnOk P w K mg base CX0 k fN dN ["thing"] (spV K isNameV)) (kN : PySem.W.keepIn K (.ref fN) = true) (bN : Binds K dN ["thing"] []) (gN : mg "is_name" = some (.ref fN)) :
    FnOk P w K mg base CX0 (k + 1) f fd ["thing"] (spV K isKindV) := by
  refine F.ok scIsKind (fun vs H Q E h => ?_) (fun cdv A outer s H vs Q E hr h => ?_)
  · obtain ⟨v, rfl, _⟩ := h
    rfl
  · obtain ⟨v, rfl, hT, q⟩ := h
    refine ⟨_, pss_one (ps_ret (pe_or (pe_call GN hr (by rfl) gN kN bN .nil pass0 (pa_cons (pv 0) pa_nil)) (pe_one (pe_and
      (pe_callB call_isE2 (by rfl) B.isi PyProof.Rows.boot_isinstance (pa_cons (pv 0) (pa_cons (pe_bltn (v := .ty "str") (by rfl) B.str PyProof.Rows.boot_str rfl) pa_nil)))
      (pe_one (pe_cmpR op_in_seq (pv 0) (pe_tup (pa_cons pe_str (pa_cons pe_str pa_nil))) (by rfl))))))), ?_⟩
    refine ⟨v, rfl, v, rfl, hT, fun H1 s1 => ⟨_, rfl, ?_⟩⟩
    have q' : ∀ H', Same H H' → Q (.bl (isNameV v || (decide (v = .str "num") || decide (v = .str "truth")))) H' := q
    cases hn : isNameV v with
    | true =>
      rw [hn] at q'
      exact iteT (q' H1 s1)
    | false =>
    rw [hn] at q'
    obtain ⟨r, ⟨t, a, b⟩, hr'⟩ := (hT.same s1).is
    refine iteF ⟨v, rfl, v, .ty "str", t, _, r, rfl, .ty _, a, b, r, rfl, ?_⟩
    cases r with
    | false =>
      rw [not_str_two ⟨t, a, b⟩] at q'
      exact iteF (q' H1 s1)
    | true =>
      obtain ⟨z, rfl, hA⟩ := hr' rfl
      refine iteT ⟨.str z, rfl, by show 2 ≤ sizeLine; decide, fun p np => ⟨p, _, rfl, .inr (SqT.of upd_same), rfl, rfl, ?_⟩⟩
      rw [if_neg Bool.false_ne_true, in_two]
      exact q' _ (s1.trans (same_new np))
theorem ok_lword {k : Nat} {f fS : Addr} {fd dS : FuncData} (F : Fun K "_law_is_word" "_law_is_word" sLWord f fd) (B : Bi mg) (GS : FnOk P w K mg base CX0 k fS dS ["word"] spSortL) (kS : PySem.W.keepIn K (.ref fS) = true) (bS : Binds K dS ["word"] []) (gS : mg "_law_sort" = some (.ref fS)) :
    FnOk P w K mg base CX0 (k + 1) f fd ["thing"] (spV K isWordV) := by
  refine F.ok scLWord (fun vs H Q E h => ?_) (fun cdv A outer s H vs Q E hr h => ?_)
  · obtain ⟨v, rfl, _⟩ := h
    rfl
  · obtain ⟨v, rfl, hT, q⟩ := h
    refine ⟨_, pss_one (ps_ret (pe_and (pe_callB call_isE2 (by rfl) B.isi PyProof.Rows.boot_isinstance (pa_cons (pv 0) (pa_cons (pe_bltn (v := .ty "str") (by rfl) B.str PyProof.Rows.boot_str rfl) pa_nil)))
      (pe_one (pe_cmp (pc_notN (pe_call GS hr (by rfl) gS kS bS .nil pass0 (pa_cons (pv 0) pa_nil))) rfl)))), ?_⟩
    obtain ⟨r, ⟨t, a, b⟩, hr'⟩ := hT.is
    refine ⟨v, rfl, v, .ty "str", t, _, r, rfl, .ty _, a, b, r, rfl, ?_⟩
    cases r with
    | false =>
      refine iteF ?_
      have e : isWordV v = false := by
        unfold isWordV
        rw [srV_not ⟨t, a, b⟩]
        rfl
      rw [← e]
      exact q H (Same.refl H)
    | true =>
      obtain ⟨z, rfl, hA⟩ := hr' rfl
      exact iteT ⟨.str z, rfl, z, rfl, hA, fun H' sm => q H' sm⟩
theorem ok_lname {k : Nat} {f fS : Addr} {fd dS : FuncData} (F : Fun K "_law_is_name" "_law_is_name" sLName f fd) (B : Bi mg) (GS : FnOk P w K mg base CX0 k fS dS ["word"] spSortL) (kS : PySem.W.keepIn K (.ref fS) = true) (bS : Binds K dS ["word"] []) (gS : mg "_law_sort" = some (.ref fS)) :
    FnOk P w K mg base CX0 (k + 1) f fd ["thing"] (spV K isNameV) := by
  refine F.ok scLName (fun vs H Q E h => ?_) (fun cdv A outer s H vs Q E hr h => ?_)
  · obtain ⟨v, rfl, _⟩ := h
    rfl
  · obtain ⟨v, rfl, hT, q⟩ := h
    refine ⟨_, pss_one (ps_ret (pe_and (pe_callB call_isE2 (by rfl) B.isi PyProof.Rows.boot_isinstance (pa_cons (pv 0) (pa_cons (pe_bltn (v := .ty "str") (by rfl) B.str PyProof.Rows.boot_str rfl) pa_nil)))
      (pe_one (pe_cmpR op_eq (pe_call GS hr (by rfl) gS kS bS .nil pass0 (pa_cons (pv 0) pa_nil)) pe_str (nomark _))))), ?_⟩
    obtain ⟨r, ⟨t, a, b⟩, hr'⟩ := hT.is
    refine ⟨v, rfl, v, .ty "str", t, _, r, rfl, .ty _, a, b, r, rfl, ?_⟩
    cases r with
    | false =>
      refine iteF ?_
      have e : isNameV v = false := by
        unfold isNameV
        rw [srV_not ⟨t, a, b⟩]
        rfl
      rw [← e]
      exact q H (Same.refl H)
    | true =>
      obtain ⟨z, rfl, hA⟩ := hr' rfl
      exact iteT ⟨.str z, rfl, z, rfl, hA, fun H' sm => ⟨(srt_scal z).1, q H' sm⟩⟩
theorem ok_lkind {k : Nat} {f fN : Addr} {fd dN : FuncData} (F : Fun K "_law_is_kind" "_law_is_kind" sLKind f fd) (B : Bi mg) (GN : FnOk P w K mg base CX0 k fN dN ["thing"] (spV K isNameV)) (kN : PySem.W.keepIn K (.ref fN) = true) (bN : Binds K dN ["thing"] []) (gN : mg "_law_is_name" = some (.ref fN)) :
    FnOk P w K mg base CX0 (k + 1) f fd ["thing"] (spV K isKindV) := by
  refine F.ok scLKind (fun vs H Q E h => ?_) (fun cdv A outer s H vs Q E hr h => ?_)
  · obtain ⟨v, rfl, _⟩ := h
    rfl
  · obtain ⟨v, rfl, hT, q⟩ := h
    refine ⟨_, pss_one (ps_ret (pe_or (pe_call GN hr (by rfl) gN kN bN .nil pass0 (pa_cons (pv 0) pa_nil)) (pe_one (pe_and
      (pe_callB call_isE2 (by rfl) B.isi PyProof.Rows.boot_isinstance (pa_cons (pv 0) (pa_cons (pe_bltn (v := .ty "str") (by rfl) B.str PyProof.Rows.boot_str rfl) pa_nil)))
      (pe_one (pe_cmpR op_in_seq (pv 0) (pe_tup (pa_cons pe_str (pa_cons pe_str pa_nil))) (by rfl))))))), ?_⟩
    refine ⟨v, rfl, v, rfl, hT, fun H1 s1 => ⟨_, rfl, ?_⟩⟩
    have q' : ∀ H', Same H H' → Q (.bl (isNameV v || (decide (v = .str "num") || decide (v = .str "truth")))) H' := q
    cases hn : isNameV v with
    | true =>
      rw [hn] at q'
      exact iteT (q' H1 s1)
    | false =>
    rw [hn] at q'
    obtain ⟨r, ⟨t, a, b⟩, hr'⟩ := (hT.same s1).is
    refine iteF ⟨v, rfl, v, .ty "str", t, _, r, rfl, .ty _, a, b, r, rfl, ?_⟩
    cases r with
    | false =>
      rw [not_str_two ⟨t, a, b⟩] at q'
      exact iteF (q' H1 s1)
    | true =>
      obtain ⟨z, rfl, hA⟩ := hr' rfl
      refine iteT ⟨.str z, rfl, by show 2 ≤ sizeLine; decide, fun p np => ⟨p, _, rfl, .inr (SqT.of upd_same), rfl, rfl, ?_⟩⟩
      rw [if_neg Bool.false_ne_true, in_two]
      exact q' _ (s1.trans (same_new np))
end
end Ke


set_option Elab.async false
set_option linter.all false
set_option maxRecDepth 100000
namespace Ke
open PySem PySem.Spec PyProof.Rows L2 Gd
open C8 (tCut pss_cut)
abbrev sIsRow : Stmt := topS 21
abbrev sIsLot : Stmt := topS 26
abbrev sLLot : Stmt := topS 44
abbrev nRow : List Str := ["thing", "word"]
abbrev nLot : List Str := ["thing", "member", "one", "other"]
abbrev nLLot : List Str := ["thing", "one", "at"]
theorem scIsRow : FnScope nRow ["thing"] (defScope sIsRow) := ⟨rfl, rfl, rfl, by decide +kernel, rfl, by decide +kernel, by decide +kernel⟩
theorem scIsLot : FnScope nLot ["thing"] (defScope sIsLot) := ⟨rfl, rfl, rfl, by decide +kernel, rfl, by decide +kernel, by decide +kernel⟩
theorem scLLot : FnScope nLLot ["thing"] (defScope sLLot) := ⟨rfl, rfl, rfl, by decide +kernel, rfl, by decide +kernel, by decide +kernel⟩

/-! ### a list beside the empty one -/
def rNil (K : PySem.W.Frag) (neg : Bool) : R2 := fun x y H Q => ∃ a b xs, x = .ref a ∧ y = .ref b ∧ SqL K H a xs ∧ SqL K H b [] ∧ Q (.bl (if neg then !xs.isEmpty else xs.isEmpty)) H
theorem op_eqNil {X : Cx} (hu : X.A.units < cLine) : OpR X (compareOp .Eq) (rNil X.K false) := by
  intro pins s σ H x y v u Q I rx ry h
  obtain ⟨a, b, xs, rfl, rfl, ha, hb, q⟩ := h
  cases rx
  cases ry
  obtain ⟨its, r1, p1, _⟩ := I.list ha
  obtain ⟨its2, r2, p2, _⟩ := I.list hb
  cases r2
  cases xs with
  | nil =>
    cases r1
    exact SeqAt.RcAt.lists (e := fun _ => true) p1.isList p2.isList rfl hu (fun j h1 _ => absurd h1 (Nat.not_lt_zero j)) X.prog X.w _ _ ⟨.bl true, H, I, rfl, q⟩
  | cons x xs =>
    cases r1 with
    | cons r rs => exact SeqAt.RcAt.lists_lengths p1.isList p2.isList (by simp) hu X.prog X.w _ _ ⟨.bl false, H, I, rfl, q⟩
theorem op_neNil {X : Cx} (hu : X.A.units < cLine) : OpR X (compareOp .NotEq) (rNil X.K true) := by
  intro pins s σ H x y v u Q I rx ry h
  obtain ⟨a, b, xs, rfl, rfl, ha, hb, q⟩ := h
  cases rx
  cases ry
  obtain ⟨its, r1, p1, _⟩ := I.list ha
  obtain ⟨its2, r2, p2, _⟩ := I.list hb
  cases r2
  cases xs with
  | nil =>
    cases r1
    exact SeqAt.RcNeAt.lists (e := fun _ => true) p1.isList p2.isList rfl hu (fun j h1 _ => absurd h1 (Nat.not_lt_zero j)) X.prog X.w _ _ ⟨.bl false, H, I, rfl, q⟩
  | cons x xs =>
    cases r1 with
    | cons r rs => exact SeqAt.RcNeAt.lists_lengths p1.isList p2.isList (by simp) hu X.prog X.w _ _ ⟨.bl true, H, I, rfl, q⟩

/-! ### a comprehension over items that stand, whatever new objects the turns make -/
theorem lc_els {J : It} {xs : List V} {G : Hp → Prop} {p : V → Bool} {e : V → V} {g : TG} {tt : TT} {te : TE} {vs : List Nat} {σ : L2.St} {H1 : Hp} {D : Addr} {Qd : Hp → Prop}
    (w : Walk J xs.length G (YAt xs)) (hG : ∀ H, Same H1 H → G H) (hz : xs.length < sizeLine) (nD : H1 D = none)
    (hs : ∀ (x : V) (H : Hp) (Y : V → Hp → Prop) (N : Hp → Prop), x ∈ xs → Same H1 H → (p x = true → ∀ H', Same H H' → Y (e x) H') → (p x = false → ∀ H', Same H H' → N H') →
      g x (wipe σ vs) H fun σ2 H2 => wipe σ2 vs = wipe σ vs ∧ tt σ2 H2 fun b H3 => if b = true then te σ2 H3 Y else N H3)
    (hd : ∀ H, Same H1 H → H D = some (.lst ((xs.filter p).map e)) → Qd H) :
    ∃ W : Nat → Nat → Hp → Prop, (∃ m, W 0 m (upd H1 D (.lst []))) ∧ ∀ i m H, W i m H →
      (J.stop i H ∧ Qd H) ∨ (J.go i H ∧ ∃ Nx : Hp → Prop, (∀ H', Nx H' → ∃ m', m' < m ∧ W (i + 1) m' H') ∧ ∀ x H', J.yld i H x H' → g x (wipe σ vs) H' fun σ2 H2 => wipe σ2 vs = wipe σ vs ∧ tt σ2 H2 fun b H3 =>
        if b = true then te σ2 H3 fun y H4 => ∃ acc, H4 D = some (.lst acc) ∧ acc.length < sizeLine ∧ Nx (upd H4 D (.lst (acc ++ [y]))) else Nx H3) := by
  refine lc_it w (fun i H => Same H1 H ∧ H D = some (.lst (((xs.take i).filter p).map e))) ⟨same_new nD, ?_⟩ (fun i H _ h => hG H h.1) ?_ ?_
  · rw [upd_same]
    rfl
  · rintro i x H H' hi ⟨sm, hD⟩ ⟨rfl, hx⟩
    have et : xs.take (i + 1) = xs.take i ++ [x] := by
      rw [List.take_add_one, hx]
      rfl
    refine hs x H' _ _ (List.mem_of_getElem? hx) sm (fun hp H2 s2 => ?_) (fun hp H2 s2 => ?_)
    · refine ⟨_, s2 _ _ hD, ?_, ?_, ?_⟩
      · rw [List.length_map]
        refine Nat.lt_of_le_of_lt (List.length_filter_le _ _) (Nat.lt_of_le_of_lt ?_ hz)
        rw [List.length_take]
        exact Nat.min_le_right _ _
      · intro b o eb
        rw [upd_ne (ne_of_none eb nD)]
        exact s2 _ _ (sm b o eb)
      · rw [upd_same, et, List.filter_append, List.map_append, List.filter_cons, if_pos hp]
        rfl
    · refine ⟨sm.trans s2, ?_⟩
      rw [et, List.filter_append, List.filter_cons, if_neg (by rw [hp]; decide), List.filter_nil, List.append_nil]
      exact s2 _ _ hD
  · rintro H ⟨sm, hD⟩
    refine hd H sm ?_
    rw [hD, List.take_of_length_le (Nat.le_refl _)]
theorem walk_rng {n : Nat} : Walk (Itr 0 n) ((List.range n).map fun i : Nat => V.int (i : Int)).length (fun _ => True) (YAt ((List.range n).map fun i : Nat => V.int (i : Int))) := by
  have e : ((List.range n).map fun i : Nat => V.int (i : Int)).length = n := by rw [List.length_map, List.length_range]
  rw [e]
  refine walk_range.mono (fun _ h => h) fun i H x H' hi _ y => ?_
  obtain ⟨rfl, rfl⟩ := y
  refine ⟨rfl, ?_⟩
  rw [List.getElem?_map, List.getElem?_range hi]
  show some (V.int (i : Int)) = some (V.int (0 + (i : Int)))
  rw [Int.zero_add]

/-! ### values that may be tuples of such that may be texts -/
def isStrV : V → Bool
  | .str _ => true
  | _ => false
def ltAt (xs : List V) (i : Nat) : Bool := match xs[i]?, xs[i + 1]? with
  | some (.str a), some (.str b) => decide (a.cps.toList < b.cps.toList)
  | _, _ => false
def lotB (xs : List V) : Bool := xs.all isStrV && (List.range (xs.length - 1)).all (ltAt xs)
section
variable {P : Program} {w : World} {K : PySem.W.Frag} {mg : Str → Option Value} {base : Heap}
theorem Tx.isB {H : Hp} {v : V} (h : Tx K H v) : IsA K H v "str" (isStrV v) := by
  rcases h with ⟨z, rfl, hz⟩ | h
  · exact ⟨_, .inl (.base (.str z)), kit_ty (show kitB "str" "str" = some true by decide +kernel)⟩
  · cases v with
    | str z => exact h.notStr.elim
    | _ => exact h
/-- a tuple of such, at a -/
structure TupT (K : PySem.W.Frag) (H : Hp) (v : V) (xs : List V) : Prop where
  at_ : ∃ a, v = .ref a ∧ SqT K H a xs
  len : xs.length ≤ 1000
  tx : ∀ x ∈ xs, Tx K H x
theorem TupT.same {H H' : Hp} {v : V} {xs : List V} (h : TupT K H v xs) (e : Same H H') : TupT K H' v xs := by
  obtain ⟨⟨a, r, q⟩, l, t⟩ := h
  exact ⟨⟨a, r, seqT_same e q⟩, l, fun x hx => (t x hx).same e⟩
theorem TupT.is {H : Hp} {v : V} {xs : List V} (h : TupT K H v xs) : IsA K H v "tuple" true := by
  obtain ⟨⟨a, rfl, q⟩, _, _⟩ := h
  exact ⟨_, .inl (ty_tuple q), kit_ty (by decide +kernel)⟩
/-- the answer g of a tuple's items, False of what is none -/
def TupA (K : PySem.W.Frag) (H : Hp) (v : V) (g : List V → Bool) (r : Bool) : Prop := (∃ xs, TupT K H v xs ∧ r = g xs) ∨ (IsA K H v "tuple" false ∧ r = false)
theorem TupA.same {H H' : Hp} {v : V} {g : List V → Bool} {r : Bool} (h : TupA K H v g r) (e : Same H H') : TupA K H' v g r := by
  rcases h with ⟨xs, h, q⟩ | ⟨h, q⟩
  · exact .inl ⟨xs, h.same e, q⟩
  · exact .inr ⟨h.same e, q⟩
theorem TupA.is {H : Hp} {v : V} {g : List V → Bool} {r : Bool} (h : TupA K H v g r) : ∃ b, IsA K H v "tuple" b ∧ (b = true → ∃ xs, TupT K H v xs ∧ r = g xs) ∧ (b = false → r = false) := by
  rcases h with ⟨xs, h, q⟩ | ⟨h, q⟩
  · exact ⟨true, h.is, fun _ => ⟨xs, h, q⟩, fun e => nomatch e⟩
  · exact ⟨false, h, (fun e => nomatch e), fun _ => q⟩
def spTup (K : PySem.W.Frag) (g : List V → Bool) : Sp := fun vs H Q _ => ∃ (v : V) (r : Bool), vs = [v] ∧ TupA K H v g r ∧ ∀ H', Same H H' → Q (.bl r) H'

theorem filter_true (xs : List V) : xs.filter (fun _ => true) = xs := List.filter_eq_self.mpr fun _ _ => rfl
theorem map_bl (xs : List V) (g : V → Bool) : (xs.map fun x => V.bl (g x)) = (xs.map g).map V.bl := by
  rw [List.map_map]
  rfl
theorem allB (xs : List V) (g : V → Bool) : (xs.map g).all id = xs.all g := by
  rw [List.all_map]
  rfl
/-! ### is_row -/
theorem ok_isrow {k : Nat} {f fS : Addr} {fd dS : FuncData} (F : Fun K "is_row" "is_row" sIsRow f fd) (B : Bi mg) (GS : FnOk P w K mg base CX0 k fS dS ["thing"] (spSrt K)) (kS : PySem.W.keepIn K (.ref fS) = true) (bS : Binds K dS ["thing"] []) (gS : mg "sort_of_word" = some (.ref fS)) :
    FnOk P w K mg base CX0 (k + 1) f fd ["thing"] (spTup K fun xs => xs.all isWordV) := by
  refine F.ok scIsRow (fun vs H Q E h => ?_) (fun cdv A outer s H vs Q E hr h => ?_)
  · obtain ⟨v, r, rfl, _⟩ := h
    rfl
  · obtain ⟨v, r, rfl, hT, q⟩ := h
    have nd := scIsRow.nd
    refine ⟨_, pss_one (ps_ret (pe_and (pe_callB call_isE2 (by rfl) B.isi PyProof.Rows.boot_isinstance (pa_cons (pv 0) (pa_cons (pe_bltn (v := .ty "tuple") (by rfl) B.tuple PyProof.Rows.boot_tuple rfl) pa_nil)))
      (pe_one (pe_callB (cr_all rfl) (by rfl) B.all PyProof.Rows.boot_all (pa_cons
        (pe_lc (own := [("word", 1)]) (g := gName 1) (tt := tYes) (by rfl) nd (pi_tup (pv 0)) (blkOk_by (own := [("word", 1)]) (N := nRow) (sc := defScope sIsRow) (by decide +kernel)) (fun _ _ _ _ _ => pg_name (i := 1) nd rfl (Or.inl rfl))
          (fun _ _ _ _ _ => pts_nil) (fun _ _ _ _ _ => pe_cmp (pc_notN (pe_call GS hr (by rfl) gS kS bS .nil pass0 (pa_cons (pv 1) pa_nil))) rfl)) pa_nil))))), ?_⟩
    obtain ⟨b, ⟨t, a, kb⟩, h1, h0⟩ := hT.is
    refine ⟨v, rfl, v, .ty "tuple", t, _, b, rfl, .ty _, a, kb, b, rfl, ?_⟩
    cases b with
    | false =>
      rw [h0 rfl] at q
      exact iteF (q H (Same.refl H))
    | true =>
      obtain ⟨xs, ⟨⟨ad, rfl, hq⟩, hlen, htx⟩, rfl⟩ := h1 rfl
      refine iteT ⟨_, rfl, ad, rfl, ⟨xs, hq⟩, fun D nD => ?_⟩
      refine lc_els (p := fun _ => true) (e := fun x => V.bl (isWordV x)) walk_tup (fun H' sm => seqT_same sm hq) (Nat.lt_of_le_of_lt hlen (by decide)) nD (fun x H3 Y N hx sm hy hn => ?_) (fun H3 sm eD => ?_)
      · refine ⟨rfl, x, rfl, x, rfl, (htx x hx).same sm, fun H4 s4 => ?_⟩
        exact hy rfl H4 s4
      · rw [filter_true, map_bl] at eD
        refine ⟨D, _, rfl, SqL.of eD, ?_⟩
        rw [allB]
        exact q H3 sm
/-! ### is_lot -/
theorem cut_drop (xs : List V) : cutV xs (some 1) none = xs.drop 1 := by
  unfold cutV
  rw [HT.sIx_none, show HT.sIx xs.length 0 (some (1 : Int)) = min 1 xs.length from HT.sIx_nat xs.length 0 1]
  cases xs with
  | nil => rfl
  | cons x r =>
    have e : min 1 (x :: r).length = 1 := by
      rw [List.length_cons]
      omega
    rw [e]
    show List.take ((x :: r).length - 1) r = r
    exact List.take_of_length_le (by rw [List.length_cons]; omega)
theorem walk_zipT {K : PySem.W.Frag} {a b : Addr} {xs ys : List V} {n : Nat} (hn : n = min xs.length ys.length) : Walk (RZ.ItzT K a b) n (fun H => SqT K H a xs ∧ SqT K H b ys) (YPair (fun i => xs[i]?) (fun i => ys[i]?)) := by
  subst hn
  refine ⟨fun i _ hi q => ?_, fun _ q => ⟨xs, ys, q.1, q.2, by omega⟩, fun i H v H' _ q y => ?_⟩
  · have h1 : i < xs.length := by omega
    have h2 : i < ys.length := by omega
    exact ⟨xs, ys, xs[i], ys[i], q.1, q.2, by simp [h1], by simp [h2]⟩
  · obtain ⟨T, x, z, h1, h2, h3, h4, h5⟩ := y
    exact ⟨T, x, z, h1, h2, h3, h4 xs q.1, h5 ys q.2⟩
theorem strs_at {xs : List V} {x : V} {i : Nat} (h : xs.all isStrV = true) (e : xs[i]? = some x) : ∃ z, x = .str z := by
  have hx := List.all_eq_true.mp h x (List.mem_of_getElem? e)
  cases x with
  | str z => exact ⟨z, rfl⟩
  | _ => cases hx
theorem ltAt_at {xs : List V} {i : Nat} {a b : Str} (h1 : xs[i]? = some (.str a)) (h2 : xs[i + 1]? = some (.str b)) : ltAt xs i = decide (a.cps.toList < b.cps.toList) := by
  unfold ltAt
  rw [h1, h2]
theorem ok_islot {k : Nat} {f : Addr} {fd : FuncData} (F : Fun K "is_lot" "is_lot" sIsLot f fd) (B : Bi mg) : FnOk P w K mg base CX0 (k + 1) f fd ["thing"] (spTup K lotB) := by
  refine F.ok scIsLot (fun vs H Q E h => ?_) (fun cdv A outer s H vs Q E hr h => ?_)
  · obtain ⟨v, r, rfl, _⟩ := h
    rfl
  · obtain ⟨v, r, rfl, hT, q⟩ := h
    have nd := scIsLot.nd
    refine ⟨_, pss_cons (ps_if (PW.pt (pw_or (pt_not (pt_val (pe_callB call_isE2 (by rfl) B.isi PyProof.Rows.boot_isinstance (pa_cons (pv 0) (pa_cons (pe_bltn (v := .ty "tuple") (by rfl) B.tuple PyProof.Rows.boot_tuple rfl) pa_nil)))))
        (pw_or1 (pt_not (pt_val (pe_callB (cr_all rfl) (by rfl) B.all PyProof.Rows.boot_all (pa_cons
          (pe_lc (own := [("member", 1)]) (g := gName 1) (tt := tYes) (by rfl) nd (pi_tup (pv 0)) (blkOk_by (own := [("member", 1)]) (N := nLot) (sc := defScope sIsLot) (by decide +kernel)) (fun _ _ _ _ _ => pg_name (i := 1) nd rfl (Or.inl rfl))
            (fun _ _ _ _ _ => pts_nil) (fun _ _ _ _ _ => pe_callB (r := rIsE2 K) call_isE2 (by rfl) B.isi PyProof.Rows.boot_isinstance (pa_cons (pv 1) (pa_cons (pe_bltn (v := .ty "str") (by rfl) B.str PyProof.Rows.boot_str rfl) pa_nil)))) pa_nil)))))))
        (pss_one (ps_ret pe_bl)) pss_nil)
      (pss_one (ps_ret (pe_callB (cr_all rfl) (by rfl) B.all PyProof.Rows.boot_all (pa_cons
        (pe_lc (own := [("one", 2), ("other", 3)]) (g := gTup K 2 (gCons (gName 2) (gCons (gName 3) gNil))) (tt := tYes) (by rfl) nd (RZ.pi_zipA (by rfl) B.zip (pa_cons (pv 0) (pa_cons (pe_slice sl_tupA (pv 0) (po_some pe_int) po_none) pa_nil)))
          (blkOk_by (own := [("one", 2), ("other", 3)]) (N := nLot) (sc := defScope sIsLot) (by decide +kernel)) (fun _ _ _ _ _ => pg_tup rfl (pgs_cons (pg_name (i := 2) nd rfl (Or.inl rfl) (Or.inr rfl)) (pgs_cons (pg_name (i := 3) nd rfl (Or.inl rfl) (Or.inr rfl)) pgs_nil)))
          (fun _ _ _ _ _ => pts_nil) (fun _ _ _ _ _ => pe_cmpR op_lt_str (pv 2) (pv 3) (nomark _))) pa_nil)))), ?_⟩
    obtain ⟨b, ⟨t, a, kb⟩, h1, h0⟩ := hT.is
    refine ⟨v, rfl, v, .ty "tuple", t, _, b, rfl, .ty _, a, kb, b, rfl, ?_⟩
    cases b with
    | false =>
      rw [h0 rfl] at q
      exact iteT (iteT (q H (Same.refl H)))
    | true =>
    obtain ⟨xs, ⟨⟨ad, rfl, hq⟩, hlen, htx⟩, rfl⟩ := h1 rfl
    have hz : xs.length < sizeLine := Nat.lt_of_le_of_lt hlen (by decide)
    refine iteF ⟨_, rfl, ad, rfl, ⟨xs, hq⟩, fun D nD => ?_⟩
    refine lc_els (p := fun _ => true) (e := fun x => V.bl (isStrV x)) walk_tup (fun H' sm => seqT_same sm hq) hz nD (fun x H3 Y N hx sm hy hn => ?_) (fun H3 sm eD => ?_)
    · obtain ⟨t', a', b'⟩ := (htx x hx).isB.same sm
      exact ⟨rfl, x, rfl, x, .ty "str", t', _, isStrV x, rfl, .ty _, a', b', hy rfl H3 (Same.refl H3)⟩
    rw [filter_true, map_bl] at eD
    refine ⟨D, _, rfl, SqL.of eD, _, rfl, ?_⟩
    rw [allB]
    cases hall : xs.all isStrV with
    | false =>
      refine iteT ?_
      have e : lotB xs = false := by
        unfold lotB
        rw [hall]
        rfl
      rw [e] at q
      exact q H3 sm
    | true =>
    have e : lotB xs = (List.range (xs.length - 1)).all (ltAt xs) := by
      unfold lotB
      rw [hall]
      rfl
    rw [e] at q
    have hq3 := seqT_same sm hq
    -- zip(thing, thing[1:])
    have go : ∀ H4 c, Same H H4 → SqT K H4 ad xs → SqT K H4 c (xs.drop 1) → ∀ D4, H4 D4 = none →
        ∃ W : Nat → Nat → Hp → Prop, (∃ m, W 0 m (upd H4 D4 (.lst []))) ∧ ∀ i m H, W i m H →
          ((RZ.ItzT K ad c).stop i H ∧ rAll K [.ref D4] H Q) ∨ ((RZ.ItzT K ad c).go i H ∧ ∃ Nx : Hp → Prop, (∀ H', Nx H' → ∃ m', m' < m ∧ W (i + 1) m' H') ∧
            ∀ x H', (RZ.ItzT K ad c).yld i H x H' → gTup K 2 (gCons (gName 2) (gCons (gName 3) gNil)) x (wipe (L2.start nLot [.ref ad]) [2, 3]) H' fun σ2 H2 => wipe σ2 [2, 3] = wipe (L2.start nLot [.ref ad]) [2, 3] ∧ tYes σ2 H2 fun b H3 =>
              if b = true then tOp (fun x y H Q => ∃ i j, x = .str i ∧ y = .str j ∧ Q (.bl (decide (i.cps.toList < j.cps.toList))) H) (tVar 2) (tVar 3) σ2 H3 fun y H4 => ∃ acc, H4 D4 = some (.lst acc) ∧ acc.length < sizeLine ∧ Nx (upd H4 D4 (.lst (acc ++ [y]))) else Nx H3) := by
      intro H4 c s4 q4 qc D4 nD4
      refine lc_it (walk_zipT (n := xs.length - 1) (by rw [List.length_drop]; omega)) (fun i H' => Same H4 H' ∧ H' D4 = some (.lst ((((List.range (xs.length - 1)).take i).map (ltAt xs)).map V.bl))) ⟨same_new nD4, ?_⟩ (fun i H' _ h => ⟨seqT_same h.1 q4, seqT_same h.1 qc⟩) ?_ ?_
      · rw [upd_same]
        rfl
      · rintro i x H5 H6 hi ⟨s5, e5⟩ ⟨T, x1, x2, rfl, nT, rfl, g1, g2⟩
        have g2' : xs[i + 1]? = some x2 := by
          have z : (xs.drop 1)[i]? = some x2 := g2
          rw [List.getElem?_drop, Nat.add_comm] at z
          exact z
        obtain ⟨z1, rfl⟩ := strs_at hall (show xs[i]? = some x1 from g1)
        obtain ⟨z2, rfl⟩ := strs_at hall g2'
        have nTD : D4 ≠ T := ne_of_none e5 nT
        refine ⟨T, [.str z1, .str z2], rfl, .inl (.inl upd_same), rfl, _, _, rfl, _, _, rfl, rfl, rfl, _, rfl, _, rfl, z1, z2, rfl, rfl, (((List.range (xs.length - 1)).take i).map (ltAt xs)).map V.bl, ?_, ?_, ?_, ?_⟩
        · rw [upd_ne nTD]
          exact e5
        · rw [List.length_map, List.length_map, List.length_take]
          exact Nat.lt_of_le_of_lt (Nat.min_le_left _ _) (by omega)
        · intro b o eb
          rw [upd_ne (ne_of_none eb nD4), upd_ne (ne_of_none (s5 _ _ eb) nT)]
          exact s5 _ _ eb
        · rw [upd_same, List.take_add_one, List.getElem?_range hi, List.map_append, List.map_append]
          have el : ltAt xs i = decide (z1.cps.toList < z2.cps.toList) := ltAt_at g1 g2'
          show some (HO.lst (_ ++ [V.bl (decide (z1.cps.toList < z2.cps.toList))])) = some (HO.lst (_ ++ [V.bl (ltAt xs i)]))
          rw [el]
      · rintro H5 ⟨s5, e5⟩
        rw [List.take_of_length_le (by rw [List.length_range]; exact Nat.le_refl _)] at e5
        refine ⟨D4, _, rfl, SqL.of e5, ?_⟩
        have ea : (((List.range (xs.length - 1)).map (ltAt xs)).all id) = (List.range (xs.length - 1)).all (ltAt xs) := by
          rw [List.all_map]
          rfl
        rw [ea]
        exact q H5 (s4.trans s5)
    refine iteF ⟨.ref ad, rfl, .ref ad, rfl, 1, rfl, ad, xs, rfl, hq3, fun hw => ?_, fun hw c nc => ?_⟩
    · have hnil : xs = [] := by
        have hw1 := hw.1
        rw [show HT.sIx xs.length 0 (some (1 : Int)) = min 1 xs.length from HT.sIx_nat xs.length 0 1] at hw1
        cases xs with
        | nil => rfl
        | cons x r =>
          rw [List.length_cons] at hw1
          omega
      have hd : SqT K H3 ad (xs.drop 1) := by
        rw [hnil] at hq3 ⊢
        exact hq3
      exact ⟨ad, ad, xs, xs.drop 1, rfl, .inr ⟨hq3, hd, fun D4 nD4 => go H3 ad sm hq3 hd D4 nD4⟩⟩
    · rw [cut_drop]
      have sc := same_new (o := .tup (xs.drop 1)) nc
      exact ⟨ad, c, xs, xs.drop 1, rfl, .inr ⟨seqT_same sc hq3, .inl (.inl upd_same), fun D4 nD4 => go _ c (sm.trans sc) (seqT_same sc hq3) (.inl (.inl upd_same)) D4 nD4⟩⟩
/-! ### _law_is_lot -/
theorem not_le_filter (xs : List V) (h : xs.all isStrV = true) : ((List.range (xs.length - 1)).filter fun i => !ltAt xs i).isEmpty = (List.range (xs.length - 1)).all (ltAt xs) := by
  rw [Bool.eq_iff_iff, List.isEmpty_iff, List.filter_eq_nil_iff, List.all_eq_true]
  refine forall_congr' fun i => forall_congr' fun _ => ?_
  cases ltAt xs i <;> simp
theorem filter_str (xs : List V) : (xs.filter fun x => !isStrV x).isEmpty = xs.all isStrV := by
  rw [Bool.eq_iff_iff, List.isEmpty_iff, List.filter_eq_nil_iff, List.all_eq_true]
  refine forall_congr' fun x => forall_congr' fun _ => ?_
  cases isStrV x <;> simp
def natV : V → Nat
  | .int i => i.toNat
  | _ => 0
theorem filter_map_int (n : Nat) (g : Nat → Bool) : ((((List.range n).map fun i : Nat => V.int (i : Int)).filter fun v => g (natV v)).map id).isEmpty = ((List.range n).filter g).isEmpty := by
  rw [List.map_id, List.filter_map]
  have e : ((fun v => g (natV v)) ∘ fun i : Nat => V.int (i : Int)) = g := by
    funext i
    show g (Int.toNat (i : Int)) = g i
    rw [Int.toNat_natCast]
  rw [e]
  cases (List.range n).filter g <;> rfl
theorem ok_llot {k : Nat} {f : Addr} {fd : FuncData} (F : Fun K "_law_is_lot" "_law_is_lot" sLLot f fd) (B : Bi mg) : FnOk P w K mg base CX0 (k + 1) f fd ["thing"] (spTup K lotB) := by
  refine F.ok scLLot (fun vs H Q E h => ?_) (fun cdv A outer s H vs Q E hr h => ?_)
  · obtain ⟨v, r, rfl, _⟩ := h
    rfl
  · obtain ⟨v, r, rfl, hT, q⟩ := h
    have nd := scLLot.nd
    refine ⟨_, pss_cons (ps_if (PW.pt (pw_or (pt_not (pt_val (pe_callB call_isE2 (by rfl) B.isi PyProof.Rows.boot_isinstance (pa_cons (pv 0) (pa_cons (pe_bltn (v := .ty "tuple") (by rfl) B.tuple PyProof.Rows.boot_tuple rfl) pa_nil)))))
        (pw_or1 (pt_cmpR (op_neNil hr.units0) (pe_lc (own := [("one", 1)]) (g := gName 1) (by rfl) nd (pi_tup (pv 0)) (blkOk_by (own := [("one", 1)]) (N := nLLot) (sc := defScope sLLot) (by decide +kernel)) (fun _ _ _ _ _ => pg_name (i := 1) nd rfl (Or.inl rfl))
          (fun _ _ _ _ _ => pts_one (pt_not (pt_val (pe_callB (r := rIsE2 K) call_isE2 (by rfl) B.isi PyProof.Rows.boot_isinstance (pa_cons (pv 1) (pa_cons (pe_bltn (v := .ty "str") (by rfl) B.str PyProof.Rows.boot_str rfl) pa_nil)))))) (fun _ _ _ _ _ => pv 1)) (pe_lst pa_nil) (nomark _)))))
        (pss_one (ps_ret pe_bl)) pss_nil)
      (pss_one (ps_ret (pe_cmpR (op_eqNil hr.units0) (pe_lc (own := [("at", 2)]) (g := gName 2) (by rfl) nd (pi_range1 (by rfl) B.range (pa_cons (pe_op op_sub (pe_callB call_len (by rfl) B.len PySem.boot_len (pa_cons (pv 0) pa_nil)) pe_int) pa_nil))
          (blkOk_by (own := [("at", 2)]) (N := nLLot) (sc := defScope sLLot) (by decide +kernel)) (fun _ _ _ _ _ => pg_name (i := 2) nd rfl (Or.inl rfl))
          (fun _ _ _ _ _ => pts_one (pt_cmpR op_ge_str (pe_ix (r := rIxT K) ix_tup (pv 0) (pv 2) (fun _ _ => rfl)) (pe_ix (r := rIxT K) ix_tup (pv 0) (pe_op op_add (pv 2) pe_int) (fun _ _ => rfl)) (nomark _))) (fun _ _ _ _ _ => pv 2)) (pe_lst pa_nil) (nomark _)))), ?_⟩
    obtain ⟨b, ⟨t, a, kb⟩, h1, h0⟩ := hT.is
    refine ⟨v, rfl, v, .ty "tuple", t, _, b, rfl, .ty _, a, kb, b, rfl, ?_⟩
    cases b with
    | false =>
      rw [h0 rfl] at q
      exact iteT (iteT (q H (Same.refl H)))
    | true =>
    obtain ⟨xs, ⟨⟨ad, rfl, hq⟩, hlen, htx⟩, rfl⟩ := h1 rfl
    have hz : xs.length < sizeLine := Nat.lt_of_le_of_lt hlen (by decide)
    refine iteF ⟨_, rfl, ad, rfl, ⟨xs, hq⟩, fun D nD => ?_⟩
    refine lc_els (p := fun x => !isStrV x) (e := id) walk_tup (fun H' sm => seqT_same sm hq) hz nD (fun x H3 Y N hx sm hy hn => ?_) (fun H3 sm eD => ?_)
    · obtain ⟨t', a', b'⟩ := (htx x hx).isB.same sm
      refine ⟨rfl, x, rfl, x, .ty "str", t', _, isStrV x, rfl, .ty _, a', b', _, rfl, ?_⟩
      cases hsx : isStrV x with
      | true => exact iteF (hn (by rw [hsx]; rfl) H3 (Same.refl H3))
      | false => exact iteT ⟨x, rfl, hy (by rw [hsx]; rfl) H3 (Same.refl H3)⟩
    rw [List.map_id] at eD
    refine ⟨Nat.zero_le _, fun e4 n4 => ?_⟩
    have s4' : Same H3 (upd H3 e4 (.lst [])) := same_new n4
    have s4 := sm.trans s4'
    refine ⟨D, e4, _, rfl, rfl, SqL.of (s4' _ _ eD), SqL.of upd_same, _, rfl, ?_⟩
    rw [if_pos rfl, filter_str]
    cases hall : xs.all isStrV with
    | false =>
      refine iteT ?_
      have e : lotB xs = false := by
        unfold lotB
        rw [hall]
        rfl
      rw [e] at q
      exact q _ s4
    | true =>
    have e : lotB xs = (List.range (xs.length - 1)).all (ltAt xs) := by
      unfold lotB
      rw [hall]
      rfl
    rw [e] at q
    have hq4 := seqT_same s4 hq
    generalize upd H3 e4 (.lst []) = H4 at s4 hq4 ⊢
    refine iteF ⟨.ref ad, rfl, .ref ad, xs.length, rfl, .inr ⟨xs, hq4, rfl⟩, _, 1, rfl, rfl, _, rfl, by omega, by omega, ?_⟩
    have en : ((xs.length : Int) - 1).toNat = xs.length - 1 := by omega
    rw [en]
    intro D5 nD5
    refine lc_els (p := fun v => !ltAt xs (natV v)) (e := id) walk_rng (fun _ _ => trivial) (by rw [List.length_map, List.length_range]; omega) nD5 (fun x H6 Y N hx sm hy hn => ?_) (fun H6 s6 eD6 => ?_)
    · obtain ⟨i, hi, rfl⟩ := List.mem_map.mp hx
      have hi' : i < xs.length - 1 := List.mem_range.mp hi
      obtain ⟨z1, ez1⟩ := strs_at hall (List.getElem?_eq_getElem (show i < xs.length by omega))
      obtain ⟨z2, ez2⟩ := strs_at hall (List.getElem?_eq_getElem (show i + 1 < xs.length by omega))
      have g1 : xs[i]? = some (.str z1) := by rw [List.getElem?_eq_getElem (show i < xs.length by omega), ez1]
      have g2 : xs[i + 1]? = some (.str z2) := by rw [List.getElem?_eq_getElem (show i + 1 < xs.length by omega), ez2]
      have hq6 := seqT_same sm hq4
      have el : ltAt xs (natV (.int (i : Int))) = decide (z1.cps.toList < z2.cps.toList) := ltAt_at g1 g2
      refine ⟨rfl, .ref ad, rfl, _, rfl, ad, xs, _, _, rfl, rfl, hq6, atI_nat g1, .ref ad, rfl, _, rfl, _, 1, rfl, rfl, ad, xs, _, _, rfl, rfl, hq6, atI_nat (j := i + 1) g2, z1, z2, rfl, rfl, _, rfl, ?_⟩
      rw [el] at hy hn
      cases hlt : decide (z1.cps.toList < z2.cps.toList) with
      | true =>
        rw [hlt] at hn
        exact iteF (hn rfl H6 (Same.refl H6))
      | false =>
        rw [hlt] at hy
        exact iteT ⟨_, rfl, hy rfl H6 (Same.refl H6)⟩
    · refine ⟨Nat.zero_le _, fun e7 n7 => ?_⟩
      have s7' : Same H6 (upd H6 e7 (.lst [])) := same_new n7
      refine ⟨D5, e7, _, rfl, rfl, SqL.of (s7' _ _ eD6), SqL.of upd_same, ?_⟩
      have ef : (List.map id (List.filter (fun v => !ltAt xs (natV v)) ((List.range (xs.length - 1)).map fun i : Nat => V.int (i : Int)))).isEmpty = _ := filter_map_int (xs.length - 1) fun i => !ltAt xs i
      rw [if_neg Bool.false_ne_true, ef, not_le_filter xs hall]
      exact q _ (s4.trans (s6.trans s7'))
end
end Ke


set_option Elab.async false
set_option linter.all false
set_option maxRecDepth 100000
/-! What an expression gives that makes data: new objects, the bag perhaps drawn from, all else as it was. -/
namespace Ke
open PySem PySem.Spec PyProof.Rows L2 Gd
theorem Af.new {H0 H : Hp} {b L p : Addr} {o : HO} (h : Af b L H0 H) (n : H p = none) : Af b L H0 (upd H p o) ∧ p ≠ b ∧ Same (Ke.off b H) (Ke.off b (upd H p o)) ∧ Ke.off b (upd H p o) p = some o ∧ Same H (upd H p o) := by
  have np := h.bg.neNone n
  have s := same_new (o := o) n
  refine ⟨h.to s, np, fun a u e => ?_, off_new np, s⟩
  have na := off_some e
  rw [off_ne na] at e ⊢
  exact s _ _ e
theorem mem_rp {K : PySem.W.Frag} {H : Hp} : ∀ {xs : List V} {ds : List PyData}, RpAll K H xs ds → ∀ v ∈ xs, ∃ d ∈ ds, Rp K H v d
  | _, _, .nil, _, h => nomatch h
  | _, _, .cons r t, v, h => by
    rcases List.mem_cons.mp h with rfl | h
    · exact ⟨_, List.mem_cons_self, r⟩
    · obtain ⟨d, hd, q⟩ := mem_rp t v h
      exact ⟨d, List.mem_cons_of_mem _ hd, q⟩
theorem app_rp {K : PySem.W.Frag} {H : Hp} : ∀ {xs ys : List V} {ds es : List PyData}, RpAll K H xs ds → RpAll K H ys es → RpAll K H (xs ++ ys) (ds ++ es)
  | _, _, _, _, .nil, h => h
  | _, _, _, _, .cons r t, h => .cons r (app_rp t h)
theorem len_rp {K : PySem.W.Frag} {H : Hp} : ∀ {xs : List V} {ds : List PyData}, RpAll K H xs ds → xs.length = ds.length
  | _, _, .nil => rfl
  | _, _, .cons _ t => by
    rw [List.length_cons, List.length_cons, len_rp t]
theorem seq_set {te : TE} {i : Nat} {u : TS} {D : Ends} {σ : L2.St} {H : Hp} (h : te σ H fun x H1 => u D (σ.set i (some x)) H1) : tSeq (tAsg te (gName i)) u D σ H := h
theorem ret_go {te : TE} {D : Ends} {σ : L2.St} {H : Hp} (h : te σ H D.rt) : tRet te D σ H := h
section
variable {K : PySem.W.Frag} {b L : Addr} {σ : L2.St} {H : Hp}
/-- t gives data d -/
def Ev (K : PySem.W.Frag) (b L : Addr) (t : TE) (σ : L2.St) (H : Hp) (d : PyData) : Prop := ∀ Q : VK, (∀ H' v, Af b L H H' → Rp K (off b H') v d → Q v H') → t σ H Q
/-- t gives items of data ds -/
def Evs (K : PySem.W.Frag) (b L : Addr) (t : TA) (σ : L2.St) (H : Hp) (ds : List PyData) : Prop := ∀ Q : List V → Hp → Prop, (∀ H' vs, Af b L H H' → RpAll K (off b H') vs ds → Q vs H') → t σ H Q
/-- t gives a list that may be changed, of data ds -/
def Evm (K : PySem.W.Frag) (b L : Addr) (t : TE) (σ : L2.St) (H : Hp) (ds : List PyData) : Prop := ∀ Q : VK, (∀ H' p xs, Af b L H H' → p ≠ b → H' p = some (.lst xs) → RpAll K (off b H') xs ds → Q (.ref p) H') → t σ H Q
theorem ev_non (hB : Bg H b L) : Ev K b L (tC .non) σ H .none := fun Q h => h H _ (.refl hB) .non
theorem ev_bl (hB : Bg H b L) {x : Bool} : Ev K b L (tC (.bl x)) σ H (.bool x) := fun Q h => h H _ (.refl hB) (.bl x)
theorem ev_int (hB : Bg H b L) {x : Int} : Ev K b L (tC (.int x)) σ H (.int x) := fun Q h => h H _ (.refl hB) (.int x)
theorem ev_str (hB : Bg H b L) {x : Str} : Ev K b L (tC (.str x)) σ H (.str x) := fun Q h => h H _ (.refl hB) (.str x)
theorem ev_neg (hB : Bg H b L) {x : Int} : Ev K b L (tUn (rU fun i => .int (-i)) (tC (.int x))) σ H (.int (-x)) := fun Q h => ⟨x, rfl, h H _ (.refl hB) (.int _)⟩
theorem ev_pow (hB : Bg H b L) {x y : Int} (hc : CPow x y) : Ev K b L (tOp (rI CPow fun i j => .int (i ^ j.toNat)) (tC (.int x)) (tC (.int y))) σ H (.int (x ^ y.toNat)) := fun Q h => ⟨x, y, rfl, rfl, hc, h H _ (.refl hB) (.int _)⟩
theorem ev_var (hB : Bg H b L) {i : Nat} {v : V} {d : PyData} (e : σ[i]? = some (some v)) (r : Rp K (off b H) v d) : Ev K b L (tVar i) σ H d := fun Q h => ⟨v, e, h H v (.refl hB) r⟩
theorem ev_eq {t : TE} {d e : PyData} (h : Ev K b L t σ H d) (q : d = e) : Ev K b L t σ H e := q ▸ h
theorem evs_nil (hB : Bg H b L) : Evs K b L tNil σ H [] := fun Q h => h H [] (.refl hB) .nil
theorem evs_cons {ta : TE} {tr : TA} {d : PyData} {ds : List PyData} (ha : Ev K b L ta σ H d) (hr : ∀ H1, Af b L H H1 → Evs K b L tr σ H1 ds) : Evs K b L (tCons ta tr) σ H (d :: ds) := by
  intro Q h
  refine ha _ fun H1 v a1 r1 => ?_
  refine hr H1 a1 _ fun H2 vs a2 r2 => ?_
  exact h H2 (v :: vs) (a1.trans a2) (.cons (r1.same a2.off) r2)
theorem evm_lst {ta : TA} {ds : List PyData} (ha : Evs K b L ta σ H ds) (hl : ds.length ≤ 1000) : Evm K b L (tLst ta) σ H ds := by
  intro Q h
  refine ha _ fun H1 vs a1 r1 => ⟨?_, fun p np => ?_⟩
  · rw [len_rp r1]
    exact Nat.le_of_lt (small1000 hl)
  · obtain ⟨a2, n, l, c, w⟩ := a1.new (o := .lst vs) np
    exact h _ p vs a2 n upd_same (r1.same l)
theorem Evm.ev {t : TE} {ds : List PyData} (h : Evm K b L t σ H ds) : Ev K b L t σ H (.list ds) := by
  intro Q q
  refine h Q fun H' p xs a n e r => q H' _ a (.lst (SqL.of ?_) r)
  rw [off_ne n]
  exact e
theorem ev_tup {ta : TA} {ds : List PyData} (ha : Evs K b L ta σ H ds) (hl : ds.length ≤ 1000) : Ev K b L (tTup ta) σ H (.tuple ds) := by
  intro Q h
  refine ha _ fun H1 vs a1 r1 => ⟨?_, fun p np => ?_⟩
  · rw [len_rp r1]
    exact Nat.le_of_lt (small1000 hl)
  · obtain ⟨a2, n, l, c, w⟩ := a1.new (o := .tup vs) np
    exact h _ _ a2 (.tup (SqT.of c) (r1.same l))
theorem ev_dnew (hB : Bg H b L) : Ev K b L tDNewK σ H (.dict []) := by
  intro Q h p np
  obtain ⟨a2, n, l, c, w⟩ := (Af.refl hB).new (o := .dK []) np
  exact h _ _ a2 (.dct (kvs := []) c (fun _ z => nomatch z))
theorem ev_disp1 (hB : Bg H b L) {k : Str} {v : Int} : Ev K b L (tDisp [(tC (.str k), tC (.int v))]) σ H (.dict [(.str k, .int v)]) := by
  intro Q h p np
  refine ⟨upd_same, [(Sum.inr k, .int v)], rfl, by show 1 ≤ 15; decide, ?_⟩
  rw [upd_upd]
  obtain ⟨a2, n, l, c, w⟩ := (Af.refl hB).new (o := .dK (mergeK [] [(Sum.inr k, V.int v)])) np
  refine h _ _ a2 (.dct (kvs := [(Sum.inr k, .int v)]) c fun q z => ?_)
  rcases List.mem_cons.mp z with rfl | z
  · rfl
  · cases z
theorem evm_cat {ta tb : TE} {ds es : List PyData} (ha : Evm K b L ta σ H ds) (hb : ∀ H1, Af b L H H1 → Evm K b L tb σ H1 es) (hl : ds.length + es.length ≤ 1000) : Evm K b L (tOp rCat ta tb) σ H (ds ++ es) := by
  intro Q h
  refine ha _ fun H1 p xs a1 n1 e1 r1 => ?_
  refine hb H1 a1 _ fun H2 q ys a2 n2 e2 r2 => ?_
  have e1' := a2.same p _ n1 e1
  have r1' := r1.same a2.off
  refine ⟨p, q, xs, ys, rfl, rfl, e1', e2, ?_, fun c nc => ?_⟩
  · rw [len_rp r1, len_rp r2]
    exact Nat.le_of_lt (small1000 hl)
  · obtain ⟨a3, n, l, cc, w⟩ := (a1.trans a2).new (o := .lst (xs ++ ys)) nc
    exact h _ c _ a3 n upd_same (app_rp (r1'.same l) (r2.same l))
theorem evm_var (hB : Bg H b L) {i : Nat} {p : Addr} {xs : List V} {ds : List PyData} (e : σ[i]? = some (some (.ref p))) (n : p ≠ b) (hp : H p = some (.lst xs)) (r : RpAll K (off b H) xs ds) : Evm K b L (tVar i) σ H ds :=
  fun Q h => ⟨_, e, h H p xs (.refl hB) n hp r⟩
end
end Ke


set_option Elab.async false
set_option linter.all false
set_option maxRecDepth 100000
namespace Ke
open PySem PySem.Spec PyProof.Rows L2 Gd
open C8 (tCut pss_cut)
abbrev sOdd : Stmt := topS 41
theorem scOdd : FnScope ["bag", "menu"] ["bag"] (defScope sOdd) := ⟨rfl, rfl, rfl, by decide +kernel, rfl, by decide +kernel, by decide +kernel⟩
def odds : List PyData := [.none, .bool true, .bool false, .int 0, .int 1, .int (-1), .int 7, .int (10 ^ 39), .str "", .str "a", .str "num", .str "x1", .str "{", .tuple [], .list [], .dict [], .tuple [.str "num", .int 1]] ++
  [.tuple [.str "name", .str "a"]] ++ [.list [.str "a"], .dict [(.str "a", .int 1)], .tuple [.str "give"], .tuple [.tuple [.str "give", .tuple [.str "num", .int 1]]], .tuple [.str "plain", .str "a"], .str "X", .str "a b"] ++ [.tuple [.str "num", .bool true]]

section
variable {P : Program} {w : World} {K : PySem.W.Frag} {mg : Str → Option Value} {base : Heap}
def spOdd (K : PySem.W.Frag) : Sp := fun vs H Q _ => ∃ b L : Addr, vs = [.ref b] ∧ Bg H b L ∧ ∀ H' v d, Af b L H H' → d ∈ odds → Rp K (off b H') v d → Q v H'
theorem ok_odd {k : Nat} {f fS : Addr} {fd dS : FuncData} (F : Fun K "_law_odd" "_law_odd" sOdd f fd) (GS : FnOk P w K mg base CX0 k fS dS ["bag", "things"] (spSome K)) (kS : PySem.W.keepIn K (.ref fS) = true) (bS : Binds K dS ["bag", "things"] []) (gS : mg "_law_some" = some (.ref fS)) :
    FnOk P w K mg base CX0 (k + 1) f fd ["bag"] (spOdd K) := by
  refine F.ok scOdd (fun vs H Q E h => ?_) (fun cdv A outer s H vs Q E hr h => ?_)
  · obtain ⟨b, L, rfl, _⟩ := h
    rfl
  · obtain ⟨b, L, rfl, hB, q⟩ := h
    have nd := scOdd.nd
    refine ⟨_, pss_cons (ps_set (i := 1) nd rfl (.inl rfl) (pe_lst (pa_cons pe_non (pa_cons pe_bl (pa_cons pe_bl (pa_cons pe_int (pa_cons pe_int (pa_cons (pe_un un_neg pe_int) (pa_cons pe_int (pa_cons (pe_op op_pow pe_int pe_int)
        (pa_cons pe_str (pa_cons pe_str (pa_cons pe_str (pa_cons pe_str (pa_cons pe_str (pa_cons (pe_tup pa_nil) (pa_cons (pe_lst pa_nil) (pa_cons pe_dnewK (pa_cons (pe_tup (pa_cons pe_str (pa_cons pe_int pa_nil))) pa_nil)))))))))))))))))))
      (pss_cons (ps_set (i := 1) nd rfl (.inl rfl) (pe_op op_cat (pe_op op_cat (pv 1) (pe_lst (pa_cons (pe_tup (pa_cons pe_str (pa_cons pe_str pa_nil))) pa_nil)))
        (pe_lst (pa_cons (pe_lst (pa_cons pe_str pa_nil)) (pa_cons (pe_disp (pps_cons pe_str pe_int pps_nil) (by rfl) (by rfl) (fun z => by cases z) (by decide)) (pa_cons (pe_tup (pa_cons pe_str pa_nil))
          (pa_cons (pe_tup (pa_cons (pe_tup (pa_cons pe_str (pa_cons (pe_tup (pa_cons pe_str (pa_cons pe_int pa_nil))) pa_nil))) pa_nil)) (pa_cons (pe_tup (pa_cons pe_str (pa_cons pe_str pa_nil))) (pa_cons pe_str (pa_cons pe_str pa_nil))))))))))
      (pss_one (ps_ret (pe_call GS hr (by rfl) gS kS bS .nil pass0 (pa_cons (pv 0) (pa_cons (pe_op op_cat (pv 1) (pe_lst (pa_cons (pe_tup (pa_cons pe_str (pa_cons pe_bl pa_nil))) pa_nil))) pa_nil)))))), ?_⟩
    have stc : ∀ {H1 : Hp} {σ : L2.St} {x : Str} {tr : TA} {ds : List PyData}, Bg H1 b L → (∀ H2, Af b L H1 H2 → Evs K b L tr σ H2 ds) → Evs K b L (tCons (tC (.str x)) tr) σ H1 (.str x :: ds) := fun hB h => evs_cons (ev_str hB) h
    have two : ∀ {H1 : Hp} {σ : L2.St} {x y : Str}, Bg H1 b L → Ev K b L (tTup (tCons (tC (.str x)) (tCons (tC (.str y)) tNil))) σ H1 (.tuple [.str x, .str y]) := fun hB => ev_tup (evs_cons (ev_str hB) fun _ a => evs_cons (ev_str a.bg) fun _ a => evs_nil a.bg) (by show 2 ≤ 1000; decide)
    have num : ∀ {H1 : Hp} {σ : L2.St} {x : Str} {i : Int}, Bg H1 b L → Ev K b L (tTup (tCons (tC (.str x)) (tCons (tC (.int i)) tNil))) σ H1 (.tuple [.str x, .int i]) := fun hB => ev_tup (evs_cons (ev_str hB) fun _ a => evs_cons (ev_int a.bg) fun _ a => evs_nil a.bg) (by show 2 ≤ 1000; decide)
    -- menu
    refine seq_set ?_
    refine evm_lst (K := K) (b := b) (L := L) (ds := [.none, .bool true, .bool false, .int 0, .int 1, .int (-1), .int 7, .int (10 ^ 39), .str "", .str "a", .str "num", .str "x1", .str "{", .tuple [], .list [], .dict [], .tuple [.str "num", .int 1]])
      (evs_cons (ev_non hB) fun _ a => evs_cons (ev_bl a.bg) fun _ a => evs_cons (ev_bl a.bg) fun _ a => evs_cons (ev_int a.bg) fun _ a => evs_cons (ev_int a.bg) fun _ a => evs_cons (ev_neg a.bg) fun _ a => evs_cons (ev_int a.bg) fun _ a =>
        evs_cons (ev_eq (ev_pow a.bg ⟨by decide, by decide, by decide⟩) rfl) fun _ a => stc a.bg fun _ a => stc a.bg fun _ a => stc a.bg fun _ a => stc a.bg fun _ a => stc a.bg fun _ a =>
        evs_cons (ev_tup (evs_nil a.bg) (by decide)) fun _ a => evs_cons (evm_lst (evs_nil a.bg) (by decide)).ev fun _ a => evs_cons (ev_dnew a.bg) fun _ a => evs_cons (num a.bg) fun _ a => evs_nil a.bg) (by decide) _ ?_
    intro H1 p1 xs1 a1 n1 e1 r1
    refine seq_set ?_
    refine evm_cat (evm_cat (evm_var a1.bg rfl n1 e1 r1) (fun _ a => evm_lst (evs_cons (two a.bg) fun _ a => evs_nil a.bg) (by decide)) (by decide))
      (fun _ a => evm_lst (ds := [.list [.str "a"], .dict [(.str "a", .int 1)], .tuple [.str "give"], .tuple [.tuple [.str "give", .tuple [.str "num", .int 1]]], .tuple [.str "plain", .str "a"], .str "X", .str "a b"])
        (evs_cons (evm_lst (stc a.bg fun _ a => evs_nil a.bg) (by decide)).ev fun _ a => evs_cons (ev_disp1 a.bg) fun _ a => evs_cons (ev_tup (stc a.bg fun _ a => evs_nil a.bg) (by decide)) fun _ a =>
          evs_cons (ev_tup (evs_cons (ev_tup (stc a.bg fun _ a => evs_cons (num a.bg) fun _ a => evs_nil a.bg) (by decide)) fun _ a => evs_nil a.bg) (by decide)) fun _ a => evs_cons (two a.bg) fun _ a => stc a.bg fun _ a => stc a.bg fun _ a => evs_nil a.bg) (by decide)) (by decide) _ ?_
    intro H2 p2 xs2 a2 n2 e2 r2
    have a12 := a1.trans a2
    refine ret_go ?_
    refine ⟨.ref b, rfl, ?_⟩
    refine evm_cat (K := K) (b := b) (L := L) (evm_var a12.bg rfl n2 e2 r2) (fun _ a => evm_lst (ds := [.tuple [.str "num", .bool true]]) (evs_cons (ev_tup (stc a.bg fun _ a => evs_cons (ev_bl a.bg) fun _ a => evs_nil a.bg) (by decide)) fun _ a => evs_nil a.bg) (by decide)) (by decide) _ ?_
    intro H3 p3 xs3 a3 n3 e3 r3
    have l3 := len_rp r3
    refine ⟨b, L, _, xs3, rfl, a3.bg, .inl ⟨p3, rfl, .inl (SqL.of (by rw [off_ne n3]; exact e3))⟩, by rw [l3]; decide, by rw [l3]; decide, fun H' v hA hv => ?_⟩
    obtain ⟨d, hd, hr'⟩ := mem_rp r3 v hv
    exact q H' v d (a12.trans (a3.trans hA)) hd (hr'.same hA.off)
end
end Ke


set_option Elab.async false
set_option linter.all false
set_option maxRecDepth 100000
namespace Ke
open PySem PySem.Spec PyProof.Rows L2 Gd
open C8 (tCut pss_cut)
open TL (tl tl_join joinL join_eq)
abbrev sWord : Stmt := topS 43
abbrev nWord : List Str := ["bag", "menu", "word", "signs", "drawn", "odd", "turn"]
theorem scWord : FnScope nWord ["bag"] (defScope sWord) := ⟨rfl, rfl, rfl, by decide +kernel, rfl, by decide +kernel, by decide +kernel⟩

/-! ### texts of low signs -/
theorem Asc.mono {n m : Nat} {z : Str} (h : Asc n z) (l : n ≤ m) : Asc m z := ⟨Nat.le_trans h.len l, h.low⟩
theorem toList_append (x y : Str) : (x ++ y).cps.toList = x.cps.toList ++ y.cps.toList := by
  show (x.cps ++ y.cps).toList = _
  rw [Array.toList_append]
theorem Asc.append {n m : Nat} {x y : Str} (h : Asc n x) (g : Asc m y) : Asc (n + m) (x ++ y) := by
  refine ⟨?_, fun c hc => ?_⟩
  · rw [strLen_append]
    have := h.len
    have := g.len
    omega
  · rw [toList_append] at hc
    rcases List.mem_append.mp hc with hc | hc
    · exact h.low c hc
    · exact g.low c hc
theorem Asc.cut {n : Nat} {x : Str} {lo hi : Option Int} (h : Asc n x) : Asc n (cutS x lo hi) := by
  unfold cutS
  refine ⟨?_, fun c hc => ?_⟩
  · show (List.toArray _).size ≤ n
    rw [List.size_toArray, List.length_take, List.length_drop, Array.length_toList]
    have : x.cps.size ≤ n := h.len
    omega
  · have hc' : c ∈ (x.cps.toList.drop (HT.sIx x.length 0 lo)).take (HT.sIx x.length x.length hi - HT.sIx x.length 0 lo) := by simpa using hc
    exact h.low c (List.mem_of_mem_drop (List.mem_of_mem_take hc'))
def ascB (n : Nat) (z : Str) : Bool := decide (z.length ≤ n) && z.cps.toList.all fun c => decide (c < 128)
theorem ascB_ok {n : Nat} {z : Str} (h : ascB n z = true) : Asc n z := by
  unfold ascB at h
  rw [Bool.and_eq_true, decide_eq_true_eq, List.all_eq_true] at h
  exact ⟨h.1, fun c hc => of_decide_eq_true (h.2 c hc)⟩
/-- signs put together -/
def glue (cs : List Nat) : Str := ⟨cs.toArray⟩
theorem join_glue (cs : List Nat) : (Txt.join (Str.ofString "") (cs.map fun c => (⟨#[c]⟩ : Str))).cps.toList = cs := by
  rw [join_eq]
  have h := tl_join (Str.ofString "") (cs.map fun c => (⟨#[c]⟩ : Str))
  have h1 : tl (Str.join (Str.ofString "") (cs.map fun c => (⟨#[c]⟩ : Str))) = (Str.join (Str.ofString "") (cs.map fun c => (⟨#[c]⟩ : Str))).cps.toList := rfl
  rw [← h1, h, List.map_map]
  have e : tl (Str.ofString "") = [] := by decide +kernel
  rw [e]
  have gen : ∀ l : List Nat, joinL [] (l.map (tl ∘ fun c => (⟨#[c]⟩ : Str))) = l := by
    intro l
    induction l with
    | nil => rfl
    | cons a l ih =>
      cases l with
      | nil => rfl
      | cons a2 l =>
        show [a] ++ ([] ++ joinL [] _) = _
        rw [List.nil_append]
        exact congrArg (a :: ·) ih
  exact gen cs
theorem asc_join {n : Nat} {cs : List Nat} (hl : cs.length ≤ n) (h : ∀ c ∈ cs, c < 128) : Asc n (Txt.join (Str.ofString "") (cs.map fun c => (⟨#[c]⟩ : Str))) := by
  refine ⟨?_, fun c hc => ?_⟩
  · rw [len_cps, join_glue]
    exact hl
  · rw [join_glue] at hc
    exact h c hc

/-! ### texts times ints -/
def repS (z : Str) (n : Nat) : Str := ⟨(List.replicate n z.cps).foldl (· ++ ·) #[]⟩
theorem size_rep (z : Str) (n : Nat) : (repS z n).length = n * z.length := by
  have gen : ∀ (m : Nat) (acc : Array Nat), ((List.replicate m z.cps).foldl (· ++ ·) acc).size = acc.size + m * z.cps.size := by
    intro m
    induction m with
    | zero =>
      intro acc
      show acc.size = _
      omega
    | succ m ih =>
      intro acc
      rw [List.replicate_succ, List.foldl_cons, ih, Array.size_append, Nat.succ_mul]
      omega
  have := gen n #[]
  show ((List.replicate n z.cps).foldl (· ++ ·) #[]).size = n * z.cps.size
  rw [this]
  simp
def rMulS : R2 := fun x y H Q => ∃ (z : Str) (n : Nat), x = .str z ∧ y = .int (n : Int) ∧ 1 < n ∧ n ≤ 1000 ∧ 1 ≤ z.length ∧ z.length ≤ 1000 ∧ Q (.str (repS z n)) H
theorem op_mulS {X : Cx} : OpR X (binaryOp .Mult) rMulS := by
  intro pins s σ H x y v u Q I rx ry h
  obtain ⟨z, n, rfl, rfl, h1, h2, h3, h4, q⟩ := h
  obtain ⟨t, rfl⟩ := rx
  obtain ⟨t', rfl⟩ := ry
  have hm : z.length * n ≤ 1000000 := Nat.le_trans (Nat.mul_le_mul h4 h2) (by decide)
  have hs : sizeLine = 16777216 := sizeLine_eq
  refine PySem.P.mul_str ?_ (fun _ _ => ?_) (fun _ _ => ?_) ?_
  · rw [decide_eq_false (show ¬ (n : Int) < -(2 ^ 63 : Int) by omega), decide_eq_false (show ¬ (n : Int) ≥ 2 ^ 63 by omega)]
    rfl
  · have hd : (1000 : Int) ≤ (2 ^ 63 - 1) / (n : Int) := by
      rw [Int.le_ediv_iff_mul_le (by omega)]
      omega
    omega
  · have e : ((n : Int)).toNat = n := Int.toNat_natCast n
    rw [e]
    unfold Builtin.Str.tooLong
    simp only [decide_eq_false_iff_not]
    omega
  · rw [if_neg (show ¬ (n : Int) < 1 by omega), if_neg (by
      intro hc
      rw [Bool.or_eq_true, beq_iff_eq, beq_iff_eq] at hc
      omega)]
    have e : ((n : Int)).toNat = n := Int.toNat_natCast n
    rw [e]
    refine ⟨?_, ⟨.str (repS z n), H, I.tok _, ⟨_, rfl⟩, q⟩⟩
    show (repS z n).length ≤ sizeLine
    rw [size_rep, Nat.mul_comm]
    omega

def menu1 : List Str := ["a", "x1", "0", "12", "999999999", "1000000000", "01", "00", "", "A"]
def menu2 : List Str := ["1a", "a_", "a b", "gives", "giv", repS "n" 20, repS "n" 21, "-", "->", "<=", "==", "{}", repS "1" 9]
def menu3 : List Str := [" ", "aB", repS "9" 10, "a\n", "7\n", "num\n", "give\n", "\na", "{\n", "\n", "x1\n"]
def menuS : List Str := kwL ++ sgL ++ menu1 ++ menu2 ++ menu3
theorem menu_asc : ∀ z ∈ menuS, Asc 30 z := by
  have h : menuS.all (ascB 30) = true := by decide +kernel
  rw [List.all_eq_true] at h
  exact fun z hz => ascB_ok (h z hz)
theorem rp_strs {K : PySem.W.Frag} {H : Hp} : ∀ l : List Str, RpAll K H (l.map V.str) (l.map PyData.str)
  | [] => .nil
  | x :: l => .cons (.str x) (rp_strs l)
theorem pick_str {K : PySem.W.Frag} {H : Hp} : ∀ {l : List Str} {xs : List V} {v : V}, RpAll K H xs (l.map PyData.str) → v ∈ xs → ∃ z ∈ l, v = .str z
  | [], _, _, .nil, h => nomatch h
  | z :: l, _, v, .cons r t, h => by
    rcases List.mem_cons.mp h with rfl | h
    · cases r
      exact ⟨z, List.mem_cons_self, rfl⟩
    · obtain ⟨y, hy, e⟩ := pick_str t h
      exact ⟨y, List.mem_cons_of_mem _ hy, e⟩
theorem rp_str_inv {K : PySem.W.Frag} {H : Hp} {v : V} {z : Str} (h : Rp K H v (.str z)) : v = .str z := by
  cases h
  rfl
section
variable {K : PySem.W.Frag} {b L : Addr} {σ : L2.St} {H : Hp}
theorem ev_mulS (hB : Bg H b L) {z : Str} {n : Nat} (h1 : 1 < n) (h2 : n ≤ 1000) (h3 : 1 ≤ z.length) (h4 : z.length ≤ 1000) : Ev K b L (tOp rMulS (tC (.str z)) (tC (.int (n : Int)))) σ H (.str (repS z n)) :=
  fun Q h => ⟨z, n, rfl, rfl, h1, h2, h3, h4, h H _ (.refl hB) (.str _)⟩
theorem evm_call0 (hB : Bg H b L) {l : List Str} {dvs : List V} {E : XK} (hd : dvs = []) : Evm K b L (tCall (spNew0 l) dvs E tNil) σ H (l.map PyData.str) := by
  subst hd
  intro Q h
  refine ⟨rfl, fun H' p sm np e => ?_⟩
  exact h H' p _ (.of hB sm) (hB.neNone np) e (rp_strs l)
end
theorem Af.upd {H1 H : Hp} {b L D : Addr} {o : HO} (h : Af b L H1 H) (hB : Bg H1 b L) (nD : H1 D = none) : Af b L H1 (upd H D o) := by
  have nb := hB.neNone nD
  obtain ⟨i0, i1, i2, ns, e, h0, h1, h2, h3, f, g⟩ := h.bg.ex
  have nL : D ≠ L := by
    obtain ⟨_, _, _, _, _, _, _, _, _, f', _⟩ := hB.ex
    intro z
    rw [← z, nD] at f'
    cases f'
  refine ⟨⟨i0, i1, i2, ns, ?_, h0, h1, h2, h3, ?_, g⟩, fun a u n ea => ?_⟩
  · rw [upd_ne nb.symm]
    exact e
  · rw [upd_ne nL.symm]
    exact f
  · rw [upd_ne (ne_of_none ea nD)]
    exact h.same a u n ea
section
variable {P : Program} {w : World} {K : PySem.W.Frag} {mg : Str → Option Value} {base : Heap}
def spWord : Sp := fun vs H Q _ => ∃ b L : Addr, vs = [.ref b] ∧ Bg H b L ∧ ∀ H' z, Af b L H H' → Asc 100 z → Q (.str z) H'
def low36 : Str := "abcdefghijklmnopqrstuvwxyz0123456789"
theorem low36_ok : Asc 36 low36 := ascB_ok (by decide +kernel)
def odd41 : Str := "ABCDEFGHIJKLMNOPQRSTUVWXYZ#$&'*/>?@^_|~!-"
theorem odd41_ok : Asc 41 odd41 := ascB_ok (by decide +kernel)
theorem sign_of {z : Str} {v : V} (h : v ∈ z.cps.toList.map fun c => V.str ⟨#[c]⟩) : ∃ c ∈ z.cps.toList, v = oneS c := by
  obtain ⟨c, hc, rfl⟩ := List.mem_map.mp h
  exact ⟨c, hc, rfl⟩
theorem ok_word {k : Nat} {f fS fT fK fG : Addr} {fd dS dT dK dG : FuncData} (F : Fun K "_law_some_word" "_law_some_word" sWord f fd) (B : Bi mg)
    (GS : FnOk P w K mg base CX0 k fS dS ["bag", "things"] (spSome K)) (kS : PySem.W.keepIn K (.ref fS) = true) (bS : Binds K dS ["bag", "things"] []) (gS : mg "_law_some" = some (.ref fS))
    (GT : FnOk P w K mg base CX0 k fT dT ["bag", "many"] (spTake K)) (kT : PySem.W.keepIn K (.ref fT) = true) (bT : Binds K dT ["bag", "many"] []) (gT : mg "_law_take" = some (.ref fT))
    (GK : FnOk P w K mg base CX0 k fK dK [] (spNew0 kwL)) (kK : PySem.W.keepIn K (.ref fK) = true) (bK : Binds K dK [] []) (gK : mg "_law_keywords" = some (.ref fK))
    (GG : FnOk P w K mg base CX0 k fG dG [] (spNew0 sgL)) (kG : PySem.W.keepIn K (.ref fG) = true) (bG : Binds K dG [] []) (gG : mg "_law_signs" = some (.ref fG)) :
    FnOk P w K mg base CX0 (k + 1) f fd ["bag"] spWord := by
  refine F.ok scWord (fun vs H Q E h => ?_) (fun cdv A outer s H vs Q E hr h => ?_)
  · obtain ⟨b, L, rfl, _⟩ := h
    rfl
  · obtain ⟨b, L, rfl, hB, q⟩ := h
    have nd := scWord.nd
    refine ⟨_, pss_cons (ps_set (i := 1) nd rfl (.inl rfl) (pe_op op_cat (pe_op op_cat (pe_call0 GK hr (by rfl) gK kK bK .nil pass0) (pe_call0 GG hr (by rfl) gG kG bG .nil pass0)) (pe_lst (pa_cons pe_str (pa_cons pe_str (pa_cons pe_str (pa_cons pe_str (pa_cons pe_str (pa_cons pe_str (pa_cons pe_str (pa_cons pe_str (pa_cons pe_str (pa_cons pe_str pa_nil)))))))))))))
      (pss_cons (ps_set (i := 1) nd rfl (.inl rfl) (pe_op op_cat (pv 1) (pe_lst (pa_cons pe_str (pa_cons pe_str (pa_cons pe_str (pa_cons pe_str (pa_cons pe_str (pa_cons (pe_op op_mulS pe_str pe_int) (pa_cons (pe_op op_mulS pe_str pe_int) (pa_cons pe_str (pa_cons pe_str (pa_cons pe_str (pa_cons pe_str (pa_cons pe_str (pa_cons (pe_op op_mulS pe_str pe_int) pa_nil))))))))))))))))
      (pss_cons (ps_set (i := 1) nd rfl (.inl rfl) (pe_op op_cat (pv 1) (pe_lst (pa_cons pe_str (pa_cons pe_str (pa_cons (pe_op op_mulS pe_str pe_int) (pa_cons pe_str (pa_cons pe_str (pa_cons pe_str (pa_cons pe_str (pa_cons pe_str (pa_cons pe_str (pa_cons pe_str (pa_cons pe_str pa_nil))))))))))))))
      (pss_cons (ps_asg (pe_tup (pa_cons (pe_call GS hr (by rfl) gS kS bS .nil pass0 (pa_cons (pv 0) (pa_cons (pv 1) pa_nil))) (pa_cons pe_str pa_nil))) (pg_tup rfl (pgs_cons (pg_name (i := 2) nd rfl (.inl rfl)) (pgs_cons (pg_name (i := 3) nd rfl (.inr rfl)) pgs_nil))))
      (pss_cons (ps_set (i := 4) nd rfl (.inl rfl) (pe_join pe_str (pe_lc (own := [("turn", 6)]) (g := gName 6) (tt := tYes) (by rfl) nd (pi_range1 (by rfl) B.range (pa_cons (pe_op op_add pe_int (pe_call GT hr (by rfl) gT kT bT .nil pass0 (pa_cons (pv 0) (pa_cons pe_int pa_nil)))) pa_nil))
          (blkOk_by (own := [("turn", 6)]) (N := nWord) (sc := defScope sWord) (by decide +kernel)) (fun _ _ _ _ _ => pg_name (i := 6) nd rfl (Or.inl rfl)) (fun _ _ _ _ _ => pts_nil)
          (fun _ _ _ _ _ => pe_call GS hr (by rfl) gS kS bS .nil pass0 (pa_cons (pv 0) (pa_cons (pv 3) pa_nil))))))
      (pss_cons (ps_set (i := 5) nd rfl (.inl rfl) (pe_op op_add_str (pv 4) (pe_call GS hr (by rfl) gS kS bS .nil pass0 (pa_cons (pv 0) (pa_cons pe_str pa_nil)))))
      (pss_one (ps_ret (pe_call GS hr (by rfl) gS kS bS .nil pass0 (pa_cons (pv 0) (pa_cons (pe_lst (pa_cons (pv 2) (pa_cons (pv 2) (pa_cons (pe_op op_add_str (pv 2) (pe_call GS hr (by rfl) gS kS bS .nil pass0 (pa_cons (pv 0) (pa_cons (pv 1) pa_nil))))
          (pa_cons (pe_slice sl_str (pv 2) po_none (po_some (pe_un un_neg pe_int))) (pa_cons (pv 4) (pa_cons (pv 5) pa_nil))))))) pa_nil)))))))))), ?_⟩
    -- menu
    refine seq_set ?_
    refine evm_cat (K := K) (b := b) (L := L) (es := menu1.map PyData.str) (evm_cat (evm_call0 hB rfl) (fun _ a => evm_call0 a.bg rfl) (by decide)) (fun _ a => evm_lst (evs_cons (ev_str a.bg) fun _ a => evs_cons (ev_str a.bg) fun _ a => evs_cons (ev_str a.bg) fun _ a => evs_cons (ev_str a.bg) fun _ a => evs_cons (ev_str a.bg) fun _ a => evs_cons (ev_str a.bg) fun _ a => evs_cons (ev_str a.bg) fun _ a => evs_cons (ev_str a.bg) fun _ a => evs_cons (ev_str a.bg) fun _ a => evs_cons (ev_str a.bg) fun _ a => evs_nil a.bg) (by decide)) (by decide) _ ?_
    intro H1 p1 xs1 a1 n1 e1 r1
    refine seq_set ?_
    refine evm_cat (K := K) (b := b) (L := L) (es := menu2.map PyData.str) (evm_var a1.bg rfl n1 e1 r1) (fun _ a => evm_lst (evs_cons (ev_str a.bg) fun _ a => evs_cons (ev_str a.bg) fun _ a => evs_cons (ev_str a.bg) fun _ a => evs_cons (ev_str a.bg) fun _ a => evs_cons (ev_str a.bg) fun _ a => evs_cons (ev_mulS a.bg (by decide) (by decide) (by decide +kernel) (by decide +kernel)) fun _ a => evs_cons (ev_mulS a.bg (by decide) (by decide) (by decide +kernel) (by decide +kernel)) fun _ a => evs_cons (ev_str a.bg) fun _ a => evs_cons (ev_str a.bg) fun _ a => evs_cons (ev_str a.bg) fun _ a => evs_cons (ev_str a.bg) fun _ a => evs_cons (ev_str a.bg) fun _ a => evs_cons (ev_mulS a.bg (by decide) (by decide) (by decide +kernel) (by decide +kernel)) fun _ a => evs_nil a.bg) (by decide)) (by decide) _ ?_
    intro H2 p2 xs2 a2 n2 e2 r2
    refine seq_set ?_
    refine evm_cat (K := K) (b := b) (L := L) (es := menu3.map PyData.str) (evm_var a2.bg rfl n2 e2 r2) (fun _ a => evm_lst (evs_cons (ev_str a.bg) fun _ a => evs_cons (ev_str a.bg) fun _ a => evs_cons (ev_mulS a.bg (by decide) (by decide) (by decide +kernel) (by decide +kernel)) fun _ a => evs_cons (ev_str a.bg) fun _ a => evs_cons (ev_str a.bg) fun _ a => evs_cons (ev_str a.bg) fun _ a => evs_cons (ev_str a.bg) fun _ a => evs_cons (ev_str a.bg) fun _ a => evs_cons (ev_str a.bg) fun _ a => evs_cons (ev_str a.bg) fun _ a => evs_cons (ev_str a.bg) fun _ a => evs_nil a.bg) (by decide)) (by decide) _ ?_
    intro H3 p3 xs3 a3 n3 e3 r3
    have l3 := len_rp r3
    have r3' : RpAll K (Ke.off b H3) xs3 (menuS.map PyData.str) := r3
    have a123 := a1.trans (a2.trans a3)
    have q1 : ∀ H' z, Af b L H3 H' → Asc 100 z → Q (.str z) H' := fun H' z hA hz => q H' z (a123.trans hA) hz
    clear q
    have hb3 := a123.bg
    clear a123 a1 a2 a3 e1 e2 r1 r2 n1 n2
    have els1 : ∀ {H4 : Hp}, Af b L H3 H4 → Seq K (Ke.off b H4) (.ref p3) xs3 := fun a => .inl ⟨p3, rfl, .inl (SqL.of (by rw [off_ne n3]; exact a.same _ _ n3 e3))⟩
    have len3 : xs3.length = 63 := by
      rw [l3]
      rfl
    -- word, signs
    refine ⟨.ref b, rfl, .ref p3, rfl, b, L, _, xs3, rfl, hb3, els1 (.refl hb3), by omega, by omega, fun H4 v a4 hv => ?_⟩
    obtain ⟨z, hz, rfl⟩ := pick_str r3' hv
    have hzA := menu_asc z hz
    refine ⟨by show 2 ≤ sizeLine; decide, fun t nt => ?_⟩
    obtain ⟨a5, _, _, _, _⟩ := a4.new (o := .tup [.str z, .str "abcdefghijklmnopqrstuvwxyz0123456789"]) nt
    refine ⟨t, [.str z, .str low36], rfl, .inl (.inl upd_same), rfl, _, _, rfl, _, _, rfl, rfl, ?_⟩
    generalize upd H4 t (.tup [.str z, .str "abcdefghijklmnopqrstuvwxyz0123456789"]) = H5 at a5 ⊢
    -- drawn
    refine ⟨⟨_, rfl⟩, .ref b, rfl, b, L, 9, rfl, a5.bg, by decide, by decide, fun H6 r a6' r0 r9 => ?_⟩
    have a6 := a5.trans a6'
    refine ⟨1, r, rfl, rfl, _, rfl, by omega, by omega, fun D nD => ?_⟩
    refine lc_range (lo := 0) (n := (1 + r).toNat) (fun i H' => Af b L H6 H' ∧ ∃ cs : List Nat, cs.length = i ∧ (∀ c ∈ cs, c < 128) ∧ H' D = some (.lst (cs.map oneS))) ⟨(Af.refl a6.bg).upd a6.bg nD, [], rfl, (fun _ h => nomatch h), upd_same⟩ ?_ ?_
    · rintro i H7 hi ⟨a7, cs, hcl, hcs, eD⟩
      refine ⟨rfl, .ref b, rfl, .str low36, rfl, b, L, _, _, rfl, a7.bg, .inr ⟨low36, rfl, by decide +kernel, rfl⟩, by decide +kernel, by decide +kernel, fun H8 v a8 hv => ?_⟩
      obtain ⟨c, hc, rfl⟩ := sign_of hv
      have nDb := a6.bg.neNone nD
      refine ⟨cs.map oneS, a8.same _ _ nDb eD, ?_, (a7.trans a8).upd a6.bg nD, cs ++ [c], ?_, ?_, ?_⟩
      · rw [List.length_map]
        exact small1000 (by omega)
      · rw [List.length_append, hcl]
        rfl
      · intro x hx
        rcases List.mem_append.mp hx with hx | hx
        · exact hcs x hx
        · rw [List.mem_singleton.mp hx]
          exact low36_ok.low c hc
      · rw [upd_same, List.map_append]
        rfl
    · rintro H7 ⟨a7, cs, hcl, hcs, eD⟩
      have hD : (cs.map fun c => (⟨#[c]⟩ : Str)).map V.str = cs.map oneS := by
        rw [List.map_map]
        rfl
      have hsum : ((cs.map fun c => (⟨#[c]⟩ : Str)).map (·.length)).sum = cs.length := by
        rw [List.map_map]
        have gen : ∀ l : List Nat, (l.map ((·.length) ∘ fun c => (⟨#[c]⟩ : Str))).sum = l.length := by
          intro l
          induction l with
          | nil => rfl
          | cons x l ih =>
            rw [List.map_cons, List.sum_cons, ih, List.length_cons]
            show 1 + l.length = l.length + 1
            omega
        exact gen cs
      refine ⟨Str.ofString "", D, cs.map fun c => (⟨#[c]⟩ : Str), rfl, rfl, .inl (SqL.of (by rw [hD]; exact eD)), ?_, ?_⟩
      · rw [hsum, show (Str.ofString "").length = 0 from rfl]
        omega
      have hdA : Asc 9 (Txt.join (Str.ofString "") (cs.map fun c => (⟨#[c]⟩ : Str))) := asc_join (by omega) hcs
      generalize Txt.join (Str.ofString "") (cs.map fun c => (⟨#[c]⟩ : Str)) = dr at hdA ⊢
      have a67 := a6.trans a7
      -- odd
      refine ⟨.str dr, rfl, .ref b, rfl, b, L, .str odd41, _, rfl, a67.bg, .inr ⟨odd41, rfl, by decide +kernel, rfl⟩, by decide +kernel, by decide +kernel, fun H8 v a8' hv => ?_⟩
      obtain ⟨c, hc, rfl⟩ := sign_of hv
      have a8 := a67.trans a8'
      have hcA : Asc 1 ⟨#[c]⟩ := ⟨Nat.le_refl _, fun x hx => by
        have e : x = c := by simpa using hx
        rw [e]
        exact odd41_ok.low c hc⟩
      have hoA := hdA.append hcA
      refine ⟨dr, ⟨#[c]⟩, rfl, rfl, ?_, ?_⟩
      · rw [← strLen_append]
        exact Nat.le_trans hoA.len (by decide)
      generalize dr ++ (⟨#[c]⟩ : Str) = od at hoA ⊢
      -- the last draw
      refine ⟨.ref b, rfl, .str z, rfl, .str z, rfl, .str z, rfl, .ref b, rfl, .ref p3, rfl, b, L, _, xs3, rfl, a8.bg, els1 a8, by omega, by omega, fun H9 v a9' hv => ?_⟩
      obtain ⟨z2, hz2, rfl⟩ := pick_str r3' hv
      have a9 := a8.trans a9'
      have hzz := hzA.append (menu_asc z2 hz2)
      refine ⟨z, z2, rfl, rfl, ?_, ?_⟩
      · rw [← strLen_append]
        exact Nat.le_trans hzz.len (by decide)
      generalize z ++ z2 = zz at hzz ⊢
      refine ⟨.str z, rfl, 1, rfl, -1, rfl, z, rfl, Nat.le_trans hzA.len (by decide), .str dr, rfl, .str od, rfl, by show 6 ≤ sizeLine; decide, fun p np => ?_⟩
      obtain ⟨a10, n10, l10, c10, w10⟩ := a9.new (o := .lst [.str z, .str z, .str zz, .str (cutS z none (some (-1))), .str dr, .str od]) np
      refine ⟨b, L, _, _, rfl, a10.bg, .inl ⟨p, rfl, .inl (SqL.of c10)⟩, by show 0 < 6; decide, by show 6 ≤ 1000; decide, fun H' v hA hv => ?_⟩
      have fin : ∀ y, Asc 100 y → Q (.str y) H' := fun y hy => q1 H' y (a10.trans hA) hy
      simp only [List.mem_cons, List.not_mem_nil, or_false] at hv
      rcases hv with rfl | rfl | rfl | rfl | rfl | rfl
      · exact fin _ (hzA.mono (by decide))
      · exact fin _ (hzA.mono (by decide))
      · exact fin _ (hzz.mono (by decide))
      · exact fin _ (hzA.cut.mono (by decide))
      · exact fin _ (hdA.mono (by decide))
      · exact fin _ (hoA.mono (by decide))
end
end Ke


set_option Elab.async false
set_option linter.all false
set_option maxRecDepth 100000
namespace Ke
open PySem PySem.Spec PyProof.Rows L2 Gd
open C8 (tCut pss_cut)
abbrev sBent : Stmt := topS 42
abbrev nBent : List Str := ["bag", "thing", "deep", "more", "way", "at"]
theorem scBent : FnScope nBent ["bag", "thing", "deep"] (defScope sBent) := ⟨rfl, rfl, rfl, by decide +kernel, rfl, by decide +kernel, by decide +kernel⟩

/-! ### slices and sums of data -/
def cutG {α : Type} (xs : List α) (lo hi : Option Int) : List α := (xs.drop (HT.sIx xs.length 0 lo)).take (HT.sIx xs.length xs.length hi - HT.sIx xs.length 0 lo)
theorem mem_cut {α : Type} {xs : List α} {lo hi : Option Int} {x : α} (h : x ∈ cutG xs lo hi) : x ∈ xs := List.mem_of_mem_drop (List.mem_of_mem_take h)
theorem len_cut {α : Type} (xs : List α) (lo hi : Option Int) : (cutG xs lo hi).length ≤ xs.length := by
  unfold cutG
  rw [List.length_take, List.length_drop]
  omega
theorem drop_rp {K : PySem.W.Frag} {H : Hp} : ∀ {xs : List V} {ds : List PyData} (n : Nat), RpAll K H xs ds → RpAll K H (xs.drop n) (ds.drop n)
  | _, _, 0, h => h
  | _, _, _ + 1, .nil => .nil
  | _, _, n + 1, .cons _ t => drop_rp n t
theorem take_rp {K : PySem.W.Frag} {H : Hp} : ∀ {xs : List V} {ds : List PyData} (n : Nat), RpAll K H xs ds → RpAll K H (xs.take n) (ds.take n)
  | _, _, 0, _ => .nil
  | _, _, _ + 1, .nil => .nil
  | _, _, n + 1, .cons r t => .cons r (take_rp n t)
theorem cut_rp {K : PySem.W.Frag} {H : Hp} {xs : List V} {ds : List PyData} {lo hi : Option Int} (h : RpAll K H xs ds) : RpAll K H (cutV xs lo hi) (cutG ds lo hi) := by
  unfold cutV cutG
  rw [len_rp h]
  exact take_rp _ (drop_rp _ h)
theorem cut_whole {α : Type} {xs : List α} {lo hi : Option Int} (h : HT.sIx xs.length 0 lo = 0 ∧ HT.sIx xs.length xs.length hi = xs.length) : cutG xs lo hi = xs := by
  unfold cutG
  rw [h.1, h.2]
  exact List.take_of_length_le (by rw [List.drop_zero]; omega)
section
variable {K : PySem.W.Frag} {b L : Addr} {σ : L2.St} {H : Hp}
/-- a part of a slice that is known -/
def Pt (t : TO) (σ : L2.St) (o : Option Int) : Prop := ∀ (H : Hp) (Q : Option Int → Hp → Prop), Q o H → t σ H Q
theorem pt_none : Pt tNoPart σ none := fun _ _ h => h
theorem pt_var {i : Nat} {j : Int} (e : σ[i]? = some (some (.int j))) : Pt (tPart (tVar i)) σ (some j) := fun _ _ h => ⟨_, e, j, rfl, h⟩
theorem pt_next {i : Nat} {j : Int} (e : σ[i]? = some (some (.int j))) : Pt (tPart (tOp (rI0 fun i j => .int (i + j)) (tVar i) (tC (.int 1)))) σ (some (j + 1)) := fun _ _ h => ⟨_, e, j, 1, rfl, rfl, j + 1, rfl, h⟩
theorem pt_neg {j : Int} : Pt (tPart (tUn (rU fun i => .int (-i)) (tC (.int j)))) σ (some (-j)) := fun _ _ h => ⟨j, rfl, -j, rfl, h⟩
theorem ev_tupInv {H' : Hp} {v : V} {ds : List PyData} (h : Rp K H' v (.tuple ds)) : ∃ a xs, v = .ref a ∧ SqT K H' a xs ∧ RpAll K H' xs ds := by
  cases h with
  | tup s r => exact ⟨_, _, rfl, s, r⟩
theorem ev_slA {te : TE} {tl th : TO} {ds : List PyData} {lo hi : Option Int} (h : Ev K b L te σ H (.tuple ds)) (hl : Pt tl σ lo) (hh : Pt th σ hi) : Ev K b L (tSl (rSlA K) te tl th) σ H (.tuple (cutG ds lo hi)) := by
  intro Q q
  refine h _ fun H1 v a1 r1 => ?_
  obtain ⟨a, xs, rfl, hs, hr⟩ := ev_tupInv r1
  refine hl _ _ (hh _ _ ⟨a, xs, rfl, seqT_same off_le hs, fun w => ?_, fun w p np => ?_⟩)
  · rw [len_rp hr] at w
    exact q _ _ a1 (by rw [cut_whole w]; exact r1)
  · obtain ⟨a2, n, l, c, _⟩ := a1.new (o := .tup (cutV xs lo hi)) np
    exact q _ _ a2 (.tup (SqT.of c) ((cut_rp hr).same l))
theorem ev_cat {ta tb : TE} {ds es : List PyData} (ha : Ev K b L ta σ H (.tuple ds)) (hb : ∀ H1, Af b L H H1 → Ev K b L tb σ H1 (.tuple es)) (hl : ds.length + es.length ≤ 1000) : Ev K b L (tOp (rCatA K) ta tb) σ H (.tuple (ds ++ es)) := by
  intro Q q
  refine ha _ fun H1 v a1 r1 => ?_
  refine hb H1 a1 _ fun H2 u a2 r2 => ?_
  have r1' := r1.same a2.off
  obtain ⟨a, xs, rfl, hs, hr⟩ := ev_tupInv r1'
  obtain ⟨c, ys, rfl, ht, hr2⟩ := ev_tupInv r2
  have a12 := a1.trans a2
  refine ⟨a, c, xs, ys, rfl, rfl, seqT_same off_le hs, seqT_same off_le ht, ?_, fun e => ?_, fun n e => ?_, fun n m p np => ?_⟩
  · rw [len_rp hr, len_rp hr2]
    exact Nat.le_of_lt (small1000 hl)
  · subst e
    cases hr
    exact q _ _ a12 r2
  · subst e
    cases hr2
    rw [List.append_nil] at q
    exact q _ _ a12 r1'
  · obtain ⟨a3, nn, l, cc, _⟩ := a12.new (o := .tup (xs ++ ys)) np
    exact q _ _ a3 (.tup (SqT.of cc) (app_rp (hr.same l) (hr2.same l)))
/-! ### texts put together -/
def rAddS : R2 := fun x y H Q => ∃ i j, x = .str i ∧ y = .str j ∧ i.length + j.length ≤ sizeLine ∧ Q (.str (i ++ j)) H
theorem op_addS {X : Cx} : OpR X (binaryOp .Add) rAddS := op_add_str
theorem ev_addS {ta tb : TE} {x y : Str} (ha : Ev K b L ta σ H (.str x)) (hb : ∀ H1, Af b L H H1 → Ev K b L tb σ H1 (.str y)) (hl : x.length + y.length ≤ 1000) : Ev K b L (tOp rAddS ta tb) σ H (.str (x ++ y)) := by
  intro Q q
  refine ha _ fun H1 v a1 r1 => ?_
  refine hb H1 a1 _ fun H2 u a2 r2 => ?_
  rw [rp_str_inv r1, rp_str_inv r2]
  exact ⟨x, y, rfl, rfl, Nat.le_of_lt (small1000 hl), q _ _ (a1.trans a2) (.str _)⟩
theorem ev_cutS {te : TE} {tl th : TO} {z : Str} {lo hi : Option Int} (h : Ev K b L te σ H (.str z)) (hz : z.length ≤ 1000) (hl : Pt tl σ lo) (hh : Pt th σ hi) : Ev K b L (tSl rSlS te tl th) σ H (.str (cutS z lo hi)) := by
  intro Q q
  refine h _ fun H1 v a1 r1 => ?_
  rw [rp_str_inv r1]
  exact hl _ _ (hh _ _ ⟨z, rfl, Nat.le_of_lt (small1000 hz), q _ _ a1 (.str _)⟩)
end

theorem next_go {D : Ends} {σ : L2.St} {H : Hp} (h : D.nx σ H) : tNext D σ H := h
/-! ### _law_bent of a text -/
section
variable {P : Program} {w : World} {K : PySem.W.Frag} {mg : Str → Option Value} {base : Heap}
def spBentS (K : PySem.W.Frag) : Sp := fun vs H Q _ => ∃ (b L : Addr) (z : Str) (dp : Int), vs = [.ref b, .str z, .int dp] ∧ Bg H b L ∧ Asc 100 z ∧
  ∀ H' v d, Af b L H H' → Rp K (off b H') v d → (d ∈ odds ∨ ∃ y, d = .str y ∧ Asc 130 y) → Q v H'
def moreS (z : Str) : List Str := ["num", "truth", "a", "", "A", "give", "1", z ++ "1", cutS z none (some (-1)), z ++ "_", repS "x" 21]
def moreT (z : Str) : List Str := [repS "x" 20, z ++ "\n", z ++ "\n", "\n" ++ z]
theorem more_asc {z : Str} (h : Asc 100 z) : ∀ y ∈ moreS z ++ moreT z, Asc 130 y := by
  have lit : ∀ y : Str, ascB 130 y = true → Asc 130 y := fun y h => ascB_ok h
  have one : ∀ y : Str, ascB 1 y = true → Asc 130 (z ++ y) := fun y hy => (h.append (ascB_ok hy)).mono (by decide)
  intro y hy
  simp only [moreS, moreT, List.cons_append, List.nil_append, List.mem_cons, List.not_mem_nil, or_false] at hy
  rcases hy with rfl | rfl | rfl | rfl | rfl | rfl | rfl | rfl | rfl | rfl | rfl | rfl | rfl | rfl | rfl
  · exact lit _ (by decide +kernel)
  · exact lit _ (by decide +kernel)
  · exact lit _ (by decide +kernel)
  · exact lit _ (by decide +kernel)
  · exact lit _ (by decide +kernel)
  · exact lit _ (by decide +kernel)
  · exact lit _ (by decide +kernel)
  · exact one _ (by decide +kernel)
  · exact h.cut.mono (by decide)
  · exact one _ (by decide +kernel)
  · exact lit _ (by decide +kernel)
  · exact lit _ (by decide +kernel)
  · exact one _ (by decide +kernel)
  · exact one _ (by decide +kernel)
  · exact ((ascB_ok (n := 1) (by decide +kernel)).append h).mono (by decide)
theorem ok_bentS {k : Nat} {f fS fT fI fO : Addr} {fd dS dT dI dO : FuncData} (F : Fun K "_law_bent" "_law_bent" sBent f fd) (B : Bi mg)
    (GS : FnOk P w K mg base CX0 k fS dS ["bag", "things"] (spSome K)) (kS : PySem.W.keepIn K (.ref fS) = true) (bS : Binds K dS ["bag", "things"] []) (gS : mg "_law_some" = some (.ref fS))
    (GT : FnOk P w K mg base CX0 k fT dT ["bag", "many"] (spTake K)) (kT : PySem.W.keepIn K (.ref fT) = true) (bT : Binds K dT ["bag", "many"] []) (gT : mg "_law_take" = some (.ref fT))
    (GI : FnOk P w K mg base CX0 k fI dI ["thing"] (spInt K)) (kI : PySem.W.keepIn K (.ref fI) = true) (bI : Binds K dI ["thing"] []) (gI : mg "_law_is_int" = some (.ref fI))
    (GO : FnOk P w K mg base CX0 k fO dO ["bag"] (spOdd K)) (kO : PySem.W.keepIn K (.ref fO) = true) (bO : Binds K dO ["bag"] []) (gO : mg "_law_odd" = some (.ref fO)) :
    FnOk P w K mg base CX0 (k + 1) f fd ["bag", "thing", "deep"] (spBentS K) := by
  refine F.ok scBent (fun vs H Q E h => ?_) (fun cdv A outer s H vs Q E hr h => ?_)
  · obtain ⟨b, L, z, dp, rfl, _⟩ := h
    rfl
  · obtain ⟨b, L, z, dp, rfl, hB, hz, q⟩ := h
    have nd := scBent.nd
    refine ⟨_, pss_cons (ps_if (PW.pt (pw_or (pt_not (pt_val (pe_callB call_isE2 (by rfl) B.isi PyProof.Rows.boot_isinstance (pa_cons (pv 1) (pa_cons (pe_bltn (v := .ty "tuple") (by rfl) B.tuple PyProof.Rows.boot_tuple rfl) pa_nil)))))
          (pw_or (pt_cmpR (op_eqD hr.units) (pv 1) (pe_tup pa_nil) (nomark _)) (pw_or1 (pt_cmpR op_eq (pv 2) pe_int (nomark _))))))
        (pss_cons (ps_if (PW.pt (pw_and (pt_val (pe_callB call_isE2 (by rfl) B.isi PyProof.Rows.boot_isinstance (pa_cons (pv 1) (pa_cons (pe_bltn (v := .ty "str") (by rfl) B.str PyProof.Rows.boot_str rfl) pa_nil))))
            (pw_and1 (pt_cmpR op_gt (pe_call GT hr (by rfl) gT kT bT .nil pass0 (pa_cons (pv 0) (pa_cons pe_int pa_nil))) pe_int (nomark _)))))
          (pss_cons (ps_set (i := 3) nd rfl (.inl rfl) (pe_lst (pa_cons pe_str (pa_cons pe_str (pa_cons pe_str (pa_cons pe_str (pa_cons pe_str (pa_cons pe_str (pa_cons pe_str (pa_cons (pe_op op_addS (pv 1) pe_str)
              (pa_cons (pe_slice sl_str (pv 1) po_none (po_some (pe_un un_neg pe_int))) (pa_cons (pe_op op_addS (pv 1) pe_str) (pa_cons (pe_op op_mulS pe_str pe_int) pa_nil)))))))))))))
          (pss_one (ps_ret (pe_call GS hr (by rfl) gS kS bS .nil pass0 (pa_cons (pv 0) (pa_cons (pe_op op_cat (pv 3) (pe_lst (pa_cons (pe_op op_mulS pe_str pe_int) (pa_cons (pe_op op_addS (pv 1) pe_str) (pa_cons (pe_op op_addS (pv 1) pe_str) (pa_cons (pe_op op_addS pe_str (pv 1)) pa_nil)))))) pa_nil)))))) pss_nil)
        (pss_cons (ps_if (PW.pt (pw_and (pt_val (pe_call GI hr (by rfl) gI kI bI .nil pass0 (pa_cons (pv 1) pa_nil)))
            (pw_and1 (pt_cmpR op_gt (pe_call GT hr (by rfl) gT kT bT .nil pass0 (pa_cons (pv 0) (pa_cons pe_int pa_nil))) pe_int (nomark _))))) pss_never pss_nil)
        (pss_one (ps_ret (pe_call GO hr (by rfl) gO kO bO .nil pass0 (pa_cons (pv 0) pa_nil)))))) pss_nil) pss_never, ?_⟩
    have tyS : ∀ {H' : Hp}, TyE K H' (.str z) (.type "str") := .inl (.base (.str z))
    refine ⟨.str z, rfl, .str z, .ty "tuple", _, _, false, rfl, .ty _, tyS, kit_ty (by decide +kernel), false, rfl, iteT (iteT ?_)⟩
    refine ⟨.str z, rfl, .str z, .ty "str", _, _, true, rfl, .ty _, tyS, kit_ty (by decide +kernel), true, rfl, iteT ?_⟩
    refine ⟨.ref b, rfl, b, L, 3, rfl, hB, by decide, by decide, fun H1 r a1 r0 r3 => ⟨_, _, rfl, rfl, _, rfl, ite2 (fun c => ?_) (fun c => ?_)⟩⟩
    · -- more
      have hz1 : z.length ≤ 100 := hz.len
      have ez : ∀ {H' : Hp} {σ : L2.St}, Bg H' b L → σ[1]? = some (some (.str z)) → Ev K b L (tVar 1) σ H' (.str z) := fun h e => ev_var h e (.str z)
      refine seq_set ?_
      refine evm_lst (K := K) (b := b) (L := L) (ds := (moreS z).map PyData.str) (evs_cons (ev_str a1.bg) fun _ a => evs_cons (ev_str a.bg) fun _ a => evs_cons (ev_str a.bg) fun _ a => evs_cons (ev_str a.bg) fun _ a => evs_cons (ev_str a.bg) fun _ a =>
        evs_cons (ev_str a.bg) fun _ a => evs_cons (ev_str a.bg) fun _ a => evs_cons (ev_addS (ez a.bg rfl) (fun _ a => ev_str a.bg) (by show z.length + 1 ≤ 1000; omega)) fun _ a => evs_cons (ev_cutS (ez a.bg rfl) (by omega) pt_none pt_neg) fun _ a =>
        evs_cons (ev_addS (ez a.bg rfl) (fun _ a => ev_str a.bg) (by show z.length + 1 ≤ 1000; omega)) fun _ a => evs_cons (ev_mulS a.bg (by decide) (by decide) (by decide +kernel) (by decide +kernel)) fun _ a => evs_nil a.bg) (by show 11 ≤ 1000; decide) _ ?_
      intro H2 p2 xs2 a2 n2 e2 r2
      refine ret_go ?_
      refine ⟨.ref b, rfl, ?_⟩
      refine evm_cat (K := K) (b := b) (L := L) (es := (moreT z).map PyData.str) (evm_var a2.bg rfl n2 e2 r2) (fun _ a => evm_lst (evs_cons (ev_mulS a.bg (by decide) (by decide) (by decide +kernel) (by decide +kernel)) fun _ a =>
        evs_cons (ev_addS (ez a.bg rfl) (fun _ a => ev_str a.bg) (by show z.length + 1 ≤ 1000; omega)) fun _ a => evs_cons (ev_addS (ez a.bg rfl) (fun _ a => ev_str a.bg) (by show z.length + 1 ≤ 1000; omega)) fun _ a =>
        evs_cons (ev_addS (ev_str a.bg) (fun _ a => ez a.bg rfl) (by show 1 + z.length ≤ 1000; omega)) fun _ a => evs_nil a.bg) (by show 4 ≤ 1000; decide)) (by show 11 + 4 ≤ 1000; decide) _ ?_
      intro H3 p3 xs3 a3 n3 e3 r3
      have l3 := len_rp r3
      have a123 := a1.trans (a2.trans a3)
      rw [← List.map_append] at r3
      refine ⟨b, L, _, xs3, rfl, a3.bg, .inl ⟨p3, rfl, .inl (SqL.of (by rw [off_ne n3]; exact e3))⟩, by rw [l3]; show 0 < 11 + 4; decide, by rw [l3]; show 11 + 4 ≤ 1000; decide, fun H' v hA hv => ?_⟩
      obtain ⟨y, hy, rfl⟩ := pick_str r3 hv
      exact q H' _ _ (a123.trans hA) (.str y) (.inr ⟨y, rfl, more_asc hz y hy⟩)
    · refine ⟨.str z, rfl, .str z, false, false, rfl, ⟨_, tyS, kit_ty (by decide +kernel)⟩, ⟨_, tyS, kit_ty (by decide +kernel)⟩, false, rfl, iteF (iteF ?_)⟩
      exact ⟨.ref b, rfl, b, L, rfl, a1.bg, fun H' v d hA hd hr' => q H' v d (a1.trans hA) hr' (.inl hd)⟩
/-! ### _law_bent of a tuple of texts -/
def EvT (K : PySem.W.Frag) (b L : Addr) (t : TE) (σ : L2.St) (H : Hp) (P : List PyData → Prop) : Prop := ∀ Q : VK, (∀ H' v ds, Af b L H H' → Rp K (off b H') v (.tuple ds) → P ds → Q v H') → t σ H Q
section
variable {b L : Addr} {σ : L2.St} {H : Hp}
theorem Ev.t {t : TE} {ds : List PyData} (h : Ev K b L t σ H (.tuple ds)) : EvT K b L t σ H (fun l => l = ds) := fun Q q => h Q fun H' v a r => q H' v ds a r rfl
theorem evt_cat {ta tb : TE} {R S : List PyData → Prop} (ha : EvT K b L ta σ H R) (hb : ∀ H1, Af b L H H1 → EvT K b L tb σ H1 S) (hl : ∀ ds es, R ds → S es → ds.length + es.length ≤ 1000) :
    EvT K b L (tOp (rCatA K) ta tb) σ H (fun l => ∃ ds es, R ds ∧ S es ∧ l = ds ++ es) := by
  intro Q q
  refine ha _ fun H1 v ds a1 r1 hR => ?_
  refine hb H1 a1 _ fun H2 u es a2 r2 hS => ?_
  have e1 : Ev K b L (tC v) σ H2 (.tuple ds) := fun Q h => h H2 v (.refl a2.bg) (r1.same a2.off)
  have e2 : ∀ H3, Af b L H2 H3 → Ev K b L (tC u) σ H3 (.tuple es) := fun H3 a Q h => h H3 u (.refl a.bg) (r2.same a.off)
  exact ev_cat e1 e2 (hl ds es hR hS) Q fun H' x a r => q H' x _ ((a1.trans a2).trans a) r ⟨ds, es, hR, hS, rfl⟩
end
def StrD (d : PyData) : Prop := ∃ y, d = .str y ∧ Asc 130 y
/-- what is bent: an odd value, a tuple of texts and perhaps of one odd value, a list of texts -/
def BeD (d : PyData) : Prop := d ∈ odds ∨ (∃ ds e0, d = .tuple ds ∧ ds.length ≤ 20 ∧ e0 ∈ odds ∧ ∀ e ∈ ds, e = e0 ∨ StrD e) ∨ ∃ ss : List Str, d = .list (ss.map PyData.str) ∧ ss.length ≤ 20 ∧ ∀ y ∈ ss, Asc 130 y
def spBentT (K : PySem.W.Frag) : Sp := fun vs H Q _ => ∃ (b L t : Addr) (ss : List Str), vs = [.ref b, .ref t, .int 2] ∧ Bg H b L ∧ SqT K (off b H) t (ss.map V.str) ∧ ss.length ≤ 5 ∧ (∀ y ∈ ss, Asc 100 y) ∧
  ∀ H' v d, Af b L H H' → Rp K (off b H') v d → BeD d → Q v H'
theorem shaped_tup {l : List Str} (h : ∀ z ∈ l, ∀ c ∈ z.cps.toList, c < 128) : SeqAt.shaped (.tuple (l.map PyData.str)) = true := by
  unfold SeqAt.shaped
  rw [PyData.canLay0, lay_strs l h, PyData.depth, depth_strs]
  rfl
theorem eqv_nilT (l : List PyData) : PyData.eqv (.tuple l) (.tuple []) = l.isEmpty := by
  cases l <;> simp [PyData.eqv, PyData.eqvAll]
theorem ok_bentT {k : Nat} {f fS fT fI fO : Addr} {fd dS dT dI dO : FuncData} (F : Fun K "_law_bent" "_law_bent" sBent f fd) (B : Bi mg)
    (GB : FnOk P w K mg base CX0 k f fd ["bag", "thing", "deep"] (spBentS K)) (bB : Binds K fd ["bag", "thing", "deep"] []) (gB : mg "_law_bent" = some (.ref f))
    (GS : FnOk P w K mg base CX0 k fS dS ["bag", "things"] (spSome K)) (kS : PySem.W.keepIn K (.ref fS) = true) (bS : Binds K dS ["bag", "things"] []) (gS : mg "_law_some" = some (.ref fS))
    (GT : FnOk P w K mg base CX0 k fT dT ["bag", "many"] (spTake K)) (kT : PySem.W.keepIn K (.ref fT) = true) (bT : Binds K dT ["bag", "many"] []) (gT : mg "_law_take" = some (.ref fT))
    (GI : FnOk P w K mg base CX0 k fI dI ["thing"] (spInt K)) (kI : PySem.W.keepIn K (.ref fI) = true) (bI : Binds K dI ["thing"] []) (gI : mg "_law_is_int" = some (.ref fI))
    (GO : FnOk P w K mg base CX0 k fO dO ["bag"] (spOdd K)) (kO : PySem.W.keepIn K (.ref fO) = true) (bO : Binds K dO ["bag"] []) (gO : mg "_law_odd" = some (.ref fO)) :
    FnOk P w K mg base CX0 (k + 1) f fd ["bag", "thing", "deep"] (spBentT K) := by
  refine F.ok scBent (fun vs H Q E h => ?_) (fun cdv A outer s H vs Q E hr h => ?_)
  · obtain ⟨b, L, t, ss, rfl, _⟩ := h
    rfl
  · obtain ⟨b, L, t, ss, rfl, hB, ht, hl, hss, q⟩ := h
    have nd := scBent.nd
    refine ⟨_, pss_cons (ps_if (PW.pt (pw_or (pt_not (pt_val (pe_callB call_isE2 (by rfl) B.isi PyProof.Rows.boot_isinstance (pa_cons (pv 1) (pa_cons (pe_bltn (v := .ty "tuple") (by rfl) B.tuple PyProof.Rows.boot_tuple rfl) pa_nil)))))
          (pw_or (pt_cmpR (op_eqD hr.units) (pv 1) (pe_tup pa_nil) (nomark _)) (pw_or1 (pt_cmpR op_eq (pv 2) pe_int (nomark _))))))
        (pss_cons (ps_if (PW.pt (pw_and (pt_val (pe_callB call_isE2 (by rfl) B.isi PyProof.Rows.boot_isinstance (pa_cons (pv 1) (pa_cons (pe_bltn (v := .ty "str") (by rfl) B.str PyProof.Rows.boot_str rfl) pa_nil))))
            (pw_and1 (pt_cmpR op_gt (pe_call GT hr (by rfl) gT kT bT .nil pass0 (pa_cons (pv 0) (pa_cons pe_int pa_nil))) pe_int (nomark _))))) pss_never pss_nil)
        (pss_cons (ps_if (PW.pt (pw_and (pt_val (pe_call GI hr (by rfl) gI kI bI .nil pass0 (pa_cons (pv 1) pa_nil)))
            (pw_and1 (pt_cmpR op_gt (pe_call GT hr (by rfl) gT kT bT .nil pass0 (pa_cons (pv 0) (pa_cons pe_int pa_nil))) pe_int (nomark _))))) pss_never pss_nil)
        (pss_one (ps_ret (pe_call GO hr (by rfl) gO kO bO .nil pass0 (pa_cons (pv 0) pa_nil)))))) pss_nil)
      (pss_cons (ps_par (i := 4) (j := 5) (by rfl) nd rfl rfl (by decide) rfl rfl (pa_cons (pe_call GT hr (by rfl) gT kT bT .nil pass0 (pa_cons (pv 0) (pa_cons pe_int pa_nil)))
          (pa_cons (pe_call GT hr (by rfl) gT kT bT .nil pass0 (pa_cons (pv 0) (pa_cons (pe_callB call_len (by rfl) B.len PySem.boot_len (pa_cons (pv 1) pa_nil)) pa_nil))) pa_nil)) (by rfl))
      (pss_cons (ps_if (pt_cmpR op_eq (pv 4) pe_int (nomark _)) (pss_one (ps_ret (pe_callTy call_list_of (by rfl) B.list PyProof.Rows.boot_list (pa_cons (pv 1) pa_nil)))) pss_nil)
      (pss_cons (ps_if (pt_cmpR op_eq (pv 4) pe_int (nomark _)) (pss_one (ps_ret (pe_op op_catA (pe_slice sl_tupA (pv 1) po_none (po_some (pv 5))) (pe_slice sl_tupA (pv 1) (po_some (pe_op op_add (pv 5) pe_int)) po_none)))) pss_nil)
      (pss_cons (ps_if (pt_cmpR op_eq (pv 4) pe_int (nomark _)) (pss_one (ps_ret (pe_op op_catA (pe_op op_catA (pe_slice sl_tupA (pv 1) po_none (po_some (pv 5))) (pe_tup (pa_cons (pe_call GO hr (by rfl) gO kO bO .nil pass0 (pa_cons (pv 0) pa_nil)) pa_nil))) (pe_slice sl_tupA (pv 1) (po_some (pv 5)) po_none)))) pss_nil)
      (pss_cons (ps_if (pt_cmpR op_eq (pv 4) pe_int (nomark _)) (pss_one (ps_ret (pe_op op_catA (pe_op op_catA (pe_slice sl_tupA (pv 1) po_none (po_some (pv 5))) (pe_slice sl_tupA (pv 1) (po_some (pv 5)) (po_some (pe_op op_add (pv 5) pe_int)))) (pe_slice sl_tupA (pv 1) (po_some (pv 5)) po_none)))) pss_nil)
      (pss_one (ps_ret (pe_op op_catA (pe_op op_catA (pe_slice sl_tupA (pv 1) po_none (po_some (pv 5))) (pe_tup (pa_cons (pe_call GB hr (by rfl) gB F.kp bB .nil pass0 (pa_cons (pv 0) (pa_cons (pe_ix ix_tup (pv 1) (pv 5) (fun _ _ => rfl)) (pa_cons (pe_op op_sub (pv 2) pe_int) pa_nil)))) pa_nil)))
          (pe_slice sl_tupA (pv 1) (po_some (pe_op op_add (pv 5) pe_int)) po_none))))))))), ?_⟩
    have tyT : ∀ {H' : Hp}, Same (Ke.off b H) (Ke.off b H') → TyE K H' (.ref t) (.type "tuple") := fun e => .inl (ty_tuple (seqT_same off_le (seqT_same e ht)))
    have ty0 := tyT (Same.refl _)
    have hlow : ∀ z ∈ ss, ∀ c ∈ z.cps.toList, c < 128 := fun z hz => (hss z hz).low
    refine ⟨.ref t, rfl, .ref t, .ty "tuple", _, _, true, rfl, .ty _, ty0, kit_ty (by decide +kernel), true, rfl, iteF ?_⟩
    refine ⟨.ref t, rfl, Nat.zero_le _, fun p0 np0 => ?_⟩
    obtain ⟨a0, _, o0, _, w0⟩ := (Af.refl hB).new (o := .tup []) np0
    refine ⟨.tuple (ss.map PyData.str), .tuple [], .tup (seqT_same w0 (seqT_same off_le ht)) (dp_strs ss), .tup (SqT.of upd_same) .nil, shaped_tup hlow, by decide, _, rfl, ?_⟩
    rw [eqv_nilT]
    generalize upd H p0 (.tup []) = H0 at a0 o0 w0 ⊢
    cases hnil : (ss.map PyData.str).isEmpty with
    | true =>
      refine iteT (iteT ?_)
      refine ⟨.ref t, rfl, .ref t, .ty "str", _, _, false, rfl, .ty _, tyT o0, kit_ty (by decide +kernel), false, rfl, iteF (iteF ?_)⟩
      refine ⟨.ref t, rfl, .ref t, false, false, rfl, ⟨_, tyT o0, kit_ty (by decide +kernel)⟩, ⟨_, tyT o0, kit_ty (by decide +kernel)⟩, false, rfl, iteF (iteF ?_)⟩
      exact ⟨.ref b, rfl, b, L, rfl, a0.bg, fun H' v d hA hd hr' => q H' v d (a0.trans hA) hr' (.inl hd)⟩
    | false =>
    have hpos : 0 < ss.length := by
      cases ss with
      | nil => cases hnil
      | cons a l => exact Nat.succ_pos _
    refine iteF ⟨.int 2, rfl, rfl, _, rfl, ?_⟩
    rw [decide_eq_false (show ¬ V.int 2 = V.int 0 by decide)]
    refine iteF ?_
    -- way, at
    refine ⟨.ref b, rfl, b, L, 12, rfl, a0.bg, by decide, by decide, fun H1 way a1' w0' w12 => ?_⟩
    have a1 := a0.trans a1'
    have hlen : (ss.map V.str).length = ss.length := List.length_map _
    refine ⟨.ref b, rfl, .ref t, rfl, .ref t, ss.length, rfl, .inr ⟨_, seqT_same off_le (seqT_same a1.off ht), hlen.symm⟩, b, L, _, rfl, a1.bg, by omega, by omega, fun H2 at_ a2' t0 tn => ⟨_, _, rfl, ?_⟩⟩
    have a2 := a1.trans a2'
    have q2 : ∀ H' v d, Af b L H2 H' → Rp K (Ke.off b H') v d → BeD d → Q v H' := fun H' v d hA => q H' v d (a2.trans hA)
    have ht2 := seqT_same a2.off ht
    have hb2 := a2.bg
    clear q a2' a1' ht a2 a1 a0 o0 w0 tyT ty0
    obtain ⟨j, rfl⟩ := Int.eq_ofNat_of_zero_le t0
    have hj : j < ss.length := by omega
    have strE : ∀ e ∈ ss.map PyData.str, StrD e := by
      intro e he
      obtain ⟨y, hy, rfl⟩ := List.mem_map.mp he
      exact ⟨y, rfl, (hss y hy).mono (by decide)⟩
    have lenD : (ss.map PyData.str).length = ss.length := List.length_map _
    have th : ∀ {H' : Hp} {σ : L2.St}, Af b L H2 H' → σ[1]? = some (some (.ref t)) → Ev K b L (tVar 1) σ H' (.tuple (ss.map PyData.str)) := fun a e => ev_var a.bg e (.tup (seqT_same a.off ht2) (rp_strs ss))
    have no : PyData.none ∈ odds := by simp [odds]
    have cutE : ∀ {lo hi : Option Int} {e : PyData}, e ∈ cutG (ss.map PyData.str) lo hi → StrD e := fun h => strE _ (mem_cut h)
    have cutL : ∀ {lo hi : Option Int}, (cutG (ss.map PyData.str) lo hi).length ≤ 5 := fun {lo hi} => Nat.le_trans (len_cut _ _ _) (by omega)
    have r2 := Af.refl hb2
    refine ⟨.int way, rfl, rfl, _, rfl, ite2 (fun c => ?_) (fun c => ?_)⟩
    · -- list(thing)
      refine ⟨.ref t, rfl, t, _, rfl, .inr (seqT_same off_le ht2), fun l nl => ?_⟩
      obtain ⟨a3, n3, l3, c3, _⟩ := r2.new (o := .lst (ss.map V.str)) nl
      exact q2 _ _ _ a3 (.lst (SqL.of c3) (rp_strs ss)) (.inr (.inr ⟨ss, rfl, by omega, fun y hy => (hss y hy).mono (by decide)⟩))
    refine ⟨.int way, rfl, rfl, _, rfl, ite2 (fun c => ?_) (fun c => ?_)⟩
    · refine ret_go ?_
      refine ev_cat (K := K) (b := b) (L := L) (ev_slA (th r2 rfl) pt_none (pt_var rfl)) (fun _ a => ev_slA (th a rfl) (pt_next rfl) pt_none) (by have := @cutL none (some (j : Int)); have := @cutL (some ((j : Int) + 1)) none; omega) _ ?_
      intro H3 v a3 r3
      refine q2 H3 v _ a3 r3 (.inr (.inl ⟨_, .none, rfl, ?_, no, fun e he => .inr ?_⟩))
      · rw [List.length_append]
        have := @cutL none (some (j : Int))
        have := @cutL (some ((j : Int) + 1)) none
        omega
      · rcases List.mem_append.mp he with he | he
        · exact cutE he
        · exact cutE he
    refine ⟨.int way, rfl, rfl, _, rfl, ite2 (fun c => ?_) (fun c => ?_)⟩
    · refine ret_go ?_
      refine evt_cat (K := K) (b := b) (L := L) (R := fun l => ∃ ds es, ds = cutG (ss.map PyData.str) none (some (j : Int)) ∧ (∃ d ∈ odds, es = [d]) ∧ l = ds ++ es) (evt_cat (S := fun l => ∃ d ∈ odds, l = [d]) (Ev.t (ev_slA (th r2 rfl) pt_none (pt_var rfl))) (fun H3 a3 Q3 q3 => ?_) ?_)
        (fun _ a => Ev.t (ev_slA (th a rfl) (pt_var rfl) pt_none)) ?_ _ ?_
      · refine ⟨.ref b, rfl, b, L, rfl, a3.bg, fun H4 v d a4 hd r4 => ⟨by show 1 ≤ sizeLine; decide, fun p np => ?_⟩⟩
        obtain ⟨a5, n5, l5, c5, _⟩ := a4.new (o := .tup [v]) np
        exact q3 _ _ [d] a5 (.tup (SqT.of c5) (.cons (r4.same l5) .nil)) ⟨d, hd, rfl⟩
      · rintro ds es rfl ⟨d, _, rfl⟩
        have := @cutL none (some (j : Int))
        show (cutG (ss.map PyData.str) none (some (j : Int))).length + 1 ≤ 1000
        omega
      · rintro ds es ⟨d1, e1, rfl, ⟨d, _, rfl⟩, rfl⟩ rfl
        rw [List.length_append]
        have := @cutL none (some (j : Int))
        have := @cutL (some (j : Int)) none
        show (cutG (ss.map PyData.str) none (some (j : Int))).length + 1 + _ ≤ 1000
        omega
      · rintro H3 v ds a3 r3 ⟨_, _, ⟨_, _, rfl, ⟨d, hd, rfl⟩, rfl⟩, rfl, rfl⟩
        refine q2 H3 v _ a3 r3 (.inr (.inl ⟨_, d, rfl, ?_, hd, fun e he => ?_⟩))
        · rw [List.length_append, List.length_append]
          have := @cutL none (some (j : Int))
          have := @cutL (some (j : Int)) none
          show _ + 1 + _ ≤ 20
          omega
        · rcases List.mem_append.mp he with he | he
          · rcases List.mem_append.mp he with he | he
            · exact .inr (cutE he)
            · exact .inl (List.mem_singleton.mp he)
          · exact .inr (cutE he)
    refine ⟨.int way, rfl, rfl, _, rfl, ite2 (fun c => ?_) (fun c => ?_)⟩
    · refine ret_go ?_
      refine ev_cat (K := K) (b := b) (L := L) (ev_cat (ev_slA (th r2 rfl) pt_none (pt_var rfl)) (fun _ a => ev_slA (th a rfl) (pt_var rfl) (pt_next rfl)) (by have := @cutL none (some (j : Int)); have := @cutL (some (j : Int)) (some ((j : Int) + 1)); omega))
        (fun _ a => ev_slA (th a rfl) (pt_var rfl) pt_none) (by rw [List.length_append]; have := @cutL none (some (j : Int)); have := @cutL (some (j : Int)) (some ((j : Int) + 1)); have := @cutL (some (j : Int)) none; omega) _ ?_
      intro H3 v a3 r3
      refine q2 H3 v _ a3 r3 (.inr (.inl ⟨_, .none, rfl, ?_, no, fun e he => .inr ?_⟩))
      · rw [List.length_append, List.length_append]
        have := @cutL none (some (j : Int))
        have := @cutL (some (j : Int)) (some ((j : Int) + 1))
        have := @cutL (some (j : Int)) none
        omega
      · rcases List.mem_append.mp he with he | he
        · rcases List.mem_append.mp he with he | he
          · exact cutE he
          · exact cutE he
        · exact cutE he
    · dsimp only [tNext]
      refine ret_go ?_
      refine evt_cat (K := K) (b := b) (L := L) (R := fun l => ∃ ds es, ds = cutG (ss.map PyData.str) none (some (j : Int)) ∧ (∃ d, (d ∈ odds ∨ StrD d) ∧ es = [d]) ∧ l = ds ++ es) (evt_cat (S := fun l => ∃ d, (d ∈ odds ∨ StrD d) ∧ l = [d]) (Ev.t (ev_slA (th r2 rfl) pt_none (pt_var rfl))) (fun H3 a3 Q3 q3 => ?_) ?_)
        (fun _ a => Ev.t (ev_slA (th a rfl) (pt_next rfl) pt_none)) ?_ _ ?_
      · have ej : (ss.map V.str)[j]? = some (.str ss[j]) := by
          rw [List.getElem?_map, List.getElem?_eq_getElem hj]
          rfl
        refine ⟨.ref b, rfl, .ref t, rfl, .int (j : Int), rfl, t, _, _, _, rfl, rfl, seqT_same off_le (seqT_same a3.off ht2), atI_nat ej, .int 2, rfl, 2, 1, rfl, rfl, b, L, ss[j], _, rfl, a3.bg, hss _ (List.getElem_mem hj), fun H4 v d a4 r4 hd => ⟨by show 1 ≤ sizeLine; decide, fun p np => ?_⟩⟩
        obtain ⟨a5, n5, l5, c5, _⟩ := a4.new (o := .tup [v]) np
        exact q3 _ _ [d] a5 (.tup (SqT.of c5) (.cons (r4.same l5) .nil)) ⟨d, hd, rfl⟩
      · rintro ds es rfl ⟨d, _, rfl⟩
        have := @cutL none (some (j : Int))
        show (cutG (ss.map PyData.str) none (some (j : Int))).length + 1 ≤ 1000
        omega
      · rintro ds es ⟨d1, e1, rfl, ⟨d, _, rfl⟩, rfl⟩ rfl
        rw [List.length_append]
        have := @cutL none (some (j : Int))
        have := @cutL (some ((j : Int) + 1)) none
        show (cutG (ss.map PyData.str) none (some (j : Int))).length + 1 + _ ≤ 1000
        omega
      · rintro H3 v ds a3 r3 ⟨_, _, ⟨_, _, rfl, ⟨d, hd, rfl⟩, rfl⟩, rfl, rfl⟩
        have len : (cutG (ss.map PyData.str) none (some (j : Int)) ++ [d] ++ cutG (ss.map PyData.str) (some ((j : Int) + 1)) none).length ≤ 20 := by
          rw [List.length_append, List.length_append]
          have := @cutL none (some (j : Int))
          have := @cutL (some ((j : Int) + 1)) none
          show _ + 1 + _ ≤ 20
          omega
        have mem : ∀ e ∈ cutG (ss.map PyData.str) none (some (j : Int)) ++ [d] ++ cutG (ss.map PyData.str) (some ((j : Int) + 1)) none, e = d ∨ StrD e := by
          intro e he
          rcases List.mem_append.mp he with he | he
          · rcases List.mem_append.mp he with he | he
            · exact .inr (cutE he)
            · exact .inl (List.mem_singleton.mp he)
          · exact .inr (cutE he)
        rcases hd with hd | hd
        · exact q2 H3 v _ a3 r3 (.inr (.inl ⟨_, d, rfl, len, hd, mem⟩))
        · exact q2 H3 v _ a3 r3 (.inr (.inl ⟨_, .none, rfl, len, no, fun e he => .inr (by
            rcases mem e he with rfl | h
            · exact hd
            · exact h)⟩))
end
end Ke


set_option Elab.async false
set_option linter.all false
set_option maxRecDepth 100000
set_option maxHeartbeats 2000000
/-! Own errors as values: made with one argument that is kept, made of nothing, read. -/
namespace Ke
open PySem PySem.Spec PySem.W PyProof.Rows PySem.Calls PySem.HandSPX
def iA (x : Str) (p1 p2 : Pos) : Arguments := { posonlyargs := [], args := [{ arg := "self", annotation := none, pos := p1 }, { arg := x, annotation := none, pos := p2 }], vararg := none, kwonlyargs := [], kw_defaults := [], kwarg := none, defaults := [] }
def iB (x : Str) (q1 q2 q3 q4 : Pos) : List Stmt := [.Assign [.Attribute (.Name "self" q1) x q2] (.Name x q3) q4]
def iS (x : Str) : Scope := { kind := .function, names := [(PySem.Str.ofString "self", .local), (x, .local)], isGenerator := false, isCoroutine := false, more := [] }
/-- the error c at C, whose __init__ at fI keeps x -/
structure ErrF (K : Frag) (mg : Str → Option Value) (c x : Str) (C fI : Addr) : Prop where
  gC : mg c = some (.ref C)
  cls : ∃ nm q N bs bm sn sub ab col dd k0 k1 k2 k3 k5, K.lookup C = some (excClassObj nm q C N bs bm true sn sub ab col dd k0 k1 k2 k3 k5 "ValueError.__new__") ∧ refsVE bm = true
  sa : findIn K (.ref C) "__setattr__" = some (some (.builtin "object.__setattr__"))
  noN : findIn K (.ref C) x = some none
  iC : findIn K (.ref C) "__init__" = some (some (.ref fI))
  tC : typeIn K (.ref fI) = some (.type "function")
  kC : keepIn K (.ref C) = true
  ex : L2.ExcC K C
  fn : ∃ (qn : Str) (oc : Value) (od : Option Addr) (doc pm : Value) (an : Option Addr) (cdv ct : Value) (osl : Array (Option Value)) (p1 p2 q1 q2 q3 q4 : Pos),
    K.lookup fI = some ⟨oc, od, .func (fnOf "__init__" qn (iA x p1 p2) (iB x q1 q2 q3 q4) (iS x) .none .none doc pm an cdv ct), osl⟩ ∧ codeIn K cdv qn = true
abbrev Four (x : Str) : Prop := x = "place" ∨ x = "line" ∨ x = "index" ∨ x = "most"
theorem one_len (v : Value) : [v].length ≤ sizeLine := by
  rw [sizeLine_eq]
  exact (by decide : 1 ≤ 16777216)
theorem ldL {M : Model} {s : Shared} {name : Str} {scope : Scope} {L a : Addr} {cd : Value} {m : Str → Option Value} {x : Str} {pos : Pos} {v : Value} {Q : Value → Shared → Prop} {A : Around} {E : Value → Shared → Prop} (hn : s.heap.Ns L m) (hv : m x = some v) (h : Q v s)
    (hk : scope.kind = .function := by rfl) (hl : (envOfC name scope L a cd).kindOf x = some .local := by rfl) (hd : (x == ("__debug__" : Str)) = false := by decide) :
    wpAny M A (eval (.Name x pos) (envOfC name scope L a cd)) Q E s := wpAny_Name (wpAny_loadName_local hk hl hn hv h) hd
/-- what __init__ leaves of a new one at e -/
structure Filled (h h' : Heap) (e C d t1 : Addr) (x : Str) (v : Value) : Prop where
  keep : ∀ b o, b ≠ e → h.get? b = some o → h'.get? b = some o
  obj : h'.get? e = some { cls := .ref C, dict := some d, data := .fields #[.ref t1, .none, .none, .none, .bool false, .none] }
  dbig : h.objs.size ≤ d
  dne : d ≠ e
  ns : h'.Ns1 d (fun y => if y = x then some v else none)
/-- a made one -/
structure Made (h h' : Heap) (e C d : Addr) (x : Str) (v : Value) : Prop where
  keep : ∀ b o, h.get? b = some o → h'.get? b = some o
  new : h.objs.size ≤ e
  obj : ∃ oe vs, h'.get? e = some oe ∧ oe.cls = .ref C ∧ oe.dict = some d ∧ oe.data = .fields vs
  dbig : h.objs.size ≤ d
  dne : d ≠ e
  ns : h'.Ns1 d (fun y => if y = x then some v else none)
section
variable {prog : Program} {w : World} {A : Around} {E : Value → Shared → Prop} {R : Result → Shared → Prop} {s : Shared} {K : Frag} {mg : Str → Option Value} {c x : Str} {C fI : Addr}
theorem err_init (T : ErrF K mg c x C fI) (h4 : Four x) {e t0 : Addr} {v : Value} (X : K.In s.heap) (hlim : s.heap.NoLimit) (hx : s.heap.get? e = some (excO C t0)) (hroom : A.depth < recursionLimit)
    (hq : ∀ h' tk d, Filled s.heap h' e C d t0 x v → R (.ok (.ret .none)) { s with heap := h', toks := tk }) :
    codeAny (model prog w) A (.call (.ref fI) ⟨[.ref e, v], []⟩) R s := by
  obtain ⟨qn, oc, od, doc, pm, an, cdv, ct, osl, p1, p2, q1, q2, q3, q4, ho, hcd⟩ := T.fn
  obtain ⟨nm, q, N, bs, bm, sn, sub, ab, col, dd, k0, k1, k2, k3, k5, hC, hbm⟩ := T.cls
  have hcl : clsIn K C = some { name := nm, bases := bs, mro := .ref C :: bm, ns := N, qualname := q, hasDict := true, slotNames := sn, subclasses := sub, abstract := ab, collection := col, hasDel := false } := by unfold clsIn; rw [hC] <;> rfl
  have sa := T.sa
  have noN := T.noN
  rcases h4 with rfl | rfl | rfl | rfl
  all_goals
    refine Att.call_fn (binds := [("self", .ref e), (_, v)]) X hlim ho hcd hroom (BindsTo.of_eq (by first | rfl | with_unfolding_all rfl)) (by first | rfl | decide | with_unfolding_all rfl) (fun s₁ IC => ?_) rfl rfl rfl
    obtain ⟨h₁, tk₁, rfl⟩ := IC.toInCall.same
    have k : ∀ b o, s.heap.get? b = some o → h₁.get? b = some o := IC.toInCall.keep
    have hn := IC.toInCall.ns
    have X₁ : K.In h₁ := X.keeps k
    have hx₁ := k _ _ hx
    show wpAny _ _ (execs _ _) _ _ _
    refine wpAny_execs_cons (plainObj_wpAny_Assign_Attribute ?_)
    refine ldL (v := v) hn (by first | rfl | with_unfolding_all rfl | kernel_rfl) (ldL (v := .ref e) hn (by first | rfl | with_unfolding_all rfl | kernel_rfl) ?_)
    refine set_plain X₁ (ox := excO C t0) (od := none) ⟨hx₁, rfl, rfl, trivial⟩ sa ?_
    refine exc_osa X₁ hx₁ hcl (show refsVE (.ref C :: bm) = true from hbm) rfl noN (fun h₃ tk₃ dx k₃ dn dne hx₃ hn₃ => ?_)
    show wpAny _ _ (execs _ _) _ _ _
    have z : s.heap.objs.size < h₁.objs.size := hn.lt
    exact wpAny_execs_nil (hq h₃ tk₃ dx ⟨fun b o hb e => k₃ b o hb (k b o e), hx₃, Nat.le_of_lt (Nat.lt_of_lt_of_le z dn), dne, hn₃⟩)
theorem err_made (T : ErrF K mg c x C fI) (h4 : Four x) {v : Value} (X : K.In s.heap) (hlim : s.heap.NoLimit) (hroom : A.depth + 1 < recursionLimit)
    (hq : ∀ h' tk e d, Made s.heap h' e C d x v → R (.ok (.ret (.ref e))) { s with heap := h', toks := tk }) :
    codeAny (model prog w) A (.call (.ref C) ⟨[v], []⟩) R s := by
  obtain ⟨nm, q, N, bs, bm, sn, sub, ab, col, dd, k0, k1, k2, k3, k5, hC, hbm⟩ := T.cls
  obtain ⟨hp, g, dr, tk, os⟩ := s
  have k : ∀ b o, hp.get? b = some o → ((hp.push (kdv_tup [v])).push (excO C hp.objs.size)).get? b = some o := fun b o e => Heap.get?_push_of_some _ (Heap.get?_push_of_some _ e)
  have hget : ((hp.push (kdv_tup [v])).push (excO C hp.objs.size)).get? (hp.objs.size + 1) = some (excO C hp.objs.size) := by heap_get
  refine HandSPX.call_own F.excBase_ValueError (fun X => refsVE_contains X bm hbm) (X _ _ hC) (looks_findIn X T.iC) (fun self => bind_fn X self T.tC) (one_len v) ?_
  refine err_init (s := ⟨(hp.push (kdv_tup [v])).push (excO C hp.objs.size), g, dr, tk, os⟩) T h4 (X.keeps k) (hlim.keeps k) hget ?_ fun h' tk' d ⟨k', hx, dn, dne, hns⟩ => ?_
  · show A.depth + 1 < recursionLimit
    exact hroom
  · have old : ∀ b o, hp.get? b = some o → h'.get? b = some o := fun b o e => k' b o (Nat.ne_of_lt (Nat.lt_succ_of_lt (Heap.lt_size e))) (k b o e)
    have z : hp.objs.size + 1 + 1 ≤ d := by
      first
        | (simpa only [Heap.size_push] using dn)
        | exact dn
        | (have q := dn; rw [Heap.size_push, Heap.size_push] at q; exact q)
    exact ⟨rfl, hq h' tk' (hp.objs.size + 1) d ⟨old, Nat.le_succ _, ⟨_, _, hx, rfl, rfl, rfl⟩, Nat.le_trans (Nat.le_trans (Nat.le_succ _) (Nat.le_succ _)) z, dne, hns⟩⟩
end
end Ke
namespace Ke
open PySem PySem.Spec PyProof.Rows L2 Gd
theorem relO_one {v : V} {v' : Value} (r : RelV v v') (x f : Str) : RelO (List.lookup f [(x, v)]) (if f = x then some v' else none) := by
  by_cases hw : f = x
  · subst hw
    rw [if_pos rfl]
    have q : List.lookup f [(f, v)] = some v := by simp [List.lookup]
    rw [q]
    exact r
  · rw [if_neg hw]
    have qw : (f == x) = false := by simpa using hw
    have q2 : List.lookup f [(x, v)] = none := by simp [List.lookup, qw]
    rw [q2]
    trivial
theorem exV_ok {P : Program} {w : World} {H : Hp} {h : Heap} {a C : Addr} {od : Option Addr} {oe : Obj} {vs : Array Value} (e : h.get? a = some oe) (z : oe.cls = .ref C) (z2 : oe.dict = od) (d : oe.data = .fields vs) : ObjOk P w H h a (ExV a C od) :=
  ⟨⟨oe, vs, e, z, z2, d⟩, ⟨oe, e⟩, fun _ _ ⟨o, v, q, r⟩ k => ⟨o, v, k o q, r⟩⟩
/-- the reading of an own error with one argument, of nothing; of what it kept -/
def tErr (C : Addr) (x : Str) (ta : TE) : TE := fun σ H Q => ta σ H fun v H1 => ∀ e d, H1 d = none → H1 e = none → e ≠ d → Q (.ref e) (upd (upd H1 d (.xd [(x, v)])) e (ExV e C (some d)))
def tErr0 (C : Addr) : TE := fun _ H Q => ∀ e, H e = none → Q (.ref e) (upd H e (ExV e C none))
def tGot (K : PySem.W.Frag) (x : Str) (te : TE) : TE := fun σ H Q => te σ H fun u H1 => ∃ (a d C : Addr) (v : V), u = .ref a ∧ H1 a = some (ExV a C (some d)) ∧ H1 d = some (.xd [(x, v)]) ∧ ExcC K C ∧ PySem.W.findIn K (.ref C) x = some none ∧ Q v H1
section
variable {X : Cx} {C fI : Addr}
/-- an own error with one argument -/
theorem pe_errF {c x : Str} {a : Expr} {ta : TE} {p pos : Pos} {k : Nat} (T : ErrF X.K X.mg c x C fI) (h4 : Four x) (hr : Room k X.A) (ha : PE X a ta) (hg : Gl X c := by rfl)
    (hs : starEach [a] X.env = (false, eval a X.env) :: starEach [] X.env := by rfl) (hdb : (c == ("__debug__" : Str)) = false := by decide) :
    PE X (.Call (.Name c p) [a] [] pos) (tErr C x ta) := by
  refine ⟨fun pins s σ H Q I h => ?_⟩
  refine wpAny_Call_Name_kw (ld_glob I hg T.gC ?_ hdb)
  refine PySem.W.callWith_K (h₀ := X.base) I.ok.mod.kin T.kC ?_ hs (by rfl)
  rw [hs]
  show wpAny _ _ (spliced ((false, eval a X.env) :: backTo pos (starEach [] X.env))) _ _ s
  refine Calls.spliced_cons (thn (ha.run pins s σ H _ I h) fun u s1 ⟨v, H1, I1, r1, q1⟩ => ?_)
  refine Calls.spliced_nil ⟨I1.kIn, ?_⟩
  show wpAny _ _ (call (.ref C) [u]) _ _ _
  have hlim := I1.nolimit
  obtain ⟨hp, g, dr, tk, os⟩ := s1
  refine wpAny_call (err_made T h4 I1.kIn hlim (by have := hr.dp; omega) fun h' tk' e d M => ?_)
  obtain ⟨oe, fv, hoe, hc, hd, hdat⟩ := M.obj
  have hns := M.ns
  obtain ⟨G', g1, g2⟩ := restrict h' fun b => decide (b ≠ e)
  have gk : ∀ b, b ≠ e → G'.get? b = h'.get? b := fun b hb => g1 b (decide_eq_true hb)
  have ge : G'.get? e = none := g2 e (by simp)
  have old : ∀ b o, hp.get? b = some o → G'.get? b = some o := fun b o q => (gk b (Nat.ne_of_lt (Nat.lt_of_lt_of_le (Heap.lt_size q) M.new))).trans (M.keep b o q)
  have ob : ObjOk X.prog X.w (upd H1 d (.xd [(x, v)])) G' d (.xd [(x, v)]) := ⟨_, hns.at (fun o q => (gk d M.dne).trans q), fun f => relO_one r1 x f⟩
  have J : Inv X pins σ (upd H1 d (.xd [(x, v)])) ⟨G', g, dr, tk', os⟩ := I1.laid (t' := tk') old M.dbig ob
  have nd : H1 d = none := I1.hok.fresh M.dbig
  have ne : H1 e = none := I1.hok.fresh M.new
  have ne2 : (upd H1 d (.xd [(x, v)])) e = none := by
    rw [upd_ne (Ne.symm M.dne)]
    exact ne
  have gs : ∀ b o, G'.get? b = some o → h'.get? b = some o := fun b o q => by
    by_cases hb : b = e
    · rw [hb, ge] at q; cases q
    · exact (gk b hb).symm.trans q
  exact ⟨.ref e, _, J.laidN (t' := tk') gs ge ne2 (exV_ok hoe hc hd hdat), rfl, q1 e d nd ne (Ne.symm M.dne)⟩
/-- an own error of nothing -/
theorem pe_err0 {bmB : List Value} {B newId initId : String} {c : Str} {p pos : Pos} (F : ExcBaseFacts B newId initId bmB) (q : PySem.W.excIn X.K C bmB newId = true) (gC : X.mg c = some (.ref C)) (kC : PySem.W.keepIn X.K (.ref C) = true) (hg : Gl X c := by rfl)
    (hdb : (c == ("__debug__" : Str)) = false := by decide) :
    PE X (.Call (.Name c p) [] [] pos) (tErr0 C) := by
  refine ⟨fun pins s σ H Q I h => ?_⟩
  refine wpAny_Call_Name_kw (ld_glob I hg gC ?_ hdb)
  refine PySem.W.callWith_K0 I.kIn kC ?_
  show wpAny _ _ (call (.ref C) []) _ _ _
  obtain ⟨bm, N, nm, qn, bs, hdct, sn, sub, ab, col, dd, k0, k1, k2, k3, k5, mN, hC, hN, hni, T⟩ := exc_obj I.kIn q
  refine wpAny_call_exc_subT F T hC hN hni (fun h' a hm => ?_) (by show 0 ≤ sizeLine; omega)
  have hn : H a = none := I.hok.gone hm.new
  obtain ⟨t, ht, _, _⟩ := hm.there
  exact ⟨.ref a, _, I.laidN hm.keeps hm.new hn (exV_ok ht rfl rfl rfl), rfl, h a hn⟩
/-- what an own error kept, by its name -/
theorem pe_errGet {e : Expr} {te : TE} {x : Str} {pos : Pos} (he : PE X e te) (hb : attributeBase e x X.env (eval e X.env) = eval e X.env := by rfl) :
    PE X (.Attribute e x pos) (tGot X.K x te) := by
  refine ⟨fun pins s σ H Q I h => ?_⟩
  refine attr_of hb (thn (he.run pins s σ H _ I h) fun u s1 hh => ?_)
  obtain ⟨y, H1, I1, rx, a, d, C, v, rfl, ha, hd, T, hno, q⟩ := hh
  obtain rfl : u = Value.ref a := rx
  obtain ⟨⟨oe, vs, ho, hc, hdd, hdat⟩, _, _⟩ := I1.hok a _ ha
  have hx : ObjOk X.prog X.w H1 s1.heap d (.xd [(x, v)]) := I1.hok d _ hd
  obtain ⟨mA, hns, hr⟩ := hx
  obtain ⟨od, hod, hl⟩ := lookIn_ns hns
  have l : List.lookup x [(x, v)] = some v := by simp [List.lookup]
  obtain ⟨u, hu, ru⟩ := RelO.some_of (v := v) (o := mA x) (by rw [← l]; exact hr x)
  have J : PySem.W.InstAt s1.heap a oe C (some od) := ⟨ho, hc, by unfold PySem.W.notCls; rw [hdat] <;> rfl, by rw [hdd]; exact hod⟩
  exact HandSPX.exc_get I1.kIn J T.hg T.hk T.hs (PySem.W.findObj_own T.hd hno rfl (by rw [hl, hu])) (handed_of ru) ⟨v, H1, I1.tok _, ru, q⟩
end
end Ke


set_option Elab.async false
set_option linter.all false
set_option maxRecDepth 100000
namespace Ke
open PySem PySem.Spec PyProof.Rows L2 Gd
/-! ### data that repr can show -/
structure Sm (d : PyData) : Prop where
  sh : d.showable = true
  dp : d.depth ≤ 10
  sz : d.shown.length ≤ 2000
theorem show_all : ∀ {ds : List PyData}, (∀ e ∈ ds, Sm e) → PyData.showableAll ds = true
  | [], _ => by simp only [PyData.showableAll]
  | x :: xs, h => by
    simp only [PyData.showableAll]
    rw [(h x List.mem_cons_self).sh, show_all fun e he => h e (List.mem_cons_of_mem _ he)]
    rfl
theorem depth_all : ∀ {ds : List PyData}, (∀ e ∈ ds, Sm e) → PyData.depthAll ds ≤ 10
  | [], _ => by simp only [PyData.depthAll]; omega
  | x :: xs, h => by
    simp only [PyData.depthAll]
    have h1 := (h x List.mem_cons_self).dp
    have h2 := depth_all fun e he => h e (List.mem_cons_of_mem _ he)
    omega
theorem shown_all : ∀ {ds : List PyData}, (∀ e ∈ ds, Sm e) → ((PyData.shownAll ds).map (·.length)).sum ≤ 2000 * ds.length
  | [], _ => by simp only [PyData.shownAll, List.map_nil, List.sum_nil]; omega
  | x :: xs, h => by
    simp only [PyData.shownAll, List.map_cons, List.sum_cons, List.length_cons]
    have h1 := (h x List.mem_cons_self).sz
    have h2 := shown_all fun e he => h e (List.mem_cons_of_mem _ he)
    omega
theorem fine_of {ds : List PyData} (d : PyData) (hd : d = .list ds ∨ d = .tuple ds) (h : ∀ e ∈ ds, Sm e) (hl : ds.length ≤ 100) (hm : d.hasDict = true → hasList d = false) : Fine d := by
  have h1 := shown_all h
  have h2 := depth_all h
  have h3 := PyData.shownAll_length ds
  have h4 := listText_len_le (PyData.shownAll ds)
  have h5 := tupleText_len_le (PyData.shownAll ds)
  rcases hd with rfl | rfl
  · refine ⟨hm, by simp only [PyData.showable]; exact show_all h, by simp only [PyData.depth]; omega, ?_⟩
    simp only [PyData.shown]
    exact Nat.le_of_lt (Nat.lt_of_le_of_lt (show _ ≤ 300000 by omega) (by decide))
  · refine ⟨hm, by simp only [PyData.showable]; exact show_all h, by simp only [PyData.depth]; omega, ?_⟩
    simp only [PyData.shown]
    exact Nat.le_of_lt (Nat.lt_of_le_of_lt (show _ ≤ 300000 by omega) (by decide))
theorem noDict_all : ∀ {ds : List PyData}, (∀ e ∈ ds, e.hasDict = false) → PyData.hasDictAll ds = false
  | [], _ => by simp only [PyData.hasDictAll]
  | x :: xs, h => by
    simp only [PyData.hasDictAll]
    rw [h x List.mem_cons_self, noDict_all fun e he => h e (List.mem_cons_of_mem _ he)]
    rfl
theorem noList_all : ∀ {ds : List PyData}, (∀ e ∈ ds, hasList e = false) → anyList ds = false
  | [], _ => by simp only [anyList]
  | x :: xs, h => by
    simp only [anyList]
    rw [h x List.mem_cons_self, noList_all fun e he => h e (List.mem_cons_of_mem _ he)]
    rfl
theorem Sm.fine {d : PyData} (h : Sm d) (hm : d.hasDict = true → hasList d = false) : Fine d :=
  ⟨hm, h.sh, Nat.le_trans h.dp (by decide), Nat.le_trans h.sz (by decide)⟩
theorem sm_str {n : Nat} {z : Str} (h : Asc n z) (hn : n ≤ 150) : Sm (.str z) := by
  refine ⟨by simp only [PyData.showable], by simp only [PyData.depth]; omega, ?_⟩
  have e := PyData.shown_le 8 (Nat.le_refl _) (.str z) (by
    simp only [PyData.leavesShort, List.all_eq_true, decide_eq_true_eq]
    exact fun c hc => Nat.lt_trans (h.low c hc) (by decide))
  simp only [PyData.weight] at e
  have l := h.len
  have l2 : z.length = z.cps.size := rfl
  omega
theorem sm_bl (b : Bool) : Sm (.bool b) := ⟨by simp only [PyData.showable], by simp only [PyData.depth]; omega, by cases b <;> decide +kernel⟩
theorem sm_non : Sm .none := ⟨by simp only [PyData.showable], by simp only [PyData.depth]; omega, by decide +kernel⟩
/-- what the odd values are -/
def oddB (d : PyData) : Bool := d.showable && (decide (d.depth ≤ 3) && (decide (d.shown.length ≤ 300) && ((!d.hasDict || !hasList d) && match d with
  | .dict kvs => (match kvs with | [] => true | [(.str _, .int _)] => true | _ => false)
  | d => !d.hasDict && SeqAt.shaped d)))
theorem odds_ok : odds.all oddB = true := by decide +kernel
theorem odd_of {d : PyData} (h : d ∈ odds) : Sm d ∧ (d.hasDict = true → hasList d = false) ∧ ((d.hasDict = false ∧ SeqAt.shaped d = true) ∨ d = .dict [] ∨ ∃ x i, d = .dict [(.str x, .int i)]) := by
  have q := List.all_eq_true.mp odds_ok d h
  unfold oddB at q
  rw [Bool.and_eq_true, Bool.and_eq_true, Bool.and_eq_true, Bool.and_eq_true, decide_eq_true_eq, decide_eq_true_eq] at q
  obtain ⟨q1, q2, q3, q4, q5⟩ := q
  refine ⟨⟨q1, Nat.le_trans q2 (by decide), Nat.le_trans q3 (by decide)⟩, fun z => ?_, ?_⟩
  · rw [z] at q4
    simpa using q4
  · split at q5
    · split at q5
      · exact .inr (.inl rfl)
      · exact .inr (.inr ⟨_, _, rfl⟩)
      · cases q5
    · rw [Bool.and_eq_true] at q5
      exact .inl ⟨by simpa using q5.1, q5.2⟩
mutual
theorem Rp.dp {K : PySem.W.Frag} {H : Hp} : ∀ {v : V} {d : PyData}, Rp K H v d → d.hasDict = false → Dp K H v d
  | _, _, .non, _ => .non
  | _, _, .bl b, _ => .bl b
  | _, _, .int i, _ => .int i
  | _, _, .str x, _ => .str x
  | _, _, .lst h r, n => .lst h (RpAll.dp r (by simpa only [PyData.hasDict] using n))
  | _, _, .tup h r, n => .tup h (RpAll.dp r (by simpa only [PyData.hasDict] using n))
  | _, _, .dct _ _, n => by simp only [PyData.hasDict] at n; cases n
theorem RpAll.dp {K : PySem.W.Frag} {H : Hp} : ∀ {vs : List V} {ds : List PyData}, RpAll K H vs ds → PyData.hasDictAll ds = false → DpAll K H vs ds
  | _, _, .nil, _ => .nil
  | _, _, .cons h r, n => by
    simp only [PyData.hasDictAll, Bool.or_eq_false_iff] at n
    exact .cons (Rp.dp h n.1) (RpAll.dp r n.2)
end
theorem key_inr {k : Key} {x : Str} (h : keyD k = .str x) : k = .inr x := by
  cases k with
  | inl i => cases h
  | inr y => cases h; rfl
theorem flat_int {v : V} {i : Int} (h : flatD v = .int i) (f : isFlat v = true) : v = .int i := by
  cases v <;> cases h
  · rfl
  all_goals exact f.elim
theorem eqv_odd {K : PySem.W.Frag} {H : Hp} {v : V} {d : PyData} (h : d ∈ odds) (r : Rp K H v d) : Eqv K H v v d := by
  rcases (odd_of h).2.2 with ⟨h1, h2⟩ | rfl | ⟨x, i, rfl⟩
  · exact .inr (.inl ⟨Ke.Rp.dp r h1, Ke.Rp.dp r h1, h2⟩)
  · generalize e : PyData.dict [] = d at r
    cases r with
    | dct ha hf =>
      rename_i a kvs
      have e2 : kvs = [] := by
        injection e with e
        cases kvs with
        | nil => rfl
        | cons _ _ => cases e
      subst e2
      exact .inr (.inr ⟨1, by decide, .inr ⟨a, a, _, _, rfl, rfl, ha, ha, rfl, fun p z => nomatch z⟩⟩)
    | _ => cases e
  · generalize e : PyData.dict [(.str x, .int i)] = d at r
    cases r with
    | dct ha hf =>
      rename_i a kvs
      injection e with e
      cases kvs with
      | nil => cases e
      | cons p kvs =>
        cases kvs with
        | cons _ _ =>
          have z := congrArg List.length e
          simp at z
        | nil =>
          obtain ⟨k, u⟩ := p
          have e1 : keyD k = .str x := by
            have := congrArg (fun l => l.map Prod.fst) e
            simp at this
            exact this.symm
          have e2 : flatD u = .int i := by
            have := congrArg (fun l => l.map Prod.snd) e
            simp at this
            exact this.symm
          have e3 := key_inr e1
          subst e3
          have e4 := flat_int e2 (hf _ List.mem_cons_self)
          subst e4
          refine .inr (.inr ⟨1, by decide, .inr ⟨a, a, _, _, rfl, rfl, ha, ha, rfl, fun p z => ?_⟩⟩)
          rcases List.mem_cons.mp z with rfl | z
          · refine ⟨.int i, by simp [valV], .inl ⟨rfl, rfl⟩⟩
          · cases z
    | _ => cases e
theorem fine_odd {d : PyData} (h : d ∈ odds) : Fine d := (odd_of h).1.fine (odd_of h).2.1
end Ke


set_option Elab.async false
set_option linter.all false
set_option maxRecDepth 100000
namespace Ke
open PySem PySem.Spec PyProof.Rows L2 Gd
open C8 (tCut pss_cut)
abbrev sErrs : Stmt := topS 45
abbrev nErrs : List Str := ["bag", "thing", "errors", "kept", "at", "error", "told", "one", "place"]
theorem scErrs : FnScope nErrs ["bag"] (defScope sErrs) := ⟨rfl, rfl, rfl, by decide +kernel, rfl, by decide +kernel, by decide +kernel⟩
/-- an error of the class at C at e, that kept v under x -/
def ExF (H : Hp) (e C : Addr) (x : Str) (v : V) : Prop := ∃ d, H e = some (ExV e C (some d)) ∧ H d = some (.xd [(x, v)])
theorem ExF.same {H H' : Hp} {e C : Addr} {x : Str} {v : V} (h : ExF H e C x v) (s : Same H H') : ExF H' e C x v := by
  obtain ⟨d, h1, h2⟩ := h
  exact ⟨d, s _ _ h1, s _ _ h2⟩
theorem ExF.at_ {K : PySem.W.Frag} {H : Hp} {e C : Addr} {x : Str} {v : V} (h : ExF H e C x v) (k : ExcC K C) : ExAt K H (.ref e) C := by
  obtain ⟨d, h1, h2⟩ := h
  exact ⟨e, some d, rfl, h1, k, fun d' q => by cases q; exact ⟨_, h2⟩⟩
theorem mk_er {H : Hp} {p d C : Addr} {x : Str} {v : V} (nd : H d = none) (np : H p = none) (ne : p ≠ d) : Same H (upd (upd H d (.xd [(x, v)])) p (ExV p C (some d))) ∧ ExF (upd (upd H d (.xd [(x, v)])) p (ExV p C (some d))) p C x v :=
  ⟨(same_new nd).trans (same_new (by rw [upd_ne ne]; exact np)), d, upd_same, by rw [upd_ne (Ne.symm ne), upd_same]⟩
theorem mk_e0 {K : PySem.W.Frag} {H : Hp} {p C : Addr} (k : ExcC K C) (np : H p = none) : Same H (upd H p (ExV p C none)) ∧ ExAt K (upd H p (ExV p C none)) (.ref p) C :=
  ⟨same_new np, p, none, rfl, upd_same, k, fun d q => nomatch q⟩
inductive KitL (K : PySem.W.Frag) (t : Value) : List Value → List Bool → Prop
  | nil : KitL K t [] []
  | cons {c : Value} {b : Bool} {cs : List Value} {bs : List Bool} : PySem.W.kitOne K t c = some b → KitL K t cs bs → KitL K t (c :: cs) (b :: bs)
/-- the nine errors -/
structure Er (K : PySem.W.Frag) (mg : Str → Option Value) (E C0 C1 C2 C3 C4 C5 C6 C7 C8 : Addr) : Prop where
  gE : mg "EndError" = some (.ref E)
  gV : mg "ValueError" = none
  f0 : ∃ fI, ErrF K mg "NoAnswer" "place" C0 fI
  f1 : ∃ fI, ErrF K mg "NoCommand" "line" C1 fI
  f2 : ∃ fI, ErrF K mg "NoTree" "index" C2 fI
  f3 : ∃ fI, ErrF K mg "NoWord" "place" C3 fI
  f4 : ∃ fI, ErrF K mg "TooLong" "most" C4 fI
  f5 : ∃ fI, ErrF K mg "TooMany" "most" C5 fI
  f6 : ∃ fI, ErrF K mg "Wrong" "place" C6 fI
  g7 : mg "NoEnding" = some (.ref C7)
  x7 : PySem.W.excIn K C7 [.type "ValueError", .type "Exception", .type "BaseException", .type "object"] "ValueError.__new__" = true
  k7 : PySem.W.keepIn K (.ref C7) = true
  e7 : ExcC K C7
  g8 : mg "Nothing" = some (.ref C8)
  x8 : PySem.W.excIn K C8 [.type "ValueError", .type "Exception", .type "BaseException", .type "object"] "ValueError.__new__" = true
  k8 : PySem.W.keepIn K (.ref C8) = true
  e8 : ExcC K C8
  kit : ∀ (i : Nat) (C : Addr), [C0, C1, C2, C3, C4, C5, C6, C7, C8][i]? = some C → KitL K (.ref C) [.ref E, .type "ValueError", .ref C0, .ref C1, .ref C2, .ref C3, .ref C4, .ref C5, .ref C6, .ref C7, .ref C8]
    [true, true, decide (i = 0), decide (i = 1), decide (i = 2), decide (i = 3), decide (i = 4), decide (i = 5), decide (i = 6), decide (i = 7), decide (i = 8)]
theorem dp_bls {K : PySem.W.Frag} {H : Hp} : ∀ l : List Bool, DpAll K H (l.map V.bl) (l.map PyData.bool)
  | [] => .nil
  | x :: l => .cons (.bl x) (dp_bls l)
theorem lay_bls : ∀ l : List Bool, PyData.canLayAll0 (l.map PyData.bool) = true
  | [] => rfl
  | x :: l => by
    rw [List.map_cons, PyData.canLayAll0, PyData.canLay0, lay_bls l]
    rfl
theorem depth_bls : ∀ l : List Bool, PyData.depthAll (l.map PyData.bool) = 0
  | [] => rfl
  | x :: l => by
    rw [List.map_cons, PyData.depthAll, depth_bls l, PyData.depth]
    rfl
theorem shaped_bls (l : List Bool) : SeqAt.shaped (.list (l.map PyData.bool)) = true := by
  unfold SeqAt.shaped
  rw [PyData.canLay0, lay_bls l, PyData.depth, depth_bls]
  rfl
section
variable {P : Program} {w : World} {K : PySem.W.Frag} {mg : Str → Option Value} {base : Heap}
def spErrs : Sp := fun vs H Q _ => ∃ b L : Addr, vs = [.ref b] ∧ Bg H b L ∧ ∀ H', Af b L H H' → Q (.bl true) H'
theorem ok_errs {k : Nat} {f fO fA E C0 C1 C2 C3 C4 C5 C6 C7 C8 : Addr} {fd dO dA : FuncData} (F : Fun K "_law_are_errors_right" "_law_are_errors_right" sErrs f fd) (B : Bi mg) (T : Er K mg E C0 C1 C2 C3 C4 C5 C6 C7 C8)
    (GO : FnOk P w K mg base CX0 k fO dO ["bag"] (spOdd K)) (kO : PySem.W.keepIn K (.ref fO) = true) (bO : Binds K dO ["bag"] []) (gO : mg "_law_odd" = some (.ref fO))
    (GA : FnG P w K mg base k fA dA ["found", "due"] (spAlike K)) (kA : PySem.W.keepIn K (.ref fA) = true) (bA : Binds K dA ["found", "due"] []) (gA : mg "_law_alike" = some (.ref fA)) :
    FnG P w K mg base (k + 1) f fd ["bag"] spErrs := by
  refine okG F scErrs (fun vs H Q E h => ?_) (fun cdv A outer s H vs Q E' hg hr h => ?_)
  · obtain ⟨b, L, rfl, _⟩ := h
    rfl
  · obtain ⟨b, L, rfl, hB, q⟩ := h
    have nd := scErrs.nd
    obtain ⟨i0, T0⟩ := T.f0
    obtain ⟨i1, T1⟩ := T.f1
    obtain ⟨i2, T2⟩ := T.f2
    obtain ⟨i3, T3⟩ := T.f3
    obtain ⟨i4, T4⟩ := T.f4
    obtain ⟨i5, T5⟩ := T.f5
    obtain ⟨i6, T6⟩ := T.f6
    refine ⟨_, pss_cons (ps_set (i := 1) nd rfl (.inr rfl) (pe_call GO hr (by rfl) gO kO bO .nil pass0 (pa_cons (pv 0) pa_nil)))
      (pss_cons (ps_set (i := 2) nd rfl (.inl rfl) (pe_lst (pa_cons (pe_errF T0 (.inl rfl) hr (pv 1)) (pa_cons (pe_errF T1 (.inr (.inl rfl)) hr (pv 1)) (pa_cons (pe_errF T2 (.inr (.inr (.inl rfl))) hr (pv 1))
        (pa_cons (pe_errF T3 (.inl rfl) hr (pv 1)) (pa_cons (pe_errF T4 (.inr (.inr (.inr rfl))) hr (pv 1)) (pa_cons (pe_errF T5 (.inr (.inr (.inr rfl))) hr (pv 1)) pa_nil))))))))
      (pss_cons (ps_set (i := 3) nd rfl (.inl rfl) (pe_lst (pa_cons (pe_errGet (pe_ix ix_list (pv 2) pe_int (fun _ _ => rfl))) (pa_cons (pe_errGet (pe_ix ix_list (pv 2) pe_int (fun _ _ => rfl))) (pa_cons (pe_errGet (pe_ix ix_list (pv 2) pe_int (fun _ _ => rfl)))
        (pa_cons (pe_errGet (pe_ix ix_list (pv 2) pe_int (fun _ _ => rfl))) (pa_cons (pe_errGet (pe_ix ix_list (pv 2) pe_int (fun _ _ => rfl))) (pa_cons (pe_errGet (pe_ix ix_list (pv 2) pe_int (fun _ _ => rfl))) pa_nil))))))))
      (pss_cons (ps_set (i := 2) nd rfl (.inl rfl) (pe_op op_cat (pv 2) (pe_lst (pa_cons (pe_errF T6 (.inl rfl) hr (pv 1)) (pa_cons (pe_err0 PySem.F.excBase_ValueError T.x7 T.g7 T.k7) (pa_cons (pe_err0 PySem.F.excBase_ValueError T.x8 T.g8 T.k8) pa_nil))))))
      (pss_cons (ps_if (pt_cmpR (op_neNil hr.units0) (pe_lc (own := [("one", 7)]) (g := gName 7) (by rfl) nd (pi_list (pe_op op_cat (pv 3) (pe_lst (pa_cons (pe_errGet (pe_ix ix_list (pv 2) pe_int (fun _ _ => rfl))) pa_nil)))) (blkOk_by (own := [("one", 7)]) (N := nErrs) (sc := defScope sErrs) (by decide +kernel)) (fun _ _ _ _ _ => pg_name (i := 7) nd rfl (Or.inl rfl))
          (fun _ _ _ _ _ => pts_one (pt_not (pt_val (pe_callG GA hg hr (by rfl) gA kA bA (pa_cons (pv 7) (pa_cons (pv 1) pa_nil)))))) (fun _ _ _ _ _ => pv 7)) (pe_lst pa_nil) (nomark _))
        (pss_one (ps_ret pe_bl)) pss_nil)
      (pss_cons (ps_for PassesOwn.never rfl (pi_enum (by rfl) B.enum (pa_cons (pv 2) pa_nil)) (pg_tup rfl (pgs_cons (pg_name (i := 4) nd rfl (.inr rfl)) (pgs_cons (pg_name (i := 5) nd rfl (.inl rfl)) pgs_nil)))
        (pss_cons (ps_if (PW.pt (pw_or (pt_not (pt_val (pe_callB call_isE2 (by rfl) B.isi PyProof.Rows.boot_isinstance (pa_cons (pv 5) (pa_cons (pe_glob (v := .ref E) (by rfl) T.gE rfl) pa_nil)))))
            (pw_or1 (pt_not (pt_val (pe_callB call_isE2 (by rfl) B.isi PyProof.Rows.boot_isinstance (pa_cons (pv 5) (pa_cons (pe_bltn (v := .ty "ValueError") (by rfl) T.gV (by decide +kernel) rfl) pa_nil))))))))
          (pss_one (ps_ret pe_bl)) pss_nil)
        (pss_cons (ps_set (i := 6) nd rfl (.inl rfl) (pe_lst (pa_cons (pe_callB call_isE2 (by rfl) B.isi PyProof.Rows.boot_isinstance (pa_cons (pv 5) (pa_cons (pe_glob (v := .ref C0) (by rfl) T0.gC rfl) pa_nil)))
          (pa_cons (pe_callB call_isE2 (by rfl) B.isi PyProof.Rows.boot_isinstance (pa_cons (pv 5) (pa_cons (pe_glob (v := .ref C1) (by rfl) T1.gC rfl) pa_nil)))
          (pa_cons (pe_callB call_isE2 (by rfl) B.isi PyProof.Rows.boot_isinstance (pa_cons (pv 5) (pa_cons (pe_glob (v := .ref C2) (by rfl) T2.gC rfl) pa_nil))) pa_nil)))))
        (pss_cons (ps_set (i := 6) nd rfl (.inl rfl) (pe_op op_cat (pv 6) (pe_lst (pa_cons (pe_callB call_isE2 (by rfl) B.isi PyProof.Rows.boot_isinstance (pa_cons (pv 5) (pa_cons (pe_glob (v := .ref C3) (by rfl) T3.gC rfl) pa_nil)))
          (pa_cons (pe_callB call_isE2 (by rfl) B.isi PyProof.Rows.boot_isinstance (pa_cons (pv 5) (pa_cons (pe_glob (v := .ref C4) (by rfl) T4.gC rfl) pa_nil)))
          (pa_cons (pe_callB call_isE2 (by rfl) B.isi PyProof.Rows.boot_isinstance (pa_cons (pv 5) (pa_cons (pe_glob (v := .ref C5) (by rfl) T5.gC rfl) pa_nil))) pa_nil))))))
        (pss_cons (ps_set (i := 6) nd rfl (.inl rfl) (pe_op op_cat (pv 6) (pe_lst (pa_cons (pe_callB call_isE2 (by rfl) B.isi PyProof.Rows.boot_isinstance (pa_cons (pv 5) (pa_cons (pe_glob (v := .ref C6) (by rfl) T6.gC rfl) pa_nil)))
          (pa_cons (pe_callB call_isE2 (by rfl) B.isi PyProof.Rows.boot_isinstance (pa_cons (pv 5) (pa_cons (pe_glob (v := .ref C7) (by rfl) T.g7 rfl) pa_nil)))
          (pa_cons (pe_callB call_isE2 (by rfl) B.isi PyProof.Rows.boot_isinstance (pa_cons (pv 5) (pa_cons (pe_glob (v := .ref C8) (by rfl) T.g8 rfl) pa_nil))) pa_nil))))))
        (pss_one (ps_if (pt_cmpR (op_neD hr.units) (pv 6) (pe_lc (own := [("place", 8)]) (g := gName 8) (tt := tYes) (by rfl) nd (pi_range1 (by rfl) B.range (pa_cons pe_int pa_nil))
            (blkOk_by (own := [("place", 8)]) (N := nErrs) (sc := defScope sErrs) (by decide +kernel)) (fun _ _ _ _ _ => pg_name (i := 8) nd rfl (Or.inl rfl)) (fun _ _ _ _ _ => pts_nil) (fun _ _ _ _ _ => pe_cmpR op_eq (pv 8) (pv 4) (nomark _))) (nomark _))
          (pss_one (ps_ret pe_bl)) pss_nil)))))))
      (pss_one (ps_ret pe_bl))))))), ?_⟩
    refine seq_set ?_
    refine ⟨.ref b, rfl, b, L, rfl, hB, fun H1 v d a1 hd hv' => ?_⟩
    have hv := hv'.same off_le
    clear hv'
    -- errors
    refine seq_set ?_
    refine ⟨v, rfl, fun p0 d0 nd0 np0 ne0 => ?_⟩
    obtain ⟨s2, x0⟩ := mk_er (C := C0) (x := "place") (v := v) nd0 np0 ne0
    generalize upd (upd _ d0 (.xd [("place", v)])) p0 (ExV p0 C0 (some d0)) = H2 at s2 x0 ⊢
    refine ⟨v, rfl, fun p1 d1 nd1 np1 ne1 => ?_⟩
    obtain ⟨s3, x1⟩ := mk_er (C := C1) (x := "line") (v := v) nd1 np1 ne1
    generalize upd (upd _ d1 (.xd [("line", v)])) p1 (ExV p1 C1 (some d1)) = H3 at s3 x1 ⊢
    refine ⟨v, rfl, fun p2 d2 nd2 np2 ne2 => ?_⟩
    obtain ⟨s4, x2⟩ := mk_er (C := C2) (x := "index") (v := v) nd2 np2 ne2
    generalize upd (upd _ d2 (.xd [("index", v)])) p2 (ExV p2 C2 (some d2)) = H4 at s4 x2 ⊢
    refine ⟨v, rfl, fun p3 d3 nd3 np3 ne3 => ?_⟩
    obtain ⟨s5, x3⟩ := mk_er (C := C3) (x := "place") (v := v) nd3 np3 ne3
    generalize upd (upd _ d3 (.xd [("place", v)])) p3 (ExV p3 C3 (some d3)) = H5 at s5 x3 ⊢
    refine ⟨v, rfl, fun p4 d4 nd4 np4 ne4 => ?_⟩
    obtain ⟨s6, x4⟩ := mk_er (C := C4) (x := "most") (v := v) nd4 np4 ne4
    generalize upd (upd _ d4 (.xd [("most", v)])) p4 (ExV p4 C4 (some d4)) = H6 at s6 x4 ⊢
    refine ⟨v, rfl, fun p5 d5 nd5 np5 ne5 => ?_⟩
    obtain ⟨s7, x5⟩ := mk_er (C := C5) (x := "most") (v := v) nd5 np5 ne5
    generalize upd (upd _ d5 (.xd [("most", v)])) p5 (ExV p5 C5 (some d5)) = H7 at s7 x5 ⊢
    refine ⟨by show 6 ≤ sizeLine; decide, fun pe ne => ?_⟩
    have s8 := same_new (o := .lst [.ref p0, .ref p1, .ref p2, .ref p3, .ref p4, .ref p5]) ne
    have e8 : (upd H7 pe (.lst [.ref p0, .ref p1, .ref p2, .ref p3, .ref p4, .ref p5])) pe = some (.lst [.ref p0, .ref p1, .ref p2, .ref p3, .ref p4, .ref p5]) := upd_same
    have s18 := s2.trans (s3.trans (s4.trans (s5.trans (s6.trans (s7.trans s8)))))
    replace x0 := x0.same (s3.trans (s4.trans (s5.trans (s6.trans (s7.trans s8)))))
    replace x1 := x1.same (s4.trans (s5.trans (s6.trans (s7.trans s8))))
    replace x2 := x2.same (s5.trans (s6.trans (s7.trans s8)))
    replace x3 := x3.same (s6.trans (s7.trans s8))
    replace x4 := x4.same (s7.trans s8)
    replace x5 := x5.same s8
    show tSeq _ _ _ _ (upd H7 pe (.lst [.ref p0, .ref p1, .ref p2, .ref p3, .ref p4, .ref p5]))
    generalize upd H7 pe (.lst [.ref p0, .ref p1, .ref p2, .ref p3, .ref p4, .ref p5]) = H8 at s8 e8 s18 x0 x1 x2 x3 x4 x5 ⊢
    clear s2 s3 s4 s5 s6 s7 s8 ne
    -- kept
    refine seq_set ?_
    refine ⟨_, rfl, pe, _, _, .ref p0, rfl, rfl, SqL.of e8, atI_nat (j := 0) rfl, p0, x0.choose, C0, v, rfl, x0.choose_spec.1, x0.choose_spec.2, T0.ex, T0.noN, ?_⟩
    refine ⟨_, rfl, pe, _, _, .ref p1, rfl, rfl, SqL.of e8, atI_nat (j := 1) rfl, p1, x1.choose, C1, v, rfl, x1.choose_spec.1, x1.choose_spec.2, T1.ex, T1.noN, ?_⟩
    refine ⟨_, rfl, pe, _, _, .ref p2, rfl, rfl, SqL.of e8, atI_nat (j := 2) rfl, p2, x2.choose, C2, v, rfl, x2.choose_spec.1, x2.choose_spec.2, T2.ex, T2.noN, ?_⟩
    refine ⟨_, rfl, pe, _, _, .ref p3, rfl, rfl, SqL.of e8, atI_nat (j := 3) rfl, p3, x3.choose, C3, v, rfl, x3.choose_spec.1, x3.choose_spec.2, T3.ex, T3.noN, ?_⟩
    refine ⟨_, rfl, pe, _, _, .ref p4, rfl, rfl, SqL.of e8, atI_nat (j := 4) rfl, p4, x4.choose, C4, v, rfl, x4.choose_spec.1, x4.choose_spec.2, T4.ex, T4.noN, ?_⟩
    refine ⟨_, rfl, pe, _, _, .ref p5, rfl, rfl, SqL.of e8, atI_nat (j := 5) rfl, p5, x5.choose, C5, v, rfl, x5.choose_spec.1, x5.choose_spec.2, T5.ex, T5.noN, ?_⟩
    refine ⟨by show 6 ≤ sizeLine; decide, fun pk nk => ?_⟩
    have s9 := same_new (o := .lst [v, v, v, v, v, v]) nk
    have e9 : (upd H8 pk (.lst [v, v, v, v, v, v])) pk = some (.lst [v, v, v, v, v, v]) := upd_same
    show tSeq _ _ _ _ (upd H8 pk (.lst [v, v, v, v, v, v]))
    generalize upd H8 pk (.lst [v, v, v, v, v, v]) = H9 at s9 e9 ⊢
    -- errors + ..
    refine seq_set ?_
    refine ⟨_, rfl, ?_⟩
    refine ⟨v, rfl, fun p6 d6 nd6 np6 ne6 => ?_⟩
    obtain ⟨s10, x6⟩ := mk_er (C := C6) (x := "place") (v := v) nd6 np6 ne6
    generalize upd (upd _ d6 (.xd [("place", v)])) p6 (ExV p6 C6 (some d6)) = H10 at s10 x6 ⊢
    refine fun p7 np7 => ?_
    obtain ⟨s11, x7⟩ := mk_e0 (C := C7) T.e7 np7
    generalize upd _ p7 (ExV p7 C7 none) = H11 at s11 x7 ⊢
    refine fun p8 np8 => ?_
    obtain ⟨s12, x8⟩ := mk_e0 (C := C8) T.e8 np8
    generalize upd _ p8 (ExV p8 C8 none) = H12 at s12 x8 ⊢
    refine ⟨by show 3 ≤ sizeLine; decide, fun pl nl => ?_⟩
    have s13 := same_new (o := .lst [.ref p6, .ref p7, .ref p8]) nl
    refine ⟨pe, pl, _, _, rfl, rfl, s13 _ _ (s12 _ _ (s11 _ _ (s10 _ _ (s9 _ _ e8)))), upd_same, by show 9 ≤ sizeLine; decide, fun pc nc => ?_⟩
    have s14 := same_new (o := .lst ([.ref p0, .ref p1, .ref p2, .ref p3, .ref p4, .ref p5] ++ [.ref p6, .ref p7, .ref p8])) nc
    have sA := s9.trans (s10.trans (s11.trans (s12.trans (s13.trans s14))))
    have sB := s10.trans (s11.trans (s12.trans (s13.trans s14)))
    replace x0 := x0.same sA
    replace x1 := x1.same sA
    replace x2 := x2.same sA
    replace x3 := x3.same sA
    replace x4 := x4.same sA
    replace x5 := x5.same sA
    replace x6 := x6.same (s11.trans (s12.trans (s13.trans s14)))
    replace x7 := x7.same (s12.trans (s13.trans s14))
    replace x8 := x8.same (s13.trans s14)
    replace e9 := sB _ _ e9
    replace s18 := s18.trans sA
    have eE : (upd (upd H12 pl (.lst [.ref p6, .ref p7, .ref p8])) pc (.lst ([.ref p0, .ref p1, .ref p2, .ref p3, .ref p4, .ref p5] ++ [.ref p6, .ref p7, .ref p8]))) pc = some (.lst [.ref p0, .ref p1, .ref p2, .ref p3, .ref p4, .ref p5, .ref p6, .ref p7, .ref p8]) := upd_same
    clear sA sB e8 s14 s13 s12 s11 s10 s9
    show tSeq _ _ _ _ (upd (upd H12 pl (.lst [.ref p6, .ref p7, .ref p8])) pc (.lst ([.ref p0, .ref p1, .ref p2, .ref p3, .ref p4, .ref p5] ++ [.ref p6, .ref p7, .ref p8])))
    generalize upd (upd H12 pl (.lst [.ref p6, .ref p7, .ref p8])) pc (.lst ([.ref p0, .ref p1, .ref p2, .ref p3, .ref p4, .ref p5] ++ [.ref p6, .ref p7, .ref p8])) = H14 at *
    replace hv := hv.same s18
    -- the kept ones are alike
    refine ⟨_, rfl, ?_⟩
    refine ⟨_, rfl, pc, _, _, .ref p6, rfl, rfl, SqL.of eE, atI_nat (j := 6) rfl, p6, x6.choose, C6, v, rfl, x6.choose_spec.1, x6.choose_spec.2, T6.ex, T6.noN, ?_⟩
    refine ⟨by show 1 ≤ sizeLine; decide, fun pm nm => ?_⟩
    have s15 := same_new (o := .lst [v]) nm
    refine ⟨pk, pm, _, _, rfl, rfl, s15 _ _ e9, upd_same, by show 7 ≤ sizeLine; decide, fun pn nn => ?_⟩
    have s16 := s15.trans (same_new (o := .lst ([v, v, v, v, v, v] ++ [v])) nn)
    have e16 : (upd (upd H14 pm (.lst [v])) pn (.lst ([v, v, v, v, v, v] ++ [v]))) pn = some (.lst [v, v, v, v, v, v, v]) := upd_same
    generalize (upd (upd H14 pm (.lst [v])) pn (.lst ([v, v, v, v, v, v] ++ [v]))) = H16 at s16 e16 ⊢
    refine ⟨pn, rfl, ⟨_, SqL.of e16⟩, fun D nD => ?_⟩
    refine lc_els (p := fun _ => false) (e := id) (walk_list (xs := [v, v, v, v, v, v, v])) (fun H' sm => sm.seq (SqL.of e16)) (by show 7 < sizeLine; decide) nD (fun x H17 Y N hx sm hy hn => ?_) (fun H17 sm eD => ?_)
    · have ex : x = v := by simpa using hx
      subst ex
      have hv2 := (hv.same s16).same sm
      exact ⟨rfl, x, rfl, x, rfl, x, x, d, rfl, eqv_odd hd hv2, hv2, hv2, fine_odd hd, _, rfl, iteF (hn rfl H17 (Same.refl _))⟩
    refine ⟨Nat.zero_le _, fun e4 n4 => ?_⟩
    have s20' : Same H17 (upd H17 e4 (.lst [])) := same_new n4
    refine ⟨D, e4, [], rfl, rfl, SqL.of (s20' _ _ eD), SqL.of upd_same, _, rfl, iteF ?_⟩
    have s20 := s16.trans (sm.trans s20')
    generalize upd H17 e4 (.lst []) = H20 at s20 ⊢
    -- each error is of its class alone
    have hex : ∀ (i : Nat) (x : V), [V.ref p0, .ref p1, .ref p2, .ref p3, .ref p4, .ref p5, .ref p6, .ref p7, .ref p8][i]? = some x → ∃ C, [C0, C1, C2, C3, C4, C5, C6, C7, C8][i]? = some C ∧ ∀ H', Same H20 H' → TyE K H' x (.ref C) := by
      have mk : ∀ {x C}, ExAt K H14 x C → ∀ H', Same H20 H' → TyE K H' x (.ref C) := fun h H' s => .inr ⟨_, rfl, h.same (s20.trans s)⟩
      intro i x h
      rcases i with _ | _ | _ | _ | _ | _ | _ | _ | _ | i
      · cases h; exact ⟨_, rfl, mk (x0.at_ T0.ex)⟩
      · cases h; exact ⟨_, rfl, mk (x1.at_ T1.ex)⟩
      · cases h; exact ⟨_, rfl, mk (x2.at_ T2.ex)⟩
      · cases h; exact ⟨_, rfl, mk (x3.at_ T3.ex)⟩
      · cases h; exact ⟨_, rfl, mk (x4.at_ T4.ex)⟩
      · cases h; exact ⟨_, rfl, mk (x5.at_ T5.ex)⟩
      · cases h; exact ⟨_, rfl, mk (x6.at_ T6.ex)⟩
      · cases h; exact ⟨_, rfl, mk x7⟩
      · cases h; exact ⟨_, rfl, mk x8⟩
      · cases h
    have eE2 := s20 _ _ eE
    refine ⟨_, rfl, pc, _, rfl, SqL.of eE2, ?_⟩
    refine for_it walk_enum (fun i σ H' => (∃ y4 y5 y6, σ = [some (.ref b), some v, some (.ref pc), some (.ref pk), y4, y5, y6, none, none]) ∧ Same H20 H') ⟨⟨none, none, none, rfl⟩, Same.refl _⟩ (fun i σ H' _ h => h.2.seq (SqL.of eE2)) ?_ ?_
    · rintro i x σ H21 H22 hi ⟨⟨y4, y5, y6, rfl⟩, sm⟩ ⟨T9, z1, z2, rfl, nT, rfl, g1, g2⟩
      obtain ⟨C, hC, hty⟩ := hex i z2 g2
      cases g1
      have s21 := sm.trans (same_new (o := .tup [.int (i : Nat), z2]) nT)
      refine ⟨T9, [.int (i : Nat), z2], rfl, .inl (.inl upd_same), rfl, _, _, rfl, _, _, rfl, rfl, ?_⟩
      generalize upd H21 T9 (.tup [.int (i : Nat), z2]) = H23 at s21 ⊢
      have kt := T.kit i C hC
      cases kt with | cons kE kt =>
      cases kt with | cons kV kt =>
      cases kt with | cons k0 kt =>
      cases kt with | cons k1 kt =>
      cases kt with | cons k2 kt =>
      cases kt with | cons k3 kt =>
      cases kt with | cons k4 kt =>
      cases kt with | cons k5 kt =>
      cases kt with | cons k6 kt =>
      cases kt with | cons k7 kt =>
      cases kt with | cons k8 kt =>
      have ty : ∀ H', Same H23 H' → TyE K H' z2 (.ref C) := fun H' s => hty H' (s21.trans s)
      refine ⟨z2, rfl, z2, .ref E, .ref C, _, true, rfl, .own _, ty _ (Same.refl _), kE, true, rfl, ?_⟩
      refine iteF ⟨z2, rfl, z2, .ty "ValueError", .ref C, _, true, rfl, .ty _, ty _ (Same.refl _), kV, true, rfl, iteF ?_⟩
      -- told
      refine next_go ?_
      refine ⟨z2, rfl, z2, .ref C0, .ref C, _, _, rfl, .own _, ty _ (Same.refl _), k0, z2, rfl, z2, .ref C1, .ref C, _, _, rfl, .own _, ty _ (Same.refl _), k1, z2, rfl, z2, .ref C2, .ref C, _, _, rfl, .own _, ty _ (Same.refl _), k2, by show 3 ≤ sizeLine; decide, fun t1 nt1 => ?_⟩
      have u1 := same_new (o := .lst [.bl (decide (i = 0)), .bl (decide (i = 1)), .bl (decide (i = 2))]) nt1
      have f1 : (upd H23 t1 (.lst [.bl (decide (i = 0)), .bl (decide (i = 1)), .bl (decide (i = 2))])) t1 = some (.lst [.bl (decide (i = 0)), .bl (decide (i = 1)), .bl (decide (i = 2))]) := upd_same
      show Ends.nx _ _ (upd H23 t1 (.lst [.bl (decide (i = 0)), .bl (decide (i = 1)), .bl (decide (i = 2))]))
      generalize upd H23 t1 (.lst [.bl (decide (i = 0)), .bl (decide (i = 1)), .bl (decide (i = 2))]) = H24 at u1 f1 ⊢
      refine ⟨_, rfl, z2, rfl, z2, .ref C3, .ref C, _, _, rfl, .own _, ty _ u1, k3, z2, rfl, z2, .ref C4, .ref C, _, _, rfl, .own _, ty _ u1, k4, z2, rfl, z2, .ref C5, .ref C, _, _, rfl, .own _, ty _ u1, k5, by show 3 ≤ sizeLine; decide, fun t2 nt2 => ?_⟩
      have u2' := same_new (o := .lst [.bl (decide (i = 3)), .bl (decide (i = 4)), .bl (decide (i = 5))]) nt2
      refine ⟨t1, t2, _, _, rfl, rfl, u2' _ _ f1, upd_same, by show 6 ≤ sizeLine; decide, fun t3 nt3 => ?_⟩
      have u2 := u1.trans (u2'.trans (same_new (o := .lst ([.bl (decide (i = 0)), .bl (decide (i = 1)), .bl (decide (i = 2))] ++ [.bl (decide (i = 3)), .bl (decide (i = 4)), .bl (decide (i = 5))])) nt3))
      have f2 : (upd (upd H24 t2 (.lst [.bl (decide (i = 3)), .bl (decide (i = 4)), .bl (decide (i = 5))])) t3 (.lst ([.bl (decide (i = 0)), .bl (decide (i = 1)), .bl (decide (i = 2))] ++ [.bl (decide (i = 3)), .bl (decide (i = 4)), .bl (decide (i = 5))]))) t3 =
        some (.lst [.bl (decide (i = 0)), .bl (decide (i = 1)), .bl (decide (i = 2)), .bl (decide (i = 3)), .bl (decide (i = 4)), .bl (decide (i = 5))]) := upd_same
      show Ends.nx _ _ (upd (upd H24 t2 (.lst [.bl (decide (i = 3)), .bl (decide (i = 4)), .bl (decide (i = 5))])) t3 (.lst ([.bl (decide (i = 0)), .bl (decide (i = 1)), .bl (decide (i = 2))] ++ [.bl (decide (i = 3)), .bl (decide (i = 4)), .bl (decide (i = 5))])))
      generalize (upd (upd H24 t2 (.lst [.bl (decide (i = 3)), .bl (decide (i = 4)), .bl (decide (i = 5))])) t3 (.lst ([.bl (decide (i = 0)), .bl (decide (i = 1)), .bl (decide (i = 2))] ++ [.bl (decide (i = 3)), .bl (decide (i = 4)), .bl (decide (i = 5))]))) = H25 at u2 f2 ⊢
      refine ⟨_, rfl, z2, rfl, z2, .ref C6, .ref C, _, _, rfl, .own _, ty _ u2, k6, z2, rfl, z2, .ref C7, .ref C, _, _, rfl, .own _, ty _ u2, k7, z2, rfl, z2, .ref C8, .ref C, _, _, rfl, .own _, ty _ u2, k8, by show 3 ≤ sizeLine; decide, fun t4 nt4 => ?_⟩
      have u3' := same_new (o := .lst [.bl (decide (i = 6)), .bl (decide (i = 7)), .bl (decide (i = 8))]) nt4
      refine ⟨t3, t4, _, _, rfl, rfl, u3' _ _ f2, upd_same, by show 9 ≤ sizeLine; decide, fun t5 nt5 => ?_⟩
      have u3 := u2.trans (u3'.trans (same_new (o := .lst ([.bl (decide (i = 0)), .bl (decide (i = 1)), .bl (decide (i = 2)), .bl (decide (i = 3)), .bl (decide (i = 4)), .bl (decide (i = 5))] ++ [.bl (decide (i = 6)), .bl (decide (i = 7)), .bl (decide (i = 8))])) nt5))
      have f3 : (upd (upd H25 t4 (.lst [.bl (decide (i = 6)), .bl (decide (i = 7)), .bl (decide (i = 8))])) t5 (.lst ([.bl (decide (i = 0)), .bl (decide (i = 1)), .bl (decide (i = 2)), .bl (decide (i = 3)), .bl (decide (i = 4)), .bl (decide (i = 5))] ++ [.bl (decide (i = 6)), .bl (decide (i = 7)), .bl (decide (i = 8))]))) t5 =
        some (.lst (((List.range 9).map fun j => decide (i = j)).map V.bl)) := upd_same
      show Ends.nx _ _ (upd (upd H25 t4 (.lst [.bl (decide (i = 6)), .bl (decide (i = 7)), .bl (decide (i = 8))])) t5 (.lst ([.bl (decide (i = 0)), .bl (decide (i = 1)), .bl (decide (i = 2)), .bl (decide (i = 3)), .bl (decide (i = 4)), .bl (decide (i = 5))] ++ [.bl (decide (i = 6)), .bl (decide (i = 7)), .bl (decide (i = 8))])))
      generalize (upd (upd H25 t4 (.lst [.bl (decide (i = 6)), .bl (decide (i = 7)), .bl (decide (i = 8))])) t5 (.lst ([.bl (decide (i = 0)), .bl (decide (i = 1)), .bl (decide (i = 2)), .bl (decide (i = 3)), .bl (decide (i = 4)), .bl (decide (i = 5))] ++ [.bl (decide (i = 6)), .bl (decide (i = 7)), .bl (decide (i = 8))]))) = H26 at u3 f3 ⊢
      -- due
      refine ⟨_, rfl, 9, rfl, by decide, by decide, fun D2 nD2 => ?_⟩
      refine lc_els (p := fun _ => true) (e := fun x => V.bl (decide (x = V.int (i : Nat)))) (walk_rng (n := 9)) (fun _ _ => trivial) (by show 9 < sizeLine; decide) nD2 (fun x H27 Y N hx sm2 hy hn => ?_) (fun H27 sm2 eD2 => ?_)
      · obtain ⟨j, hj, rfl⟩ := List.mem_map.mp hx
        exact ⟨rfl, _, rfl, _, rfl, rfl, hy rfl H27 (Same.refl _)⟩
      · have em : (List.map (fun x => V.bl (decide (x = V.int (i : Nat)))) (List.filter (fun _ => true) ((List.range 9).map fun i : Nat => V.int (i : Int)))) = ((List.range 9).map fun j => decide (i = j)).map V.bl := by
          rw [filter_true, List.map_map, List.map_map]
          refine List.map_congr_left fun j _ => ?_
          show V.bl (decide (V.int (j : Int) = V.int (i : Nat))) = V.bl (decide (i = j))
          congr 1
          rw [decide_eq_decide]
          constructor
          · intro z
            injection z with z
            omega
          · intro z
            rw [z]
        rw [em] at eD2
        refine ⟨_, _, .lst (SqL.of (sm2 _ _ f3)) (dp_bls _), .lst (SqL.of eD2) (dp_bls _), shaped_bls _, shaped_bls _, _, rfl, ?_⟩
        rw [SeqAt.eqv_refl _ (SeqAt.canLay_of_shaped (shaped_bls _))]
        exact iteF ⟨⟨_, _, _, rfl⟩, s21.trans (u3.trans sm2)⟩
    · rintro σ H21 ⟨⟨y4, y5, y6, rfl⟩, sm⟩
      exact q _ (a1.to (s18.trans (s20.trans sm)))
end
end Ke


set_option Elab.async false
set_option linter.all false
set_option maxRecDepth 100000
/-! What the top of the program has left: each a fact of the fragment. -/
namespace Ke
open PySem PySem.Spec PyProof.Rows L2 Gd
/-- the __init__ of the i-th statement, a class -/
def initS (i : Nat) : Stmt := match topS i with
  | .ClassDef _ _ _ b _ _ _ _ _ _ _ => b.getD 0 (.Pass ⟨0, 0, 0, 0⟩)
  | s => s
/-- the def x of the text st -/
def FnK (K : PySem.W.Frag) (x : Str) (st : Stmt) : Prop := ∃ f fd, PySem.W.nsIn K mainGlobals x = some (some (.ref f)) ∧ Fun K x x st f fd
section
variable {K : PySem.W.Frag}
theorem fnK_mk {x : Str} {st : Stmt} {f : Addr} {oc : Value} {od an : Option Addr} {osl : Array (Option Value)} {kV doc pm cdv ct : Value} (a : PySem.W.nsIn K mainGlobals x = some (some (.ref f)))
    (l : K.lookup f = some ⟨oc, od, .func (PySem.W.fnOf x x (defArgs st) (defBody st) (defScope st) .none kV doc pm an cdv ct), osl⟩)
    (c : PySem.W.codeIn K cdv x = true) (k : PySem.W.keepIn K (.ref f) = true) : FnK K x st := ⟨f, _, a, fun_mk l c k⟩
/-- what isinstance and an attribute want of an own error -/
theorem excC_mk {C : Addr} (hg : PySem.W.findIn K (.ref C) "__getattribute__" = some (some (.builtin "BaseException.__getattribute__"))) (hk : PySem.W.findIn K (.ref C) "__getattr__" = some none) (hs : PySem.W.subIn K (.ref C) (.type "BaseException") = some true)
    (hd : PySem.W.hasDictIn K C = true) (ha : PySem.W.findIn K (.ref C) "__class__" = some (some (.builtin "object.__class__"))) (hn : PySem.W.specialIn K (.builtin "object.__class__") "__get__" = some (some (.builtin "getset_descriptor.__get__")))
    (ht : PySem.W.takesIn K (.builtin "object.__class__") = some true) (hm : PySem.W.mroIn K C (.type "object") = some true) : ExcC K C := ⟨hg, hk, hs, hd, ha, hn, ht, hm⟩
/-- an own error at C that keeps x -/
structure ErK (K : PySem.W.Frag) (x : Str) (C : Addr) (st : Stmt) : Prop where
  cls : ∃ nm q N bs bm sn sub ab col dd k0 k1 k2 k3 k5, K.lookup C = some (excClassObj nm q C N bs bm true sn sub ab col dd k0 k1 k2 k3 k5 "ValueError.__new__") ∧ PySem.HandSPX.refsVE bm = true
  sa : PySem.W.findIn K (.ref C) "__setattr__" = some (some (.builtin "object.__setattr__"))
  noN : PySem.W.findIn K (.ref C) x = some none
  kC : PySem.W.keepIn K (.ref C) = true
  fn : ∃ (fI : Addr) (qn : Str) (oc : Value) (od : Option Addr) (doc pm : Value) (an : Option Addr) (cdv ct : Value) (osl : Array (Option Value)), PySem.W.findIn K (.ref C) "__init__" = some (some (.ref fI)) ∧ PySem.W.typeIn K (.ref fI) = some (.type "function") ∧
    K.lookup fI = some ⟨oc, od, .func (PySem.W.fnOf "__init__" qn (defArgs st) (defBody st) (defScope st) .none .none doc pm an cdv ct), osl⟩ ∧ PySem.W.codeIn K cdv qn = true
theorem erK_mk {x : Str} {C E fI N : Addr} {st : Stmt} {nm q qn : Str} {bs : List Value} {sn : List Str} {sub : List Value} {ab : Bool} {col : Option Bool} {dd : Option Addr} {m0 m1 m2 m3 m5 : Option Value}
    {oc doc pm cdv ct : Value} {od an : Option Addr} {osl : Array (Option Value)}
    (xL : K.lookup C = some (excClassObj nm q C N bs [.ref E, .type "ValueError", .type "Exception", .type "BaseException", .type "object"] true sn sub ab col dd m0 m1 m2 m3 m5 "ValueError.__new__"))
    (sa : PySem.W.findIn K (.ref C) "__setattr__" = some (some (.builtin "object.__setattr__"))) (nb : PySem.W.findIn K (.ref C) x = some none) (kC : PySem.W.keepIn K (.ref C) = true)
    (a1 : PySem.W.findIn K (.ref C) "__init__" = some (some (.ref fI))) (t1 : PySem.W.typeIn K (.ref fI) = some (.type "function"))
    (l1 : K.lookup fI = some ⟨oc, od, .func (PySem.W.fnOf "__init__" qn (defArgs st) (defBody st) (defScope st) .none .none doc pm an cdv ct), osl⟩) (c1 : PySem.W.codeIn K cdv qn = true) : ErK K x C st :=
  ⟨⟨nm, q, N, bs, _, sn, sub, ab, col, dd, m0, m1, m2, m3, m5, xL, by
    show (PySem.HandSPX.veTail == PySem.HandSPX.veTail) = true
    decide +kernel⟩, sa, nb, kC, ⟨fI, qn, oc, od, doc, pm, an, cdv, ct, osl, a1, t1, l1, c1⟩⟩
theorem ErK.errF {c x : Str} {C : Addr} {st : Stmt} {mg : Str → Option Value} {p1 p2 q1 q2 q3 q4 : Pos} (h : ErK K x C st) (g : mg c = some (.ref C)) (e : ExcC K C) (h1 : defArgs st = iA x p1 p2) (h2 : defBody st = iB x q1 q2 q3 q4) (h3 : defScope st = iS x) : ∃ fI, ErrF K mg c x C fI := by
  obtain ⟨cls, sa, noN, kC, fI, qn, oc, od, doc, pm, an, cdv, ct, osl, a1, t1, l1, c1⟩ := h
  rw [h1, h2, h3] at l1
  exact ⟨fI, g, cls, sa, noN, a1, t1, kC, e, ⟨qn, oc, od, doc, pm, an, cdv, ct, osl, p1, p2, q1, q2, q3, q4, l1, c1⟩⟩
end
end Ke


set_option Elab.async false
set_option linter.all false
set_option maxRecDepth 100000
/-! The values that the law looks at. -/
namespace Ke
open PySem PySem.Spec PyProof.Rows L2 Gd
/-! ### lists of flat values that are alike -/
def FlS (x : V) : Prop := x = .non ∨ (∃ b, x = .bl b) ∨ ∃ z, x = .str z ∧ Asc 100 z
theorem FlS.rp {K : PySem.W.Frag} {H : Hp} {x : V} (h : FlS x) : Rp K H x (flatD x) := by
  rcases h with rfl | ⟨b, rfl⟩ | ⟨z, rfl, _⟩
  · exact .non
  · exact .bl b
  · exact .str z
theorem FlS.dp {K : PySem.W.Frag} {H : Hp} {x : V} (h : FlS x) : Dp K H x (flatD x) := by
  rcases h with rfl | ⟨b, rfl⟩ | ⟨z, rfl, _⟩
  · exact .non
  · exact .bl b
  · exact .str z
theorem FlS.lay {x : V} (h : FlS x) : PyData.canLay0 (flatD x) = true ∧ PyData.depth (flatD x) = 0 ∧ PyData.hasDict (flatD x) = false ∧ Sm (flatD x) := by
  rcases h with rfl | ⟨b, rfl⟩ | ⟨z, rfl, hz⟩
  · exact ⟨by simp only [flatD, PyData.canLay0], by simp only [flatD, PyData.depth], by simp only [flatD, PyData.hasDict], sm_non⟩
  · exact ⟨by simp only [flatD, PyData.canLay0], by simp only [flatD, PyData.depth], by simp only [flatD, PyData.hasDict], sm_bl b⟩
  · refine ⟨?_, by simp only [flatD, PyData.depth], by simp only [flatD, PyData.hasDict], sm_str hz (by decide)⟩
    have := lay_strs [z] fun y hy => by
      rw [List.mem_singleton.mp hy]
      exact hz.low
    simpa [PyData.canLayAll0, flatD] using this
theorem fl_all {K : PySem.W.Frag} {H : Hp} : ∀ {xs : List V}, (∀ x ∈ xs, FlS x) → RpAll K H xs (xs.map flatD) ∧ DpAll K H xs (xs.map flatD) ∧ PyData.canLayAll0 (xs.map flatD) = true ∧ PyData.depthAll (xs.map flatD) = 0
  | [], _ => ⟨.nil, .nil, by simp only [List.map_nil, PyData.canLayAll0], by simp only [List.map_nil, PyData.depthAll]⟩
  | x :: xs, h => by
    obtain ⟨h1, h2, h3, h4⟩ := fl_all (K := K) (H := H) fun y hy => h y (List.mem_cons_of_mem _ hy)
    have hx := h x List.mem_cons_self
    obtain ⟨g1, g2, _⟩ := hx.lay
    refine ⟨.cons hx.rp h1, .cons hx.dp h2, ?_, ?_⟩
    · rw [List.map_cons, PyData.canLayAll0, g1, h3]
      rfl
    · rw [List.map_cons, PyData.depthAll, g2, h4]
      rfl
theorem alike_fl {K : PySem.W.Frag} {xs : List V} (hx : ∀ x ∈ xs, FlS x) (hl : xs.length ≤ 100) {H : Hp} {p q : Addr} (hp : H p = some (.lst xs)) (hq : H q = some (.lst xs)) : ∃ d, Eqv K H (.ref p) (.ref q) d ∧ Rp K H (.ref p) d ∧ Rp K H (.ref q) d ∧ Fine d := by
  obtain ⟨h1, h2, h3, h4⟩ := fl_all (K := K) (H := H) hx
  refine ⟨.list (xs.map flatD), .inr (.inl ⟨.lst (SqL.of hp) h2, .lst (SqL.of hq) h2, ?_⟩), .lst (SqL.of hp) h1, .lst (SqL.of hq) h1, ?_⟩
  · unfold SeqAt.shaped
    rw [PyData.canLay0, h3, PyData.depth, h4]
    rfl
  · refine fine_of _ (.inl rfl) (fun e he => ?_) (by rw [List.length_map]; exact hl) (fun z => ?_)
    · obtain ⟨x, hx', rfl⟩ := List.mem_map.mp he
      exact (hx x hx').lay.2.2.2
    · rw [PyData.hasDict, noDict_all fun e he => by
        obtain ⟨x, hx', rfl⟩ := List.mem_map.mp he
        exact (hx x hx').lay.2.2.1] at z
      cases z
theorem fl_bl (b : Bool) : FlS (.bl b) := .inr (.inl ⟨b, rfl⟩)
theorem fl_srt (z : Str) : FlS (srt z) := by
  have lit : ∀ y : Str, ascB 100 y = true → FlS (.str y) := fun y h => .inr (.inr ⟨y, rfl, ascB_ok h⟩)
  unfold srt
  split
  · exact lit _ (by decide +kernel)
  split
  · exact lit _ (by decide +kernel)
  split
  · exact .inl rfl
  split
  · exact .inl rfl
  split
  · exact lit _ (by decide +kernel)
  split
  · exact lit _ (by decide +kernel)
  · exact .inl rfl
theorem fl_srV (v : V) : FlS (srV v) := by
  cases v with
  | str z => exact fl_srt z
  | _ => exact .inl rfl
/-! ### data that is asked -/
def strD : PyData → Bool
  | .str _ => true
  | _ => false
mutual
def flatL : PyData → Bool
  | .list xs => xs.all strD
  | .tuple xs => flatLA xs
  | .none => true | .bool _ => true | .int _ => true | .str _ => true | .dict _ => true
def flatLA : List PyData → Bool
  | [] => true
  | x :: xs => flatL x && flatLA xs
end
theorem flatLA_of : ∀ {ds : List PyData}, (∀ e ∈ ds, flatL e = true) → flatLA ds = true
  | [], _ => by simp only [flatLA]
  | x :: xs, h => by
    simp only [flatLA]
    rw [h x List.mem_cons_self, flatLA_of fun e he => h e (List.mem_cons_of_mem _ he)]
    rfl
theorem rp_strD {K : PySem.W.Frag} {H : Hp} : ∀ {vs : List V} {ds : List PyData}, RpAll K H vs ds → ds.all strD = true → ∀ v ∈ vs, ∃ z, v = .str z
  | _, _, .nil, _, _, h => nomatch h
  | _, _, .cons r t, q, v, h => by
    rw [List.all_cons, Bool.and_eq_true] at q
    rcases List.mem_cons.mp h with rfl | h
    · cases r with
      | str z => exact ⟨z, rfl⟩
      | _ => cases q.1
    · exact rp_strD t q.2 v h
section
variable {K : PySem.W.Frag} {H : Hp} {p a0 : Addr} {xs : List V} {o : HO}
mutual
theorem put_rp (hp : H p = some (.lst xs)) (hx : V.ref a0 ∈ xs) : ∀ {v : V} {d : PyData}, Rp K H v d → flatL d = true → Rp K (upd H p o) v d
  | _, _, .non, _ => .non
  | _, _, .bl b, _ => .bl b
  | _, _, .int i, _ => .int i
  | _, _, .str x, _ => .str x
  | _, _, .lst h r, n => by
    simp only [flatL] at n
    have n2 := rp_strD r n
    have q : RpAll K (upd H p o) _ _ := put_strs r n
    refine .lst ?_ q
    rcases h with (h | ⟨ob, h⟩) | h
    · refine SqL.of ?_
      rw [upd_ne, h]
      intro e
      rw [e, hp] at h
      cases h
      obtain ⟨z, e⟩ := n2 _ hx
      cases e
    · refine .inl (.inr ⟨ob, ?_⟩)
      rw [upd_ne, h]
      intro e
      rw [e, hp] at h
      cases h
    · exact .inr h
  | _, _, .tup h r, n => by
    simp only [flatL] at n
    refine .tup ?_ (put_rpA hp hx r n)
    rcases h with (h | ⟨ob, h⟩) | h
    · refine .inl (.inl ?_)
      rw [upd_ne, h]
      intro e
      rw [e, hp] at h
      cases h
    · refine .inl (.inr ⟨ob, ?_⟩)
      rw [upd_ne, h]
      intro e
      rw [e, hp] at h
      cases h
    · exact .inr h
  | _, _, .dct h f, _ => by
    refine .dct ?_ f
    rw [upd_ne, h]
    intro e
    rw [e, hp] at h
    cases h
theorem put_rpA (hp : H p = some (.lst xs)) (hx : V.ref a0 ∈ xs) : ∀ {vs : List V} {ds : List PyData}, RpAll K H vs ds → flatLA ds = true → RpAll K (upd H p o) vs ds
  | _, _, .nil, _ => .nil
  | _, _, .cons h r, n => by
    simp only [flatLA, Bool.and_eq_true] at n
    exact .cons (put_rp hp hx h n.1) (put_rpA hp hx r n.2)
theorem put_strs : ∀ {vs : List V} {ds : List PyData}, RpAll K H vs ds → ds.all strD = true → RpAll K (upd H p o) vs ds
  | _, _, .nil, _ => .nil
  | _, _, .cons h r, n => by
    rw [List.all_cons, Bool.and_eq_true] at n
    refine .cons ?_ (put_strs r n.2)
    cases h with
    | str z => exact .str z
    | _ => cases n.1
end
theorem off_upd {b : Addr} (n : p ≠ b) : off b (upd H p o) = upd (off b H) p o := by
  funext c
  by_cases e : c = b
  · subst e
    rw [upd_ne (Ne.symm n)]
    unfold off
    rw [if_pos rfl, if_pos rfl]
  · rw [off_ne e]
    by_cases e2 : c = p
    · rw [e2, upd_same, upd_same]
    · rw [upd_ne e2, upd_ne e2, off_ne e]
end
theorem bg_put {H : Hp} {b L p a0 : Addr} {xs : List V} {o : HO} (h : Bg H b L) (n : p ≠ b) (hp : H p = some (.lst xs)) (hx : V.ref a0 ∈ xs) : Bg (upd H p o) b L := by
  obtain ⟨i0, i1, i2, ns, e, h0, h1, h2, h3, f, g⟩ := h.ex
  have nL : L ≠ p := fun z => by
    rw [z, hp] at f
    cases f
    obtain ⟨_, _, z⟩ := List.mem_map.mp hx
    cases z
  exact ⟨i0, i1, i2, ns, by rw [upd_ne (Ne.symm n)]; exact e, h0, h1, h2, h3, by rw [upd_ne nL]; exact f, g⟩
theorem filter_none (xs : List V) (g : V → Bool) : (xs.filter fun x => !g x).isEmpty = xs.all g := by
  rw [Bool.eq_iff_iff, List.isEmpty_iff, List.filter_eq_nil_iff, List.all_eq_true]
  refine forall_congr' fun x => forall_congr' fun _ => ?_
  cases g x <;> simp
structure ThD (d : PyData) : Prop where
  fine : Fine d
  lists : flatL d = true
  str : ∀ z, d = .str z → Asc 130 z
  tup : ∀ ds, d = .tuple ds → ds.length ≤ 100 ∧ ∀ e ∈ ds, ∀ z, e = .str z → Asc 130 z
structure Th (K : PySem.W.Frag) (H : Hp) (v : V) : Prop where
  d : ∃ d, Rp K H v d ∧ Fine d
  tx : Tx K H v
  tup : (∃ xs, TupT K H v xs) ∨ IsA K H v "tuple" false
  i : ∃ r, IsA K H v "int" r
  b : ∃ r, IsA K H v "bool" r
theorem Th.same {K : PySem.W.Frag} {H H' : Hp} {v : V} (h : Th K H v) (e : Same H H') : Th K H' v := by
  obtain ⟨⟨d, h1, h2⟩, h3, h4, ⟨r, h5⟩, ⟨r', h6⟩⟩ := h
  refine ⟨⟨d, h1.same e, h2⟩, h3.same e, ?_, ⟨r, h5.same e⟩, ⟨r', h6.same e⟩⟩
  rcases h4 with ⟨xs, h⟩ | h
  · exact .inl ⟨xs, h.same e⟩
  · exact .inr (h.same e)
theorem tx_of {K : PySem.W.Frag} {H : Hp} {v : V} {d : PyData} (h : Rp K H v d) (hz : ∀ z, d = .str z → Asc 130 z) : Tx K H v := by
  cases d with
  | str z =>
    rw [rp_str_inv h]
    exact .inl ⟨z, rfl, (hz z rfl).mono (by decide)⟩
  | _ => exact .inr (is_of h (by simp only [nameD]; decide +kernel))
theorem txs_of {K : PySem.W.Frag} {H : Hp} : ∀ {vs : List V} {ds : List PyData}, RpAll K H vs ds → (∀ e ∈ ds, ∀ z, e = .str z → Asc 130 z) → ∀ v ∈ vs, Tx K H v
  | _, _, .nil, _, _, h => nomatch h
  | _, _, .cons r t, q, v, h => by
    rcases List.mem_cons.mp h with rfl | h
    · exact tx_of r (q _ List.mem_cons_self)
    · exact txs_of t (fun e he => q e (List.mem_cons_of_mem _ he)) v h
theorem th_of {K : PySem.W.Frag} {H : Hp} {v : V} {d : PyData} (h : Rp K H v d) (T : ThD d) : Th K H v := by
  refine ⟨⟨d, h, T.fine⟩, tx_of h T.str, ?_, ?_, ?_⟩
  · cases d with
    | tuple ds =>
      obtain ⟨a, vs, rfl, hs, hr⟩ := ev_tupInv h
      obtain ⟨h1, h2⟩ := T.tup ds rfl
      exact .inl ⟨vs, ⟨a, rfl, hs⟩, by rw [len_rp hr]; omega, txs_of hr h2⟩
    | _ => exact .inr (is_of h (by simp only [nameD]; decide +kernel))
  · cases d with
    | int i => exact ⟨true, is_of h (by simp only [nameD]; decide +kernel)⟩
    | bool i => exact ⟨true, is_of h (by simp only [nameD]; decide +kernel)⟩
    | _ => exact ⟨false, is_of h (by simp only [nameD]; decide +kernel)⟩
  · cases d with
    | bool i => exact ⟨true, is_of h (by simp only [nameD]; decide +kernel)⟩
    | _ => exact ⟨false, is_of h (by simp only [nameD]; decide +kernel)⟩
def sB (d : PyData) : Bool := match d with
  | .str z => ascB 130 z
  | _ => true
theorem sB_ok {d : PyData} (h : sB d = true) : ∀ z, d = .str z → Asc 130 z := fun z e => by
  subst e
  exact ascB_ok h
def thB (d : PyData) : Bool := flatL d && (sB d && match d with
  | .tuple ds => decide (ds.length ≤ 100) && ds.all sB
  | _ => true)
theorem odds_th : odds.all thB = true := by decide +kernel
theorem thd_odd {d : PyData} (h : d ∈ odds) : ThD d := by
  have q := List.all_eq_true.mp odds_th d h
  unfold thB at q
  rw [Bool.and_eq_true, Bool.and_eq_true] at q
  refine ⟨fine_odd h, q.1, sB_ok q.2.1, fun ds e => ?_⟩
  subst e
  have q2 := q.2.2
  simp only [Bool.and_eq_true, decide_eq_true_eq, List.all_eq_true] at q2
  exact ⟨q2.1, fun e he => sB_ok (q2.2 e he)⟩
theorem thd_str {z : Str} (h : Asc 130 z) : ThD (.str z) :=
  ⟨(sm_str h (by decide)).fine (by intro q; simp only [PyData.hasDict] at q; cases q), by simp only [flatL], fun y e => by cases e; exact h, fun ds e => by cases e⟩
theorem all_strs (ss : List Str) : (ss.map PyData.str).all strD = true := by
  rw [List.all_eq_true]
  intro e he
  obtain ⟨y, _, rfl⟩ := List.mem_map.mp he
  rfl
theorem thd_lst {ss : List Str} (h : ∀ y ∈ ss, Asc 130 y) (hl : ss.length ≤ 20) : ThD (.list (ss.map PyData.str)) := by
  refine ⟨fine_of _ (.inl rfl) (fun e he => ?_) (by rw [List.length_map]; omega) (fun z => ?_), by simp only [flatL]; exact all_strs ss, fun z e => (by cases e), fun ds e => by cases e⟩
  · obtain ⟨y, hy, rfl⟩ := List.mem_map.mp he
    exact sm_str (h y hy) (by decide)
  · rw [PyData.hasDict, noDict_all fun e he => by
      obtain ⟨y, hy, rfl⟩ := List.mem_map.mp he
      simp only [PyData.hasDict]] at z
    cases z
theorem thd_be {d : PyData} (h : BeD d) : ThD d := by
  rcases h with h | ⟨ds, e0, rfl, hl, h0, he⟩ | ⟨ss, rfl, hl, hs⟩
  · exact thd_odd h
  · have t0 := thd_odd h0
    have o0 := odd_of h0
    refine ⟨fine_of _ (.inr rfl) (fun e hm => ?_) (by omega) (fun z => ?_), ?_, fun z e => (by cases e), fun ds' e => ?_⟩
    · rcases he e hm with rfl | ⟨y, rfl, hy⟩
      · exact o0.1
      · exact sm_str hy (by decide)
    · simp only [hasList]
      by_cases hd : e0.hasDict = true
      · refine noList_all fun e hm => ?_
        rcases he e hm with rfl | ⟨y, rfl, hy⟩
        · exact o0.2.1 hd
        · simp only [hasList]
      · exfalso
        rw [PyData.hasDict, noDict_all fun e hm => by
          rcases he e hm with rfl | ⟨y, rfl, hy⟩
          · simpa using hd
          · simp only [PyData.hasDict]] at z
        cases z
    · simp only [flatL]
      refine flatLA_of fun e hm => ?_
      rcases he e hm with rfl | ⟨y, rfl, hy⟩
      · exact t0.lists
      · simp only [flatL]
    · cases e
      refine ⟨by omega, fun e hm z ez => ?_⟩
      rcases he e hm with rfl | ⟨y, rfl, hy⟩
      · exact t0.str z ez
      · cases ez
        exact hy
  · exact thd_lst hs hl
theorem thd_tup {ss : List Str} (h : ∀ y ∈ ss, Asc 130 y) (hl : ss.length ≤ 20) : ThD (.tuple (ss.map PyData.str)) := by
  refine thd_be (.inr (.inl ⟨_, .none, rfl, by rw [List.length_map]; exact hl, List.mem_cons_self, fun e he => ?_⟩))
  obtain ⟨y, hy, rfl⟩ := List.mem_map.mp he
  exact .inr ⟨y, rfl, h y hy⟩
end Ke


set_option Elab.async false
set_option linter.all false
set_option maxRecDepth 100000
namespace Ke
open PySem PySem.Spec PyProof.Rows L2 Gd
open C8 (tCut pss_cut)
abbrev sLaw : Stmt := topS 46
abbrev nLaw : List Str := ["script", "bag", "thing", "told", "many", "turn", "words", "things", "said", "sort", "is_all", "due", "one"]
theorem scLaw : FnScope nLaw ["script"] (defScope sLaw) := ⟨rfl, rfl, rfl, by decide +kernel, rfl, by decide +kernel, by decide +kernel⟩
/-- an own error is of none of these -/
structure NoT (K : PySem.W.Frag) (C : Addr) : Prop where
  s : PySem.W.kitOne K (.ref C) (.type "str") = some false
  i : PySem.W.kitOne K (.ref C) (.type "int") = some false
  b : PySem.W.kitOne K (.ref C) (.type "bool") = some false
  t : PySem.W.kitOne K (.ref C) (.type "tuple") = some false
/-- where a def stands -/
structure At (K : PySem.W.Frag) (mg : Str → Option Value) (x : Str) (ps : List Str) (f : Addr) (fd : FuncData) : Prop where
  k : PySem.W.keepIn K (.ref f) = true
  b : Binds K fd ps []
  g : mg x = some (.ref f)
section
variable {P : Program} {w : World} {K : PySem.W.Frag} {mg : Str → Option Value} {base : Heap}
def spLaw (K : PySem.W.Frag) : Sp := fun vs H Q _ => ∃ (a : Addr) (ns : List Int), vs = [.ref a] ∧ SqL K H a (ns.map V.int) ∧ ns.length ≤ 63 ∧ ∀ H', Q (.bl true) H'
theorem ok_law {k : Nat} {f : Addr} {fd : FuncData} {E C0 C1 C2 C3 C4 C5 C6 C7 C8 : Addr} {fBag fErr fSort fRow fInt fName fKind fLot fAl fW fSome fOdd fBent fLs fLw fLi fLn fLk fLl : Addr} {dBag dErr dSort dRow dInt dName dKind dLot dAl dW dSome dOdd dBent dLs dLw dLi dLn dLk dLl : FuncData}
    (F : Fun K "law" "law" sLaw f fd) (B : Bi mg) (T : Er K mg E C0 C1 C2 C3 C4 C5 C6 C7 C8) (n6 : NoT K C6) (n7 : NoT K C7)
    (GBag : FnOk P w K mg base CX0 k fBag dBag ["script"] (spBag K)) (ABag : At K mg "_law_bag" ["script"] fBag dBag)
    (GErr : FnG P w K mg base k fErr dErr ["bag"] spErrs) (AErr : At K mg "_law_are_errors_right" ["bag"] fErr dErr)
    (GSort : FnOk P w K mg base CX0 k fSort dSort ["thing"] (spSrt K)) (ASort : At K mg "sort_of_word" ["thing"] fSort dSort)
    (GRow : FnOk P w K mg base CX0 k fRow dRow ["thing"] (spTup K fun xs => xs.all isWordV)) (ARow : At K mg "is_row" ["thing"] fRow dRow)
    (GInt : FnOk P w K mg base CX0 k fInt dInt ["thing"] (spInt K)) (AInt : At K mg "is_integer" ["thing"] fInt dInt)
    (GName : FnOk P w K mg base CX0 k fName dName ["thing"] (spV K isNameV)) (AName : At K mg "is_name" ["thing"] fName dName)
    (GKind : FnOk P w K mg base CX0 k fKind dKind ["thing"] (spV K isKindV)) (AKind : At K mg "is_kind" ["thing"] fKind dKind)
    (GLot : FnOk P w K mg base CX0 k fLot dLot ["thing"] (spTup K lotB)) (ALot : At K mg "is_lot" ["thing"] fLot dLot)
    (GAl : FnG P w K mg base k fAl dAl ["found", "due"] (spAlike K)) (AAl : At K mg "_law_alike" ["found", "due"] fAl dAl)
    (GW : FnOk P w K mg base CX0 k fW dW ["bag"] spWord) (AW : At K mg "_law_some_word" ["bag"] fW dW)
    (GSome : FnOk P w K mg base CX0 k fSome dSome ["bag", "things"] (spSome K)) (ASome : At K mg "_law_some" ["bag", "things"] fSome dSome)
    (GOdd : FnOk P w K mg base CX0 k fOdd dOdd ["bag"] (spOdd K)) (AOdd : At K mg "_law_odd" ["bag"] fOdd dOdd)
    (GBent : FnOk P w K mg base CX0 k fBent dBent ["bag", "thing", "deep"] (spBentT K)) (ABent : At K mg "_law_bent" ["bag", "thing", "deep"] fBent dBent)
    (GLs : FnOk P w K mg base CX0 k fLs dLs ["word"] spSortL) (ALs : At K mg "_law_sort" ["word"] fLs dLs)
    (GLw : FnOk P w K mg base CX0 k fLw dLw ["thing"] (spV K isWordV)) (ALw : At K mg "_law_is_word" ["thing"] fLw dLw)
    (GLi : FnOk P w K mg base CX0 k fLi dLi ["thing"] (spInt K)) (ALi : At K mg "_law_is_int" ["thing"] fLi dLi)
    (GLn : FnOk P w K mg base CX0 k fLn dLn ["thing"] (spV K isNameV)) (ALn : At K mg "_law_is_name" ["thing"] fLn dLn)
    (GLk : FnOk P w K mg base CX0 k fLk dLk ["thing"] (spV K isKindV)) (ALk : At K mg "_law_is_kind" ["thing"] fLk dLk)
    (GLl : FnOk P w K mg base CX0 k fLl dLl ["thing"] (spTup K lotB)) (ALl : At K mg "_law_is_lot" ["thing"] fLl dLl) :
    FnG P w K mg base (k + 1) f fd ["script"] (spLaw K) := by
  refine okG F scLaw (fun vs H Q E h => ?_) (fun cdv A outer s H vs Q E' hg hr h => ?_)
  · obtain ⟨a, ns, rfl, _⟩ := h
    rfl
  · obtain ⟨a, ns, rfl, hS, hlen, q⟩ := h
    have nd := scLaw.nd
    obtain ⟨i6, T6⟩ := T.f6
    refine ⟨_, (pss_cons (ps_set (i := 1) nd rfl (.inr rfl) (pe_call GBag hr (by rfl) ABag.g ABag.k ABag.b .nil pass0 (pa_cons (pv 0) pa_nil)))
      (pss_cons (ps_if (pt_not (pt_val (pe_callG GErr hg hr (by rfl) AErr.g AErr.k AErr.b (pa_cons (pv 1) pa_nil)))) (pss_one (ps_ret pe_bl)) pss_nil)
      (pss_cut (ps_for PassesOwn.never rfl (pi_tup (pe_tup (pa_cons (pe_errF T6 (.inl rfl) hr pe_int) (pa_cons (pe_err0 PySem.F.excBase_ValueError T.x7 T.g7 T.k7) pa_nil)))) (pg_name (i := 2) nd rfl (.inl rfl)) (pss_cons (ps_set (i := 3) nd rfl (.inl rfl) (pe_lst (pa_cons (pe_call GSort hr (by rfl) ASort.g ASort.k ASort.b .nil pass0 (pa_cons (pv 2) pa_nil)) (pa_cons (pe_call GRow hr (by rfl) ARow.g ARow.k ARow.b .nil pass0 (pa_cons (pv 2) pa_nil)) (pa_cons (pe_call GInt hr (by rfl) AInt.g AInt.k AInt.b .nil pass0 (pa_cons (pv 2) pa_nil)) (pa_cons (pe_call GName hr (by rfl) AName.g AName.k AName.b .nil pass0 (pa_cons (pv 2) pa_nil)) (pa_cons (pe_call GKind hr (by rfl) AKind.g AKind.k AKind.b .nil pass0 (pa_cons (pv 2) pa_nil)) pa_nil)))))))
      (pss_one (ps_if (pt_not (pt_val (pe_callG GAl hg hr (by rfl) AAl.g AAl.k AAl.b (pa_cons (pe_op op_cat (pv 3) (pe_lst (pa_cons (pe_call GLot hr (by rfl) ALot.g ALot.k ALot.b .nil pass0 (pa_cons (pv 2) pa_nil)) pa_nil))) (pa_cons (pe_op op_cat (pe_lst (pa_cons pe_non pa_nil)) (pe_op op_rep (pe_lst (pa_cons pe_bl pa_nil)) pe_int)) pa_nil))))) (pss_one (ps_ret pe_bl)) pss_nil))))
      (pss_cut (ps_set (i := 4) nd rfl (.inl rfl) (pe_op op_repT (pe_tup (pa_cons pe_str pa_nil)) pe_int))
      (pss_cut (ps_if (pt_not (pt_val (pe_callG GAl hg hr (by rfl) AAl.g AAl.k AAl.b (pa_cons (pe_lst (pa_cons (pe_call GRow hr (by rfl) ARow.g ARow.k ARow.b .nil pass0 (pa_cons (pv 4) pa_nil)) (pa_cons (pe_call GRow hr (by rfl) ARow.g ARow.k ARow.b .nil pass0 (pa_cons (pe_op op_catA (pv 4) (pe_tup (pa_cons pe_str pa_nil))) pa_nil)) pa_nil))) (pa_cons (pe_lst (pa_cons pe_bl (pa_cons pe_bl pa_nil))) pa_nil))))) (pss_one (ps_ret pe_bl)) pss_nil)
      (pss_cons (ps_for PassesOwn.never rfl (pi_range1 (by rfl) B.range (pa_cons pe_int pa_nil)) (pg_name (i := 5) nd rfl (.inl rfl)) (pss_cut (ps_setLc (i := 6) (own := [("one", 12)]) (g := gName 12) (tt := tYes) (by rfl) nd rfl rfl (sw_true rfl rfl rfl (by decide +kernel)) (pi_range1 (by rfl) B.range (pa_cons (pe_call GSome hr (by rfl) ASome.g ASome.k ASome.b .nil pass0 (pa_cons (pv 1) (pa_cons (pe_lst (pa_cons pe_int (pa_cons pe_int (pa_cons pe_int (pa_cons pe_int pa_nil))))) pa_nil))) pa_nil)) (blkOk_by (own := [("one", 12)]) (N := nLaw) (sc := defScope sLaw) (by decide +kernel)) (fun _ _ _ _ _ => pg_name (i := 12) nd rfl (Or.inl rfl)) (fun _ _ _ _ _ => pts_nil) (fun _ _ _ _ _ => pe_call GW hr (by rfl) AW.g AW.k AW.b .nil pass0 (pa_cons (pv 1) pa_nil)))
      (pss_cut (ps_set (i := 6) nd rfl (.inl rfl) (pe_op op_cat (pv 6) (pe_call GSome hr (by rfl) ASome.g ASome.k ASome.b .nil pass0 (pa_cons (pv 1) (pa_cons (pe_lst (pa_cons (pe_lst pa_nil) (pa_cons (pe_lst pa_nil) (pa_cons (pe_lst (pa_cons pe_str pa_nil)) (pa_cons (pe_lst (pa_cons pe_str pa_nil)) pa_nil))))) pa_nil)))))
      (pss_cut (ps_set (i := 7) nd rfl (.inl rfl) (pe_lst (pa_cons (pe_call GOdd hr (by rfl) AOdd.g AOdd.k AOdd.b .nil pass0 (pa_cons (pv 1) pa_nil)) (pa_cons (pe_call GSome hr (by rfl) ASome.g ASome.k ASome.b .nil pass0 (pa_cons (pv 1) (pa_cons (pe_op op_cat (pv 6) (pe_lst (pa_cons pe_str pa_nil))) pa_nil))) (pa_cons (pe_callTy call_tuple_of (by rfl) B.tuple PyProof.Rows.boot_tuple (pa_cons (pv 6) pa_nil)) (pa_cons (pv 6) pa_nil))))))
      (pss_cut (ps_expr (pe_bm PySem.F.plainAttrs_list PySem.F.slot_list_append PySem.F.type_list_append mt_append (pv 7) (pa_cons (pe_call GBent hr (by rfl) ABent.g ABent.k ABent.b .nil pass0 (pa_cons (pv 1) (pa_cons (pe_callTy call_tuple_of (by rfl) B.tuple PyProof.Rows.boot_tuple (pa_cons (pv 6) pa_nil)) (pa_cons pe_int pa_nil)))) pa_nil)))
      (pss_one (ps_for PassesOwn.never rfl (pi_list (pv 7)) (pg_name (i := 2) nd rfl (.inl rfl)) (pss_cons (ps_set (i := 8) nd rfl (.inl rfl) (pe_callB (call_reprA hg hr.units) (by rfl) B.repr PyProof.Rows.boot_repr (pa_cons (pv 2) pa_nil)))
      (pss_cut (ps_set (i := 9) nd rfl (.inl rfl) (pe_ifExp (pt_val (pe_callB call_isE2 (by rfl) B.isi PyProof.Rows.boot_isinstance (pa_cons (pv 2) (pa_cons (pe_bltn (v := .ty "str") (by rfl) B.str PyProof.Rows.boot_str rfl) pa_nil)))) (pe_call GLs hr (by rfl) ALs.g ALs.k ALs.b .nil pass0 (pa_cons (pv 2) pa_nil)) pe_non))
      (pss_cut (ps_set (i := 10) nd rfl (.inl rfl) (pe_and (pe_callB call_isE2 (by rfl) B.isi PyProof.Rows.boot_isinstance (pa_cons (pv 2) (pa_cons (pe_bltn (v := .ty "tuple") (by rfl) B.tuple PyProof.Rows.boot_tuple rfl) pa_nil))) (pe_one (pe_cmpR (op_eqNil hr.units0) (pe_lc (own := [("one", 12)]) (g := gName 12) (by rfl) nd (pi_tup (pv 2)) (blkOk_by (own := [("one", 12)]) (N := nLaw) (sc := defScope sLaw) (by decide +kernel)) (fun _ _ _ _ _ => pg_name (i := 12) nd rfl (Or.inl rfl)) (fun _ _ _ _ _ => pts_one (pt_not (pt_val (pe_call GLw hr (by rfl) ALw.g ALw.k ALw.b .nil pass0 (pa_cons (pv 12) pa_nil))))) (fun _ _ _ _ _ => pv 12)) (pe_lst pa_nil) (nomark _)))))
      (pss_cut (ps_set (i := 3) nd rfl (.inl rfl) (pe_lst (pa_cons (pe_call GSort hr (by rfl) ASort.g ASort.k ASort.b .nil pass0 (pa_cons (pv 2) pa_nil)) (pa_cons (pe_call GRow hr (by rfl) ARow.g ARow.k ARow.b .nil pass0 (pa_cons (pv 2) pa_nil)) (pa_cons (pe_call GInt hr (by rfl) AInt.g AInt.k AInt.b .nil pass0 (pa_cons (pv 2) pa_nil)) pa_nil)))))
      (pss_cut (ps_set (i := 3) nd rfl (.inl rfl) (pe_op op_cat (pv 3) (pe_lst (pa_cons (pe_call GName hr (by rfl) AName.g AName.k AName.b .nil pass0 (pa_cons (pv 2) pa_nil)) (pa_cons (pe_call GKind hr (by rfl) AKind.g AKind.k AKind.b .nil pass0 (pa_cons (pv 2) pa_nil)) (pa_cons (pe_call GLot hr (by rfl) ALot.g ALot.k ALot.b .nil pass0 (pa_cons (pv 2) pa_nil)) pa_nil))))))
      (pss_cut (ps_set (i := 11) nd rfl (.inl rfl) (pe_lst (pa_cons (pv 9) (pa_cons (pv 10) (pa_cons (pe_call GLi hr (by rfl) ALi.g ALi.k ALi.b .nil pass0 (pa_cons (pv 2) pa_nil)) (pa_cons (pe_call GLn hr (by rfl) ALn.g ALn.k ALn.b .nil pass0 (pa_cons (pv 2) pa_nil)) (pa_cons (pe_call GLk hr (by rfl) ALk.g ALk.k ALk.b .nil pass0 (pa_cons (pv 2) pa_nil)) (pa_cons (pe_call GLl hr (by rfl) ALl.g ALl.k ALl.b .nil pass0 (pa_cons (pv 2) pa_nil)) pa_nil))))))))
      (pss_one (ps_if (PW.pt (pw_or (pt_not (pt_val (pe_callG GAl hg hr (by rfl) AAl.g AAl.k AAl.b (pa_cons (pv 3) (pa_cons (pv 11) pa_nil))))) (pw_or1 (pt_cmpR op_ne (pe_callB (call_reprA hg hr.units) (by rfl) B.repr PyProof.Rows.boot_repr (pa_cons (pv 2) pa_nil)) (pv 8) (nomark _))))) (pss_one (ps_ret pe_bl)) pss_nil)))))))))))))))
      (pss_one (ps_ret pe_bl)))))))), ?_⟩
    -- the bag
    refine seq_set ?_
    refine ⟨.ref a, rfl, a, ns, rfl, hS, hlen, fun H1 b L s1 nb hB1 => ?_⟩
    -- the errors
    refine ⟨.ref b, rfl, b, L, rfl, hB1, fun H2 a2 => ⟨_, rfl, iteF ?_⟩⟩
    have hB2 := a2.bg
    refine next_go ?_
    refine ⟨fun σ H' => (∃ (y2 y3 : Option V), σ = [some (.ref a), some (.ref b), y2, y3, none, none, none, none, none, none, none, none, none]) ∧ Bg H' b L, ?_, ?_⟩
    · refine fun p6 d6 nd6 np6 ne6 => ?_
      obtain ⟨s3, x6⟩ := mk_er (C := C6) (x := "place") (v := .int 0) nd6 np6 ne6
      generalize upd (upd _ d6 (.xd [("place", .int 0)])) p6 (ExV p6 C6 (some d6)) = H3 at s3 x6 ⊢
      refine fun p7 np7 => ?_
      obtain ⟨s4, x7⟩ := mk_e0 (C := C7) T.e7 np7
      generalize upd _ p7 (ExV p7 C7 none) = H4 at s4 x7 ⊢
      refine ⟨by show 2 ≤ sizeLine; decide, fun pt nt => ?_⟩
      have s5 := same_new (o := .tup [.ref p6, .ref p7]) nt
      have e5 : (upd H4 pt (.tup [.ref p6, .ref p7])) pt = some (.tup [.ref p6, .ref p7]) := upd_same
      generalize upd H4 pt (.tup [.ref p6, .ref p7]) = H5 at s5 e5 ⊢
      have sq : SqT K H5 pt [.ref p6, .ref p7] := .inl (.inl e5)
      have hth : ∀ x ∈ [V.ref p6, .ref p7], ∃ C, NoT K C ∧ ExAt K H5 x C ∧ ∃ r, x = .ref r := by
        intro x hx
        rcases List.mem_cons.mp hx with rfl | hx
        · exact ⟨C6, n6, ((x6.same s4).same s5).at_ T6.ex, _, rfl⟩
        · rcases List.mem_cons.mp hx with rfl | hx
          · exact ⟨C7, n7, x7.same s5, _, rfl⟩
          · cases hx
      have hB5 := ((hB2.same s3).same s4).same s5
      refine ⟨pt, rfl, ⟨_, sq⟩, ?_⟩
      refine for_it walk_tup (fun i σ H' => (∃ (y2 y3 : Option V), σ = [some (.ref a), some (.ref b), y2, y3, none, none, none, none, none, none, none, none, none]) ∧ Same H5 H') ⟨⟨none, none, rfl⟩, Same.refl _⟩ (fun i σ H' _ h => seqT_same h.2 sq) ?_ ?_
      · rintro i x σ H6 H7 hi ⟨⟨y2, y3, rfl⟩, sm⟩ ⟨rfl, hx⟩
        obtain ⟨C, nC, hE, r, rfl⟩ := hth x (List.mem_of_getElem? hx)
        have nis : ∀ {T : String}, PySem.W.kitOne K (.ref C) (.type T) = some false → ∀ H', Same H5 H' → IsA K H' (.ref r) T false := fun k H' s => ⟨_, .inr ⟨C, rfl, hE.same s⟩, k⟩
        refine ⟨.ref r, rfl, .ref r, rfl, .inr (nis nC.s _ sm), fun H8 s8 => ?_⟩
        replace s8 := sm.trans s8
        refine ⟨.ref r, rfl, .ref r, false, rfl, .inr ⟨nis nC.t _ s8, rfl⟩, fun H9 s9 => ?_⟩
        replace s9 := s8.trans s9
        refine ⟨.ref r, rfl, .ref r, false, false, rfl, nis nC.i _ s9, nis nC.b _ s9, ?_⟩
        refine ⟨.ref r, rfl, .ref r, rfl, .inr (nis nC.s _ s9), fun H10 s10 => ?_⟩
        replace s10 := s9.trans s10
        refine ⟨.ref r, rfl, .ref r, rfl, .inr (nis nC.s _ s10), fun H11 s11 => ?_⟩
        replace s11 := s10.trans s11
        refine ⟨by show 5 ≤ sizeLine; decide, fun t1 nt1 => ?_⟩
        have u1 := same_new (o := .lst [srV (.ref r), .bl false, .bl (false && !false), .bl (isNameV (.ref r)), .bl (isKindV (.ref r))]) nt1
        have f1 : (upd H11 t1 (.lst [srV (.ref r), .bl false, .bl (false && !false), .bl (isNameV (.ref r)), .bl (isKindV (.ref r))])) t1 = some (.lst [srV (.ref r), .bl false, .bl (false && !false), .bl (isNameV (.ref r)), .bl (isKindV (.ref r))]) := upd_same
        refine ⟨_, rfl, .ref r, rfl, .ref r, false, rfl, .inr ⟨nis nC.t _ (s11.trans u1), rfl⟩, fun H12 s12 => ?_⟩
        refine ⟨by show 1 ≤ sizeLine; decide, fun t2 nt2 => ?_⟩
        have u2 := same_new (o := .lst [.bl false]) nt2
        refine ⟨t1, t2, _, _, rfl, rfl, u2 _ _ (s12 _ _ f1), upd_same, by show 6 ≤ sizeLine; decide, fun t3 nt3 => ?_⟩
        have u3 := u2.trans (same_new (o := .lst ([srV (.ref r), .bl false, .bl (false && !false), .bl (isNameV (.ref r)), .bl (isKindV (.ref r))] ++ [.bl false])) nt3)
        have f3 : (upd (upd H12 t2 (.lst [.bl false])) t3 (.lst ([srV (.ref r), .bl false, .bl (false && !false), .bl (isNameV (.ref r)), .bl (isKindV (.ref r))] ++ [.bl false]))) t3 = some (.lst [.non, .bl false, .bl false, .bl false, .bl false, .bl false]) := upd_same
        have s13 := (s11.trans u1).trans (s12.trans u3)
        generalize upd (upd H12 t2 (.lst [.bl false])) t3 (.lst ([srV (.ref r), .bl false, .bl (false && !false), .bl (isNameV (.ref r)), .bl (isKindV (.ref r))] ++ [.bl false])) = H13 at f3 s13 ⊢
        refine ⟨by show 1 ≤ sizeLine; decide, fun t4 nt4 => ?_⟩
        refine ⟨by show 1 ≤ sizeLine; decide, fun t5 nt5 => ?_⟩
        have v4 := same_new (o := .lst [V.non]) nt4
        have v5 := same_new (o := .lst [V.bl false]) nt5
        refine ⟨t5, 5, [.bl false], rfl, rfl, upd_same, by decide, by decide, by show 5 ≤ sizeLine; decide, fun t6 nt6 => ?_⟩
        have v6 := same_new (o := .lst (List.replicate (5 : Int).toNat [V.bl false]).flatten) nt6
        refine ⟨t4, t6, _, _, rfl, rfl, v6 _ _ (v5 _ _ upd_same), upd_same, by show 6 ≤ sizeLine; decide, fun t7 nt7 => ?_⟩
        have v7 := same_new (o := .lst ([V.non] ++ (List.replicate (5 : Int).toNat [V.bl false]).flatten)) nt7
        obtain ⟨d, d1, d2, d3, d4⟩ := alike_fl (K := K) (xs := [.non, .bl false, .bl false, .bl false, .bl false, .bl false]) (fun y hy => by
          simp only [List.mem_cons, List.not_mem_nil, or_false] at hy
          rcases hy with rfl | rfl | rfl | rfl | rfl | rfl
          · exact .inl rfl
          all_goals exact fl_bl _) (by decide) (v7 _ _ (v6 _ _ (v5 _ _ (v4 _ _ f3)))) (q := t7) upd_same
        exact ⟨.ref t3, .ref t7, d, rfl, d1, d2, d3, d4, _, rfl, iteF ⟨⟨_, _, rfl⟩, s13.trans (v4.trans (v5.trans (v6.trans v7)))⟩⟩
      · rintro σ H6 ⟨⟨y2, y3, rfl⟩, sm⟩
        exact ⟨⟨_, _, rfl⟩, hB5.same sm⟩
    -- many
    rintro σ H3 ⟨⟨y2, y3, rfl⟩, hB3⟩
    refine ⟨fun σ H' => (∃ (y2 y3 : Option V) (m : Addr), σ = [some (.ref a), some (.ref b), y2, y3, some (.ref m), none, none, none, none, none, none, none, none] ∧ SqT K H' m (List.replicate 401 (V.str "a"))) ∧ Bg H' b L, ?_, ?_⟩
    · refine ⟨by show 1 ≤ sizeLine; decide, fun t1 nt1 => ?_⟩
      have u1 := same_new (o := .tup [V.str "a"]) nt1
      refine ⟨t1, 401, [.str "a"], rfl, rfl, .inl (.inl upd_same), List.cons_ne_nil _ _, by decide, by decide, by decide, fun m nm => ?_⟩
      have u2 := same_new (o := .tup (List.replicate (401 : Int).toNat [V.str "a"]).flatten) nm
      exact ⟨⟨_, _, _, rfl, .inl (.inl upd_same)⟩, (hB3.same u1).same u2⟩
    rintro σ H4 ⟨⟨y2, y3, m, rfl, hm⟩, hB4⟩
    refine ⟨fun σ H' => (∃ (y2 y3 : Option V), σ = [some (.ref a), some (.ref b), y2, y3, some (.ref m), none, none, none, none, none, none, none, none]) ∧ Bg H' b L, ?_, ?_⟩
    · have hx1 : ∀ x ∈ List.replicate 401 (V.str "a"), x = .str "a" := fun x hx => List.eq_of_mem_replicate hx
      have hx2 : (List.replicate 401 (V.str "a")).length = 401 := List.length_replicate
      have hx3 : (List.replicate 401 (V.str "a")).all isWordV = true := by
        rw [List.all_eq_true]
        intro x hx
        rw [hx1 x hx]
        decide +kernel
      generalize List.replicate 401 (V.str "a") = xs at hm hx1 hx2 hx3
      have hne : xs ≠ [] := fun e => by
        rw [e] at hx2
        cases hx2
      have txa : ∀ H', Tx K H' (.str "a") := fun H' => .inl ⟨"a", rfl, ascB_ok (by decide +kernel)⟩
      have txA : ∀ H', Tx K H' (.str "A") := fun H' => .inl ⟨"A", rfl, ascB_ok (by decide +kernel)⟩
      refine ⟨.ref m, rfl, .ref m, true, rfl, .inl ⟨xs, ⟨⟨m, rfl, hm⟩, by omega, fun x hx => by rw [hx1 x hx]; exact txa _⟩, hx3.symm⟩, fun H5 s5 => ?_⟩
      refine ⟨.ref m, rfl, by show 1 ≤ sizeLine; decide, fun t1 nt1 => ?_⟩
      have u1 := s5.trans (same_new (o := .tup [V.str "A"]) nt1)
      refine ⟨m, t1, xs, [.str "A"], rfl, rfl, seqT_same u1 hm, .inl (.inl upd_same), ?_, fun e => (hne e).elim, (fun _ e => nomatch e), fun _ _ p np => ?_⟩
      · rw [hx2]
        show 402 ≤ sizeLine
        decide
      have u2 := u1.trans (same_new (o := .tup (xs ++ [V.str "A"])) np)
      refine ⟨.ref p, false, rfl, .inl ⟨xs ++ [.str "A"], ⟨⟨p, rfl, .inl (.inl upd_same)⟩, ?_, fun x hx => ?_⟩, ?_⟩, fun H6 s6 => ?_⟩
      · rw [List.length_append, hx2]
        show 402 ≤ 1000
        decide
      · rcases List.mem_append.mp hx with hx | hx
        · rw [hx1 x hx]
          exact txa _
        · rw [List.mem_singleton.mp hx]
          exact txA _
      · show false = (xs ++ [V.str "A"]).all isWordV
        rw [List.all_append, hx3]
        show false = (true && ([V.str "A"].all isWordV))
        decide +kernel
      refine ⟨by show 2 ≤ sizeLine; decide, fun q1 nq1 => ⟨by show 2 ≤ sizeLine; decide, fun q2 nq2 => ?_⟩⟩
      have v1 := same_new (o := .lst [V.bl true, .bl false]) nq1
      have v2 := same_new (o := .lst [V.bl true, .bl false]) nq2
      obtain ⟨d, d1, d2, d3, d4⟩ := alike_fl (K := K) (xs := [.bl true, .bl false]) (fun y hy => by
        simp only [List.mem_cons, List.not_mem_nil, or_false] at hy
        rcases hy with rfl | rfl
        all_goals exact fl_bl _) (by decide) (v2 _ _ (upd_same (a := q1))) (q := q2) upd_same
      exact ⟨.ref q1, .ref q2, d, rfl, d1, d2, d3, d4, _, rfl, iteF ⟨⟨_, _, rfl⟩, (hB4.same (u2.trans s6)).same (v1.trans v2)⟩⟩
    rintro σ H5 ⟨⟨y2, y3, rfl⟩, hB5⟩
    -- thirty turns
    refine ⟨30, rfl, by decide, by decide, ?_⟩
    refine for_it (walk_range (lo := 0) (n := 30)) (fun i σ H' => (∃ (y2 y3 y5 y6 y7 y8 y9 y10 y11 : Option V), σ = [some (.ref a), some (.ref b), y2, y3, some (.ref m), y5, y6, y7, y8, y9, y10, y11, none]) ∧ Bg H' b L) ⟨⟨_, _, none, none, none, none, none, none, none, rfl⟩, hB5⟩ (fun _ _ _ _ _ => trivial) ?_ ?_
    · rintro i x σ H6 H7 hi ⟨⟨y2, y3, y5, y6, y7, y8, y9, y10, y11, rfl⟩, hB6⟩ ⟨rfl, rfl⟩
      -- words
      refine ⟨fun σ H' => (∃ (y2 y3 y5 y7 y8 y9 y10 y11 : Option V) (pw : Addr) (ss : List Str), σ = [some (.ref a), some (.ref b), y2, y3, some (.ref m), y5, some (.ref pw), y7, y8, y9, y10, y11, none] ∧ pw ≠ b ∧ H' pw = some (.lst (ss.map V.str)) ∧ ss.length ≤ 3 ∧ ∀ y ∈ ss, Asc 100 y) ∧ Bg H' b L, ?_, ?_⟩
      · refine ⟨.ref b, rfl, by show 4 ≤ sizeLine; decide, fun p np => ?_⟩
        obtain ⟨a10, n10, l10, c10, w10⟩ := (Af.refl hB6).new (o := .lst [.int 1, .int 2, .int 0, .int 3]) np
        refine ⟨b, L, _, _, rfl, a10.bg, .inl ⟨p, rfl, .inl (SqL.of c10)⟩, by show 0 < 4; decide, by show 4 ≤ 1000; decide, fun H8 v hA hv => ?_⟩
        obtain ⟨n, rfl, h0, h3⟩ : ∃ n : Int, v = .int n ∧ 0 ≤ n ∧ n ≤ 3 := by
          simp only [List.mem_cons, List.not_mem_nil, or_false] at hv
          rcases hv with rfl | rfl | rfl | rfl
          all_goals exact ⟨_, rfl, by decide, by decide⟩
        have hB8 := hA.bg
        refine ⟨n, rfl, by omega, by omega, fun D nD => ?_⟩
        have nDb := hB8.neNone nD
        refine lc_range (lo := 0) (n := n.toNat) (fun i H'' => Af b L H8 H'' ∧ ∃ ss : List Str, ss.length = i ∧ (∀ y ∈ ss, Asc 100 y) ∧ H'' D = some (.lst (ss.map V.str))) ⟨(Af.refl hB8).upd hB8 nD, [], rfl, (fun _ h => nomatch h), upd_same⟩ ?_ ?_
        · rintro i H9 hi ⟨a9, ss, hl, hss, eD⟩
          refine ⟨rfl, .ref b, rfl, b, L, rfl, a9.bg, fun H10 z a10 hz => ?_⟩
          refine ⟨ss.map V.str, a10.same _ _ nDb eD, ?_, (a9.trans a10).upd hB8 nD, ss ++ [z], ?_, ?_, ?_⟩
          · rw [List.length_map]
            exact small1000 (by omega)
          · rw [List.length_append, hl]
            rfl
          · intro y hy
            rcases List.mem_append.mp hy with hy | hy
            · exact hss y hy
            · rw [List.mem_singleton.mp hy]
              exact hz
          · rw [upd_same, List.map_append]
            rfl
        · rintro H9 ⟨a9, ss, hl, hss, eD⟩
          exact ⟨⟨_, _, _, _, _, _, _, _, D, ss, rfl, nDb, eD, by omega, hss⟩, a9.bg⟩
      rintro σ H8 ⟨⟨y2, y3, y5, y7, y8, y9, y10, y11, pw, ss, rfl, nw, ew, hl, hss⟩, hB8⟩
      -- words + ..
      refine ⟨fun σ H' => (∃ (y2 y3 y5 y7 y8 y9 y10 y11 : Option V) (pw : Addr) (ss : List Str), σ = [some (.ref a), some (.ref b), y2, y3, some (.ref m), y5, some (.ref pw), y7, y8, y9, y10, y11, none] ∧ pw ≠ b ∧ H' pw = some (.lst (ss.map V.str)) ∧ ss.length ≤ 4 ∧ ∀ y ∈ ss, Asc 100 y) ∧ Bg H' b L, ?_, ?_⟩
      · refine ⟨.ref pw, rfl, .ref b, rfl, by show 0 ≤ sizeLine; decide, fun l1 n1 => ?_⟩
        obtain ⟨a1, m1, _, _, w1⟩ := (Af.refl hB8).new (o := .lst []) n1
        refine ⟨by show 0 ≤ sizeLine; decide, fun l2 n2 => ?_⟩
        obtain ⟨a2, m2, _, _, w2⟩ := a1.new (o := .lst []) n2
        refine ⟨by show 1 ≤ sizeLine; decide, fun l3 n3 => ?_⟩
        obtain ⟨a3, m3, _, _, w3⟩ := a2.new (o := .lst [.str "a\n"]) n3
        refine ⟨by show 1 ≤ sizeLine; decide, fun l4 n4 => ?_⟩
        obtain ⟨a4, m4, _, _, w4⟩ := a3.new (o := .lst [.str "num\n"]) n4
        refine ⟨by show 4 ≤ sizeLine; decide, fun l5 n5 => ?_⟩
        obtain ⟨a5, m5, _, c5, w5⟩ := a4.new (o := .lst [.ref l1, .ref l2, .ref l3, .ref l4]) n5
        refine ⟨b, L, _, _, rfl, a5.bg, .inl ⟨l5, rfl, .inl (SqL.of c5)⟩, by show 0 < 4; decide, by show 4 ≤ 1000; decide, fun H9 v hA hv => ?_⟩
        obtain ⟨qv, ts, rfl, eq, hlt, hts⟩ : ∃ (qv : Addr) (ts : List Str), v = V.ref qv ∧ H9 qv = some (.lst (ts.map V.str)) ∧ ts.length ≤ 1 ∧ ∀ y ∈ ts, Asc 100 y := by
          simp only [List.mem_cons, List.not_mem_nil, or_false] at hv
          rcases hv with rfl | rfl | rfl | rfl
          · exact ⟨_, [], rfl, hA.same _ _ m1 (w5 _ _ (w4 _ _ (w3 _ _ (w2 _ _ upd_same)))), by decide, (fun _ h => nomatch h)⟩
          · exact ⟨_, [], rfl, hA.same _ _ m2 (w5 _ _ (w4 _ _ (w3 _ _ upd_same))), by decide, (fun _ h => nomatch h)⟩
          · refine ⟨_, ["a\n"], rfl, hA.same _ _ m3 (w5 _ _ (w4 _ _ upd_same)), by decide, fun y h => ?_⟩
            rw [List.mem_singleton.mp h]
            exact ascB_ok (by decide +kernel)
          · refine ⟨_, ["num\n"], rfl, hA.same _ _ m4 (w5 _ _ upd_same), by decide, fun y h => ?_⟩
            rw [List.mem_singleton.mp h]
            exact ascB_ok (by decide +kernel)
        refine ⟨pw, qv, _, _, rfl, rfl, hA.same _ _ nw (a5.same _ _ nw ew), eq, ?_, fun p np => ?_⟩
        · rw [List.length_map, List.length_map]
          exact Nat.le_of_lt (small1000 (by omega))
        · obtain ⟨a6, m6, _, _, _⟩ := (Af.refl hA.bg).new (o := .lst (ss.map V.str ++ ts.map V.str)) np
          refine ⟨⟨_, _, _, _, _, _, _, _, p, ss ++ ts, rfl, m6, ?_, ?_, fun y hy => ?_⟩, a6.bg⟩
          · rw [upd_same, List.map_append]
          · rw [List.length_append]
            omega
          · rcases List.mem_append.mp hy with hy | hy
            · exact hss y hy
            · exact hts y hy
      clear hl hss ew nw
      clear ss pw
      rintro σ H9 ⟨⟨y2, y3, y5, y7, y8, y9, y10, y11, pw, ss, rfl, nw, ew, hl, hss⟩, hB9⟩
      have hss2 : ∀ y ∈ ss, Asc 130 y := fun y hy => (hss y hy).mono (by decide)
      -- things
      refine ⟨fun σ H' => (∃ (y2 y3 y5 y8 y9 y10 y11 : Option V) (pt : Addr) (v0 v1 : V) (v2 : Addr) (d0 d1 d2 : PyData), σ = [some (.ref a), some (.ref b), y2, y3, some (.ref m), y5, some (.ref pw), some (.ref pt), y8, y9, y10, y11, none] ∧ pt ≠ b ∧ H' pt = some (.lst [v0, v1, .ref v2, .ref pw]) ∧
          H' pw = some (.lst (ss.map V.str)) ∧ Rp K (Ke.off b H') v0 d0 ∧ ThD d0 ∧ Rp K (Ke.off b H') v1 d1 ∧ ThD d1 ∧ Rp K (Ke.off b H') (.ref v2) d2 ∧ ThD d2) ∧ Bg H' b L, ?_, ?_⟩
      · refine ⟨.ref b, rfl, b, L, rfl, hB9, fun H10 v0 d0 a10 hd0 hv0 => ?_⟩
        refine ⟨.ref b, rfl, .ref pw, rfl, by show 1 ≤ sizeLine; decide, fun l1 n1 => ?_⟩
        obtain ⟨a11, m1, o1, _, w1⟩ := a10.new (o := .lst [.str "a"]) n1
        refine ⟨pw, l1, _, _, rfl, rfl, a11.same _ _ nw ew, upd_same, ?_, fun l2 n2 => ?_⟩
        · rw [List.length_map]
          exact Nat.le_of_lt (small1000 (by show ss.length + 1 ≤ 1000; omega))
        obtain ⟨a12, m2, o2, c12, w2⟩ := a11.new (o := .lst (ss.map V.str ++ [.str "a"])) n2
        refine ⟨b, L, _, _, rfl, a12.bg, .inl ⟨l2, rfl, .inl (SqL.of c12)⟩, ?_, ?_, fun H13 v1 a13' hv1 => ?_⟩
        · rw [List.length_append]
          show 0 < _ + 1
          omega
        · rw [List.length_append, List.length_map]
          show ss.length + 1 ≤ 1000
          omega
        have a13 := a12.trans a13'
        have hw13 := a13.same _ _ nw ew
        obtain ⟨z, rfl, hz⟩ : ∃ z, v1 = .str z ∧ Asc 130 z := by
          rcases List.mem_append.mp hv1 with h | h
          · obtain ⟨y, hy, rfl⟩ := List.mem_map.mp h
            exact ⟨y, rfl, hss2 y hy⟩
          · rw [List.mem_singleton.mp h]
            exact ⟨_, rfl, ascB_ok (by decide +kernel)⟩
        have hv0' := ((hv0.same o1).same o2).same a13'.off
        refine ⟨.ref pw, rfl, pw, _, rfl, .inl ⟨SqL.of hw13, fun t nt => ?_⟩⟩
        obtain ⟨a14, m14, o14, c14, w14⟩ := a13.new (o := .tup (ss.map V.str)) nt
        refine ⟨.ref pw, rfl, by show 4 ≤ sizeLine; decide, fun pt npt => ?_⟩
        obtain ⟨a15, m15, o15, c15, w15⟩ := a14.new (o := .lst [v0, .str z, .ref t, .ref pw]) npt
        exact ⟨⟨_, _, _, _, _, _, _, pt, v0, .str z, t, d0, .str z, .tuple (ss.map PyData.str), rfl, m15, upd_same, w15 _ _ (w14 _ _ hw13), (hv0'.same o14).same o15, thd_odd hd0, .str z, thd_str hz,
          .tup (.inl (.inl (o15 _ _ c14))) (rp_strs ss), thd_tup hss2 (by omega)⟩, a15.bg⟩
      clear ew
      rintro σ H10 ⟨⟨y2, y3, y5, y8, y9, y10, y11, pt, v0, v1, v2, d0, d1, d2, rfl, nt, et, ew, r0, t0, r1, t1, r2, t2⟩, hB10⟩
      -- things.append
      refine ⟨fun σ H' => (∃ (y2 y3 y5 y8 y9 y10 y11 : Option V) (xs : List V), σ = [some (.ref a), some (.ref b), y2, y3, some (.ref m), y5, some (.ref pw), some (.ref pt), y8, y9, y10, y11, none] ∧ H' pt = some (.lst xs) ∧ ∀ x ∈ xs, Th K H' x) ∧ Bg H' b L, ?_, ?_⟩
      · refine ⟨.ref pt, rfl, .inl ⟨rfl, _, SqL.of et⟩, ?_⟩
        refine ⟨.ref b, rfl, .ref pw, rfl, pw, _, rfl, .inl ⟨SqL.of ew, fun t nt2 => ?_⟩⟩
        obtain ⟨a11, m11, o11, c11, w11⟩ := (Af.refl hB10).new (o := .tup (ss.map V.str)) nt2
        refine ⟨b, L, t, ss, rfl, a11.bg, .inl (.inl c11), by omega, hss, fun H12 v4 d4 a12' r4 be => ?_⟩
        have a12 := a11.trans a12'
        have et12 := a12.same _ _ nt et
        have ew12 := a12.same _ _ nw ew
        refine ⟨pt, _, _, rfl, rfl, et12, by show 4 < sizeLine; decide, ?_⟩
        have hm2 : V.ref v2 ∈ [v0, v1, .ref v2, .ref pw] := List.mem_cons_of_mem _ (List.mem_cons_of_mem _ List.mem_cons_self)
        have et12' : Ke.off b H12 pt = some (.lst [v0, v1, .ref v2, .ref pw]) := by
          rw [off_ne nt]
          exact et12
        have up : ∀ {x : V} {d : PyData}, Rp K (Ke.off b H12) x d → ThD d → Th K (upd H12 pt (.lst ([v0, v1, .ref v2, .ref pw] ++ [v4]))) x := fun h hd => by
          have z := put_rp (o := .lst ([v0, v1, .ref v2, .ref pw] ++ [v4])) et12' hm2 h hd.lists
          rw [← off_upd nt] at z
          exact th_of (z.same off_le) hd
        refine ⟨⟨_, _, _, _, _, _, _, _, rfl, upd_same, fun x hx => ?_⟩, bg_put a12.bg nt et12 hm2⟩
        have o12 := (Same.trans o11 a12'.off)
        simp only [List.mem_append, List.mem_cons, List.not_mem_nil, or_false] at hx
        rcases hx with (rfl | rfl | rfl | rfl) | rfl
        · exact up (r0.same o12) t0
        · exact up (r1.same o12) t1
        · exact up (r2.same o12) t2
        · refine up (.lst (SqL.of ?_) (rp_strs ss)) (thd_lst hss2 (by omega))
          rw [off_ne nw]
          exact ew12
        · exact up r4 (thd_be be)
      clear et ew r0 r1 r2 t0 t1 t2
      rintro σ H11 ⟨⟨y2, y3, y5, y8, y9, y10, y11, xs, rfl, et, hth⟩, hB11⟩
      -- each thing
      refine ⟨.ref pt, rfl, pt, rfl, ⟨xs, SqL.of et⟩, ?_⟩
      refine for_it (walk_list (xs := xs)) (fun i σ H' => (∃ (y2 y3 y5 y8 y9 y10 y11 : Option V), σ = [some (.ref a), some (.ref b), y2, y3, some (.ref m), y5, some (.ref pw), some (.ref pt), y8, y9, y10, y11, none]) ∧ Same H11 H') ⟨⟨_, _, _, _, _, _, _, rfl⟩, Same.refl _⟩ (fun i σ H' _ h => h.2.seq (SqL.of et)) ?_ ?_
      · rintro i x σ H12 H13 hi' ⟨⟨y2, y3, y5, y8, y9, y10, y11, rfl⟩, sm⟩ ⟨rfl, hx⟩
        obtain ⟨⟨d, rd, fd⟩, tx, tup, ⟨ri, hri⟩, ⟨rb, hrb⟩⟩ := (hth x (List.mem_of_getElem? hx)).same sm
        obtain ⟨row, hrow⟩ : ∃ row, TupA K H13 x (fun ys => ys.all isWordV) row := by
          rcases tup with ⟨ys, hy⟩ | h
          · exact ⟨_, .inl ⟨ys, hy, rfl⟩⟩
          · exact ⟨_, .inr ⟨h, rfl⟩⟩
        obtain ⟨lot, hlot⟩ : ∃ lot, TupA K H13 x lotB lot := by
          rcases tup with ⟨ys, hy⟩ | h
          · exact ⟨_, .inl ⟨ys, hy, rfl⟩⟩
          · exact ⟨_, .inr ⟨h, rfl⟩⟩
        -- said
        refine ⟨x, rfl, x, d, rfl, rd, fd, ?_⟩
        -- sort
        refine ⟨fun σ H' => (∃ (y3 y5 y10 y11 : Option V), σ = [some (.ref a), some (.ref b), some x, y3, some (.ref m), y5, some (.ref pw), some (.ref pt), some (.str d.shown), some (srV x), y10, y11, none]) ∧ Same H13 H', ?_, ?_⟩
        · obtain ⟨r, ⟨t, ta, tb⟩, hr'⟩ := tx.is
          refine ⟨x, rfl, x, .ty "str", t, _, r, rfl, .ty _, ta, tb, r, rfl, ?_⟩
          cases r with
          | false =>
            rw [srV_not ⟨t, ta, tb⟩]
            exact iteF ⟨⟨_, _, _, _, rfl⟩, Same.refl _⟩
          | true =>
            obtain ⟨z, rfl, hA⟩ := hr' rfl
            exact iteT ⟨.str z, rfl, z, rfl, hA, fun H' s' => ⟨⟨_, _, _, _, rfl⟩, s'⟩⟩
        rintro σ H14 ⟨⟨y3, y5, y10, y11, rfl⟩, s14⟩
        -- is_all
        refine ⟨fun σ H' => (∃ (y3 y5 y11 : Option V), σ = [some (.ref a), some (.ref b), some x, y3, some (.ref m), y5, some (.ref pw), some (.ref pt), some (.str d.shown), some (srV x), some (.bl row), y11, none]) ∧ Same H13 H', ?_, ?_⟩
        · obtain ⟨tb, ⟨t, ta, kb⟩, h1, h0⟩ := (hrow.same s14).is
          refine ⟨x, rfl, x, .ty "tuple", t, _, tb, rfl, .ty _, ta, kb, tb, rfl, ?_⟩
          cases tb with
          | false =>
            rw [h0 rfl]
            exact iteF ⟨⟨_, _, _, rfl⟩, s14⟩
          | true =>
            obtain ⟨ys, ⟨⟨ad, rfl, hq⟩, hlen2, htx⟩, hrw⟩ := h1 rfl
            rw [hrw]
            refine iteT ⟨_, rfl, ad, rfl, ⟨ys, hq⟩, fun D nD => ?_⟩
            refine lc_els (p := fun y => !isWordV y) (e := id) walk_tup (fun H' s' => seqT_same s' hq) (Nat.lt_of_le_of_lt hlen2 (by decide)) nD (fun y H15 Y N hy s15 hyy hn => ?_) (fun H15 s15 eD => ?_)
            · refine ⟨rfl, y, rfl, y, rfl, (htx y hy).same s15, fun H16 s16 => ⟨_, rfl, ?_⟩⟩
              cases hw : isWordV y with
              | true => exact iteF (hn (by rw [hw]; rfl) H16 s16)
              | false => exact iteT ⟨y, rfl, hyy (by rw [hw]; rfl) H16 s16⟩
            · refine ⟨Nat.zero_le _, fun e4 n4 => ?_⟩
              have s16' : Same H15 (upd H15 e4 (.lst [])) := same_new n4
              refine ⟨D, e4, _, rfl, rfl, SqL.of (s16' _ _ eD), SqL.of upd_same, ?_⟩
              rw [if_neg Bool.false_ne_true, List.map_id, filter_none]
              exact ⟨⟨_, _, _, rfl⟩, s14.trans (s15.trans s16')⟩
        clear s14
        rintro σ H14 ⟨⟨y3, y5, y11, rfl⟩, s14⟩
        -- told
        refine ⟨fun σ H' => (∃ (y5 y11 : Option V) (t1 : Addr), σ = [some (.ref a), some (.ref b), some x, some (.ref t1), some (.ref m), y5, some (.ref pw), some (.ref pt), some (.str d.shown), some (srV x), some (.bl row), y11, none] ∧ H' t1 = some (.lst [srV x, .bl row, .bl (ri && !rb)])) ∧ Same H13 H', ?_, ?_⟩
        · refine ⟨x, rfl, x, rfl, tx.same s14, fun H15 s15' => ?_⟩
          have s15 := s14.trans s15'
          refine ⟨x, rfl, x, row, rfl, hrow.same s15, fun H16 s16' => ?_⟩
          have s16 := s15.trans s16'
          refine ⟨x, rfl, x, ri, rb, rfl, hri.same s16, hrb.same s16, by show 3 ≤ sizeLine; decide, fun t1 nt1 => ?_⟩
          exact ⟨⟨_, _, t1, rfl, upd_same⟩, s16.trans (same_new nt1)⟩
        clear s14
        rintro σ H14 ⟨⟨y5, y11, t1, rfl, e1⟩, s14⟩
        refine ⟨fun σ H' => (∃ (y5 y11 : Option V) (t3 : Addr), σ = [some (.ref a), some (.ref b), some x, some (.ref t3), some (.ref m), y5, some (.ref pw), some (.ref pt), some (.str d.shown), some (srV x), some (.bl row), y11, none] ∧ H' t3 = some (.lst [srV x, .bl row, .bl (ri && !rb), .bl (isNameV x), .bl (isKindV x), .bl lot])) ∧ Same H13 H', ?_, ?_⟩
        · refine ⟨.ref t1, rfl, x, rfl, x, rfl, tx.same s14, fun H15 s15' => ?_⟩
          have s15 := s14.trans s15'
          refine ⟨x, rfl, x, rfl, tx.same s15, fun H16 s16' => ?_⟩
          have s16 := s15.trans s16'
          refine ⟨x, rfl, x, lot, rfl, hlot.same s16, fun H17 s17' => ?_⟩
          have s17 := s16.trans s17'
          refine ⟨by show 3 ≤ sizeLine; decide, fun t2 nt2 => ?_⟩
          have u2 := same_new (o := .lst [.bl (isNameV x), .bl (isKindV x), .bl lot]) nt2
          refine ⟨t1, t2, _, _, rfl, rfl, u2 _ _ (s17' _ _ (s16' _ _ (s15' _ _ e1))), upd_same, by show 6 ≤ sizeLine; decide, fun t3 nt3 => ?_⟩
          exact ⟨⟨_, _, t3, rfl, upd_same⟩, s17.trans (u2.trans (same_new nt3))⟩
        clear s14 e1
        rintro σ H14 ⟨⟨y5, y11, t3, rfl, e3⟩, s14⟩
        -- due
        refine ⟨fun σ H' => (∃ (y5 : Option V) (t4 : Addr), σ = [some (.ref a), some (.ref b), some x, some (.ref t3), some (.ref m), y5, some (.ref pw), some (.ref pt), some (.str d.shown), some (srV x), some (.bl row), some (.ref t4), none] ∧ H' t3 = some (.lst [srV x, .bl row, .bl (ri && !rb), .bl (isNameV x), .bl (isKindV x), .bl lot]) ∧
            H' t4 = some (.lst [srV x, .bl row, .bl (ri && !rb), .bl (isNameV x), .bl (isKindV x), .bl lot])) ∧ Same H13 H', ?_, ?_⟩
        · refine ⟨_, rfl, _, rfl, x, rfl, x, ri, rb, rfl, hri.same s14, hrb.same s14, x, rfl, x, rfl, tx.same s14, fun H15 s15' => ?_⟩
          have s15 := s14.trans s15'
          refine ⟨x, rfl, x, rfl, tx.same s15, fun H16 s16' => ?_⟩
          have s16 := s15.trans s16'
          refine ⟨x, rfl, x, lot, rfl, hlot.same s16, fun H17 s17' => ?_⟩
          have s17 := s16.trans s17'
          refine ⟨by show 6 ≤ sizeLine; decide, fun t4 nt4 => ?_⟩
          have u4 := same_new (o := .lst [srV x, .bl row, .bl (ri && !rb), .bl (isNameV x), .bl (isKindV x), .bl lot]) nt4
          exact ⟨⟨_, t4, rfl, u4 _ _ (s17' _ _ (s16' _ _ (s15' _ _ e3))), upd_same⟩, s17.trans u4⟩
        clear s14 e3
        rintro σ H14 ⟨⟨y5, t4, rfl, e3, e4⟩, s14⟩
        obtain ⟨dd, d1, d2, d3, d4⟩ := alike_fl (K := K) (xs := [srV x, .bl row, .bl (ri && !rb), .bl (isNameV x), .bl (isKindV x), .bl lot]) (fun y hy => by
          simp only [List.mem_cons, List.not_mem_nil, or_false] at hy
          rcases hy with rfl | rfl | rfl | rfl | rfl | rfl
          · exact fl_srV _
          all_goals exact fl_bl _) (by show 6 ≤ 100; decide) e3 e4
        refine ⟨_, rfl, _, rfl, .ref t3, .ref t4, dd, rfl, d1, d2, d3, d4, _, rfl, ?_⟩
        refine iteF ⟨x, rfl, x, d, rfl, rd.same s14, fd, _, rfl, rfl, _, rfl, ?_⟩
        exact iteNS rfl ⟨⟨_, _, _, _, _, _, _, rfl⟩, sm.trans s14⟩
      · rintro σ H12 ⟨⟨y2, y3, y5, y8, y9, y10, y11, rfl⟩, sm⟩
        exact ⟨⟨_, _, _, _, _, _, _, _, _, rfl⟩, hB11.same sm⟩
    · rintro σ H6 ⟨⟨y2, y3, y5, y6, y7, y8, y9, y10, y11, rfl⟩, hB6⟩
      exact q _
end
end Ke


set_option Elab.async false
set_option linter.all false
set_option maxRecDepth 100000
namespace Ke
open PySem PySem.Spec PyProof.Rows L2 Gd
theorem noT_mk {K : PySem.W.Frag} {C : Addr} (s : PySem.W.kitOne K (.ref C) (.type "str") = some false) (i : PySem.W.kitOne K (.ref C) (.type "int") = some false) (b : PySem.W.kitOne K (.ref C) (.type "bool") = some false) (t : PySem.W.kitOne K (.ref C) (.type "tuple") = some false) : NoT K C := ⟨s, i, b, t⟩
theorem all_mk {P : Program} {w : World} {K : PySem.W.Frag} {h : Heap} {mg : Str → Option Value} {fa E C0 C1 C2 C3 C4 C5 C6 C7 C8 ka sa : Addr} {dka dsa : Option Addr} {ika isa : Array Value} {nka nsa : Nat} {ska ssa : Array (Option Value)} {u1 u2 u3 u4 : Tok}
    (X : K.In h) (G : h.Ns mainGlobals mg) (hfa : mg "law" = some (.ref fa))
    (gE : PySem.W.nsIn K mainGlobals "EndError" = some (some (.ref E)))
    (g0 : PySem.W.nsIn K mainGlobals "NoAnswer" = some (some (.ref C0)))
    (g1 : PySem.W.nsIn K mainGlobals "NoCommand" = some (some (.ref C1)))
    (g2 : PySem.W.nsIn K mainGlobals "NoTree" = some (some (.ref C2)))
    (g3 : PySem.W.nsIn K mainGlobals "NoWord" = some (some (.ref C3)))
    (g4 : PySem.W.nsIn K mainGlobals "TooLong" = some (some (.ref C4)))
    (g5 : PySem.W.nsIn K mainGlobals "TooMany" = some (some (.ref C5)))
    (g6 : PySem.W.nsIn K mainGlobals "Wrong" = some (some (.ref C6)))
    (g7 : PySem.W.nsIn K mainGlobals "NoEnding" = some (some (.ref C7)))
    (g8 : PySem.W.nsIn K mainGlobals "Nothing" = some (some (.ref C8)))
    (gV : PySem.W.nsIn K mainGlobals "ValueError" = some none)
    (r0 : ErK K "place" C0 (initS 2))
    (r1 : ErK K "line" C1 (initS 3))
    (r2 : ErK K "index" C2 (initS 5))
    (r3 : ErK K "place" C3 (initS 6))
    (r4 : ErK K "most" C4 (initS 8))
    (r5 : ErK K "most" C5 (initS 9))
    (r6 : ErK K "place" C6 (initS 10))
    (e0 : ExcC K C0)
    (e1 : ExcC K C1)
    (e2 : ExcC K C2)
    (e3 : ExcC K C3)
    (e4 : ExcC K C4)
    (e5 : ExcC K C5)
    (e6 : ExcC K C6)
    (e7 : ExcC K C7)
    (e8 : ExcC K C8)
    (x7 : PySem.W.excIn K C7 [.type "ValueError", .type "Exception", .type "BaseException", .type "object"] "ValueError.__new__" = true)
    (k7 : PySem.W.keepIn K (.ref C7) = true)
    (x8 : PySem.W.excIn K C8 [.type "ValueError", .type "Exception", .type "BaseException", .type "object"] "ValueError.__new__" = true)
    (k8 : PySem.W.keepIn K (.ref C8) = true)
    (t0 : KitL K (.ref C0) [.ref E, .type "ValueError", .ref C0, .ref C1, .ref C2, .ref C3, .ref C4, .ref C5, .ref C6, .ref C7, .ref C8] [true, true, true, false, false, false, false, false, false, false, false])
    (t1 : KitL K (.ref C1) [.ref E, .type "ValueError", .ref C0, .ref C1, .ref C2, .ref C3, .ref C4, .ref C5, .ref C6, .ref C7, .ref C8] [true, true, false, true, false, false, false, false, false, false, false])
    (t2 : KitL K (.ref C2) [.ref E, .type "ValueError", .ref C0, .ref C1, .ref C2, .ref C3, .ref C4, .ref C5, .ref C6, .ref C7, .ref C8] [true, true, false, false, true, false, false, false, false, false, false])
    (t3 : KitL K (.ref C3) [.ref E, .type "ValueError", .ref C0, .ref C1, .ref C2, .ref C3, .ref C4, .ref C5, .ref C6, .ref C7, .ref C8] [true, true, false, false, false, true, false, false, false, false, false])
    (t4 : KitL K (.ref C4) [.ref E, .type "ValueError", .ref C0, .ref C1, .ref C2, .ref C3, .ref C4, .ref C5, .ref C6, .ref C7, .ref C8] [true, true, false, false, false, false, true, false, false, false, false])
    (t5 : KitL K (.ref C5) [.ref E, .type "ValueError", .ref C0, .ref C1, .ref C2, .ref C3, .ref C4, .ref C5, .ref C6, .ref C7, .ref C8] [true, true, false, false, false, false, false, true, false, false, false])
    (t6 : KitL K (.ref C6) [.ref E, .type "ValueError", .ref C0, .ref C1, .ref C2, .ref C3, .ref C4, .ref C5, .ref C6, .ref C7, .ref C8] [true, true, false, false, false, false, false, false, true, false, false])
    (t7 : KitL K (.ref C7) [.ref E, .type "ValueError", .ref C0, .ref C1, .ref C2, .ref C3, .ref C4, .ref C5, .ref C6, .ref C7, .ref C8] [true, true, false, false, false, false, false, false, false, true, false])
    (t8 : KitL K (.ref C8) [.ref E, .type "ValueError", .ref C0, .ref C1, .ref C2, .ref C3, .ref C4, .ref C5, .ref C6, .ref C7, .ref C8] [true, true, false, false, false, false, false, false, false, false, true])
    (n6 : NoT K C6)
    (n7 : NoT K C7)
    (b_abs : PySem.W.nsIn K mainGlobals "abs" = some none)
    (b_int : PySem.W.nsIn K mainGlobals "int" = some none)
    (b_len : PySem.W.nsIn K mainGlobals "len" = some none)
    (b_range : PySem.W.nsIn K mainGlobals "range" = some none)
    (b_repr : PySem.W.nsIn K mainGlobals "repr" = some none)
    (b_isi : PySem.W.nsIn K mainGlobals "isinstance" = some none)
    (b_str : PySem.W.nsIn K mainGlobals "str" = some none)
    (b_tuple : PySem.W.nsIn K mainGlobals "tuple" = some none)
    (b_list : PySem.W.nsIn K mainGlobals "list" = some none)
    (b_bool : PySem.W.nsIn K mainGlobals "bool" = some none)
    (b_all : PySem.W.nsIn K mainGlobals "all" = some none)
    (b_zip : PySem.W.nsIn K mainGlobals "zip" = some none)
    (b_enum : PySem.W.nsIn K mainGlobals "enumerate" = some none)
    (ckw : PySem.W.nsIn K mainGlobals "KEYWORDS" = some (some (.ref ka)))
    (csg : PySem.W.nsIn K mainGlobals "SIGNS" = some (some (.ref sa)))
    (lkw : K.lookup ka = some ⟨.type "tuple", dka, .seq ika nka, ska⟩)
    (vkw : Vals (kwL.map V.str) ika.toList)
    (zkw : ika.size ≤ sizeLine)
    (lsg : K.lookup sa = some ⟨.type "tuple", dsa, .seq isa nsa, ssa⟩)
    (vsg : Vals (sgL.map V.str) isa.toList)
    (zsg : isa.size ≤ sizeLine)
    (cl : PySem.W.nsIn K mainGlobals "LETTERS" = some (some (.str "abcdefghijklmnopqrstuvwxyz" u1)))
    (cd : PySem.W.nsIn K mainGlobals "DIGITS" = some (some (.str "0123456789" u2)))
    (cn : PySem.W.nsIn K mainGlobals "LONGEST_NAME" = some (some (.int 20 u3)))
    (cm : PySem.W.nsIn K mainGlobals "LONGEST_NUMBER" = some (some (.int 9 u4)))
    (F18 : FnK K "sort_of_word" (topS 18))
    (F19 : FnK K "_shows_number" (topS 19))
    (F20 : FnK K "_looks_like_name" (topS 20))
    (F21 : FnK K "is_row" (topS 21))
    (F23 : FnK K "is_integer" (topS 23))
    (F24 : FnK K "is_name" (topS 24))
    (F25 : FnK K "is_kind" (topS 25))
    (F26 : FnK K "is_lot" (topS 26))
    (F28 : FnK K "_law_bag" (topS 28))
    (F29 : FnK K "_law_take" (topS 29))
    (F30 : FnK K "_law_some" (topS 30))
    (F31 : FnK K "_law_alike" (topS 31))
    (F32 : FnK K "_law_is_int" (topS 32))
    (F33 : FnK K "_law_keywords" (topS 33))
    (F34 : FnK K "_law_signs" (topS 34))
    (F35 : FnK K "_law_is_letter" (topS 35))
    (F36 : FnK K "_law_is_digit" (topS 36))
    (F37 : FnK K "_law_sort" (topS 37))
    (F38 : FnK K "_law_is_word" (topS 38))
    (F39 : FnK K "_law_is_name" (topS 39))
    (F40 : FnK K "_law_is_kind" (topS 40))
    (F41 : FnK K "_law_odd" (topS 41))
    (F42 : FnK K "_law_bent" (topS 42))
    (F43 : FnK K "_law_some_word" (topS 43))
    (F44 : FnK K "_law_is_lot" (topS 44))
    (F45 : FnK K "_law_are_errors_right" (topS 45))
    (F46 : FnK K "law" (topS 46)) :
    ∃ fd : FuncData, (∀ (s : Shared) (u : Value), BindsTo s fd ⟨[u], []⟩ [("script", u)]) ∧ ∀ base : Heap, K.In base → base.Ns mainGlobals mg → FnG P w K mg base 13 fa fd ["script"] (spLaw K) := by
  have B : Bi mg := ⟨PySem.W.mg_none_of X G b_abs, PySem.W.mg_none_of X G b_int, PySem.W.mg_none_of X G b_len, PySem.W.mg_none_of X G b_range, PySem.W.mg_none_of X G b_repr, PySem.W.mg_none_of X G b_isi, PySem.W.mg_none_of X G b_str, PySem.W.mg_none_of X G b_tuple, PySem.W.mg_none_of X G b_list, PySem.W.mg_none_of X G b_bool, PySem.W.mg_none_of X G b_all, PySem.W.mg_none_of X G b_zip, PySem.W.mg_none_of X G b_enum⟩
  have q0 : ∃ fI, ErrF K mg "NoAnswer" "place" C0 fI := r0.errF (PySem.W.mg_of X G g0) e0 (by rfl) (by rfl) (by rfl)
  have q1 : ∃ fI, ErrF K mg "NoCommand" "line" C1 fI := r1.errF (PySem.W.mg_of X G g1) e1 (by rfl) (by rfl) (by rfl)
  have q2 : ∃ fI, ErrF K mg "NoTree" "index" C2 fI := r2.errF (PySem.W.mg_of X G g2) e2 (by rfl) (by rfl) (by rfl)
  have q3 : ∃ fI, ErrF K mg "NoWord" "place" C3 fI := r3.errF (PySem.W.mg_of X G g3) e3 (by rfl) (by rfl) (by rfl)
  have q4 : ∃ fI, ErrF K mg "TooLong" "most" C4 fI := r4.errF (PySem.W.mg_of X G g4) e4 (by rfl) (by rfl) (by rfl)
  have q5 : ∃ fI, ErrF K mg "TooMany" "most" C5 fI := r5.errF (PySem.W.mg_of X G g5) e5 (by rfl) (by rfl) (by rfl)
  have q6 : ∃ fI, ErrF K mg "Wrong" "place" C6 fI := r6.errF (PySem.W.mg_of X G g6) e6 (by rfl) (by rfl) (by rfl)
  have T : Er K mg E C0 C1 C2 C3 C4 C5 C6 C7 C8 := by
    refine ⟨PySem.W.mg_of X G gE, PySem.W.mg_none_of X G gV, q0, q1, q2, q3, q4, q5, q6, PySem.W.mg_of X G g7, x7, k7, e7, PySem.W.mg_of X G g8, x8, k8, e8, fun i C hC => ?_⟩
    rcases i with _ | _ | _ | _ | _ | _ | _ | _ | _ | i
    · cases hC; exact t0
    · cases hC; exact t1
    · cases hC; exact t2
    · cases hC; exact t3
    · cases hC; exact t4
    · cases hC; exact t5
    · cases hC; exact t6
    · cases hC; exact t7
    · cases hC; exact t8
    · cases hC
  have kwT : ∀ H, SqT K H ka (kwL.map V.str) := fun H => .inr ⟨_, ika, nka, lkw, rfl, rfl, zkw, vkw⟩
  have sgT : ∀ H, SqT K H sa (sgL.map V.str) := fun H => .inr ⟨_, isa, nsa, lsg, rfl, rfl, zsg, vsg⟩
  have Cc : Cs K mg ka sa := ⟨PySem.W.mg_of X G ckw, PySem.W.mg_of X G csg, ⟨u1, PySem.W.mg_of X G cl⟩, ⟨u2, PySem.W.mg_of X G cd⟩, ⟨u3, PySem.W.mg_of X G cn⟩, ⟨u4, PySem.W.mg_of X G cm⟩, kwT, sgT⟩
  obtain ⟨f18, d18, a18, Q18⟩ := F18
  have m18 := PySem.W.mg_of X G a18
  have b18 : Binds K d18 ["thing"] [] := Q18.binds (ps := ["thing"]) fun _ _ _ _ _ _ us hl => match us, hl with | [_], _ => rfl
  have A18 : At K mg "sort_of_word" ["thing"] f18 d18 := ⟨Q18.kp, b18, m18⟩
  obtain ⟨f19, d19, a19, Q19⟩ := F19
  have m19 := PySem.W.mg_of X G a19
  have b19 : Binds K d19 ["text"] [] := Q19.binds (ps := ["text"]) fun _ _ _ _ _ _ us hl => match us, hl with | [_], _ => rfl
  have A19 : At K mg "_shows_number" ["text"] f19 d19 := ⟨Q19.kp, b19, m19⟩
  obtain ⟨f20, d20, a20, Q20⟩ := F20
  have m20 := PySem.W.mg_of X G a20
  have b20 : Binds K d20 ["text"] [] := Q20.binds (ps := ["text"]) fun _ _ _ _ _ _ us hl => match us, hl with | [_], _ => rfl
  have A20 : At K mg "_looks_like_name" ["text"] f20 d20 := ⟨Q20.kp, b20, m20⟩
  obtain ⟨f21, d21, a21, Q21⟩ := F21
  have m21 := PySem.W.mg_of X G a21
  have b21 : Binds K d21 ["thing"] [] := Q21.binds (ps := ["thing"]) fun _ _ _ _ _ _ us hl => match us, hl with | [_], _ => rfl
  have A21 : At K mg "is_row" ["thing"] f21 d21 := ⟨Q21.kp, b21, m21⟩
  obtain ⟨f23, d23, a23, Q23⟩ := F23
  have m23 := PySem.W.mg_of X G a23
  have b23 : Binds K d23 ["thing"] [] := Q23.binds (ps := ["thing"]) fun _ _ _ _ _ _ us hl => match us, hl with | [_], _ => rfl
  have A23 : At K mg "is_integer" ["thing"] f23 d23 := ⟨Q23.kp, b23, m23⟩
  obtain ⟨f24, d24, a24, Q24⟩ := F24
  have m24 := PySem.W.mg_of X G a24
  have b24 : Binds K d24 ["thing"] [] := Q24.binds (ps := ["thing"]) fun _ _ _ _ _ _ us hl => match us, hl with | [_], _ => rfl
  have A24 : At K mg "is_name" ["thing"] f24 d24 := ⟨Q24.kp, b24, m24⟩
  obtain ⟨f25, d25, a25, Q25⟩ := F25
  have m25 := PySem.W.mg_of X G a25
  have b25 : Binds K d25 ["thing"] [] := Q25.binds (ps := ["thing"]) fun _ _ _ _ _ _ us hl => match us, hl with | [_], _ => rfl
  have A25 : At K mg "is_kind" ["thing"] f25 d25 := ⟨Q25.kp, b25, m25⟩
  obtain ⟨f26, d26, a26, Q26⟩ := F26
  have m26 := PySem.W.mg_of X G a26
  have b26 : Binds K d26 ["thing"] [] := Q26.binds (ps := ["thing"]) fun _ _ _ _ _ _ us hl => match us, hl with | [_], _ => rfl
  have A26 : At K mg "is_lot" ["thing"] f26 d26 := ⟨Q26.kp, b26, m26⟩
  obtain ⟨f28, d28, a28, Q28⟩ := F28
  have m28 := PySem.W.mg_of X G a28
  have b28 : Binds K d28 ["script"] [] := Q28.binds (ps := ["script"]) fun _ _ _ _ _ _ us hl => match us, hl with | [_], _ => rfl
  have A28 : At K mg "_law_bag" ["script"] f28 d28 := ⟨Q28.kp, b28, m28⟩
  obtain ⟨f29, d29, a29, Q29⟩ := F29
  have m29 := PySem.W.mg_of X G a29
  have b29 : Binds K d29 ["bag", "many"] [] := Q29.binds (ps := ["bag", "many"]) fun _ _ _ _ _ _ us hl => match us, hl with | [_, _], _ => rfl
  have A29 : At K mg "_law_take" ["bag", "many"] f29 d29 := ⟨Q29.kp, b29, m29⟩
  obtain ⟨f30, d30, a30, Q30⟩ := F30
  have m30 := PySem.W.mg_of X G a30
  have b30 : Binds K d30 ["bag", "things"] [] := Q30.binds (ps := ["bag", "things"]) fun _ _ _ _ _ _ us hl => match us, hl with | [_, _], _ => rfl
  have A30 : At K mg "_law_some" ["bag", "things"] f30 d30 := ⟨Q30.kp, b30, m30⟩
  obtain ⟨f31, d31, a31, Q31⟩ := F31
  have m31 := PySem.W.mg_of X G a31
  have b31 : Binds K d31 ["found", "due"] [] := Q31.binds (ps := ["found", "due"]) fun _ _ _ _ _ _ us hl => match us, hl with | [_, _], _ => rfl
  have A31 : At K mg "_law_alike" ["found", "due"] f31 d31 := ⟨Q31.kp, b31, m31⟩
  obtain ⟨f32, d32, a32, Q32⟩ := F32
  have m32 := PySem.W.mg_of X G a32
  have b32 : Binds K d32 ["thing"] [] := Q32.binds (ps := ["thing"]) fun _ _ _ _ _ _ us hl => match us, hl with | [_], _ => rfl
  have A32 : At K mg "_law_is_int" ["thing"] f32 d32 := ⟨Q32.kp, b32, m32⟩
  obtain ⟨f33, d33, a33, Q33⟩ := F33
  have m33 := PySem.W.mg_of X G a33
  have b33 : Binds K d33 [] [] := Q33.binds (ps := []) fun _ _ _ _ _ _ us hl => match us, hl with | [], _ => rfl
  have A33 : At K mg "_law_keywords" [] f33 d33 := ⟨Q33.kp, b33, m33⟩
  obtain ⟨f34, d34, a34, Q34⟩ := F34
  have m34 := PySem.W.mg_of X G a34
  have b34 : Binds K d34 [] [] := Q34.binds (ps := []) fun _ _ _ _ _ _ us hl => match us, hl with | [], _ => rfl
  have A34 : At K mg "_law_signs" [] f34 d34 := ⟨Q34.kp, b34, m34⟩
  obtain ⟨f35, d35, a35, Q35⟩ := F35
  have m35 := PySem.W.mg_of X G a35
  have b35 : Binds K d35 ["sign"] [] := Q35.binds (ps := ["sign"]) fun _ _ _ _ _ _ us hl => match us, hl with | [_], _ => rfl
  have A35 : At K mg "_law_is_letter" ["sign"] f35 d35 := ⟨Q35.kp, b35, m35⟩
  obtain ⟨f36, d36, a36, Q36⟩ := F36
  have m36 := PySem.W.mg_of X G a36
  have b36 : Binds K d36 ["sign"] [] := Q36.binds (ps := ["sign"]) fun _ _ _ _ _ _ us hl => match us, hl with | [_], _ => rfl
  have A36 : At K mg "_law_is_digit" ["sign"] f36 d36 := ⟨Q36.kp, b36, m36⟩
  obtain ⟨f37, d37, a37, Q37⟩ := F37
  have m37 := PySem.W.mg_of X G a37
  have b37 : Binds K d37 ["word"] [] := Q37.binds (ps := ["word"]) fun _ _ _ _ _ _ us hl => match us, hl with | [_], _ => rfl
  have A37 : At K mg "_law_sort" ["word"] f37 d37 := ⟨Q37.kp, b37, m37⟩
  obtain ⟨f38, d38, a38, Q38⟩ := F38
  have m38 := PySem.W.mg_of X G a38
  have b38 : Binds K d38 ["thing"] [] := Q38.binds (ps := ["thing"]) fun _ _ _ _ _ _ us hl => match us, hl with | [_], _ => rfl
  have A38 : At K mg "_law_is_word" ["thing"] f38 d38 := ⟨Q38.kp, b38, m38⟩
  obtain ⟨f39, d39, a39, Q39⟩ := F39
  have m39 := PySem.W.mg_of X G a39
  have b39 : Binds K d39 ["thing"] [] := Q39.binds (ps := ["thing"]) fun _ _ _ _ _ _ us hl => match us, hl with | [_], _ => rfl
  have A39 : At K mg "_law_is_name" ["thing"] f39 d39 := ⟨Q39.kp, b39, m39⟩
  obtain ⟨f40, d40, a40, Q40⟩ := F40
  have m40 := PySem.W.mg_of X G a40
  have b40 : Binds K d40 ["thing"] [] := Q40.binds (ps := ["thing"]) fun _ _ _ _ _ _ us hl => match us, hl with | [_], _ => rfl
  have A40 : At K mg "_law_is_kind" ["thing"] f40 d40 := ⟨Q40.kp, b40, m40⟩
  obtain ⟨f41, d41, a41, Q41⟩ := F41
  have m41 := PySem.W.mg_of X G a41
  have b41 : Binds K d41 ["bag"] [] := Q41.binds (ps := ["bag"]) fun _ _ _ _ _ _ us hl => match us, hl with | [_], _ => rfl
  have A41 : At K mg "_law_odd" ["bag"] f41 d41 := ⟨Q41.kp, b41, m41⟩
  obtain ⟨f42, d42, a42, Q42⟩ := F42
  have m42 := PySem.W.mg_of X G a42
  have b42 : Binds K d42 ["bag", "thing", "deep"] [] := Q42.binds (ps := ["bag", "thing", "deep"]) fun _ _ _ _ _ _ us hl => match us, hl with | [_, _, _], _ => rfl
  have A42 : At K mg "_law_bent" ["bag", "thing", "deep"] f42 d42 := ⟨Q42.kp, b42, m42⟩
  obtain ⟨f43, d43, a43, Q43⟩ := F43
  have m43 := PySem.W.mg_of X G a43
  have b43 : Binds K d43 ["bag"] [] := Q43.binds (ps := ["bag"]) fun _ _ _ _ _ _ us hl => match us, hl with | [_], _ => rfl
  have A43 : At K mg "_law_some_word" ["bag"] f43 d43 := ⟨Q43.kp, b43, m43⟩
  obtain ⟨f44, d44, a44, Q44⟩ := F44
  have m44 := PySem.W.mg_of X G a44
  have b44 : Binds K d44 ["thing"] [] := Q44.binds (ps := ["thing"]) fun _ _ _ _ _ _ us hl => match us, hl with | [_], _ => rfl
  have A44 : At K mg "_law_is_lot" ["thing"] f44 d44 := ⟨Q44.kp, b44, m44⟩
  obtain ⟨f45, d45, a45, Q45⟩ := F45
  have m45 := PySem.W.mg_of X G a45
  have b45 : Binds K d45 ["bag"] [] := Q45.binds (ps := ["bag"]) fun _ _ _ _ _ _ us hl => match us, hl with | [_], _ => rfl
  have A45 : At K mg "_law_are_errors_right" ["bag"] f45 d45 := ⟨Q45.kp, b45, m45⟩
  obtain ⟨f46, d46, a46, Q46⟩ := F46
  have m46 := PySem.W.mg_of X G a46
  have b46 : Binds K d46 ["script"] [] := Q46.binds (ps := ["script"]) fun _ _ _ _ _ _ us hl => match us, hl with | [_], _ => rfl
  have ef := hfa.symm.trans m46
  cases ef
  refine ⟨d46, ?_, fun base _ _ => ?_⟩
  · obtain ⟨oc, od, kV, doc, pm, an, cdv, ct, osl, rfl, lk, hcd⟩ := Q46.ex
    exact fun s u => .of_eq rfl
  have GTake : ∀ n, FnOk P w K mg base CX0 (n + 1) f29 d29 ["bag", "many"] (spTake K) := fun n => ok_take Q29 B
  have GSome : ∀ n, FnOk P w K mg base CX0 (n + 2) f30 d30 ["bag", "things"] (spSome K) := fun n => ok_some Q30 B Q29 b29 m29
  have GOdd : ∀ n, FnOk P w K mg base CX0 (n + 3) f41 d41 ["bag"] (spOdd K) := fun n => ok_odd Q41 (GSome n) Q30.kp b30 m30
  have GAl : ∀ n, FnG P w K mg base (n + 1) f31 d31 ["found", "due"] (spAlike K) := fun n => ok_alike Q31 B
  have GLi : ∀ n, FnOk P w K mg base CX0 (n + 1) f32 d32 ["thing"] (spInt K) := fun n => ok_lint Q32 B
  have GInt : ∀ n, FnOk P w K mg base CX0 (n + 1) f23 d23 ["thing"] (spInt K) := fun n => ok_int Q23 B
  have GKw : ∀ n, FnOk P w K mg base CX0 (n + 1) f33 d33 [] (spNew0 kwL) := fun n => ok_kw Q33
  have GSg : ∀ n, FnOk P w K mg base CX0 (n + 1) f34 d34 [] (spNew0 sgL) := fun n => ok_sg Q34
  have GLs : ∀ n, FnOk P w K mg base CX0 (n + 2) f37 d37 ["word"] spSortL := fun n => ok_sort Q37 B Q33 b33 m33 Q34 b34 m34 Q35 b35 m35 Q36 b36 m36
  have GSort : ∀ n, FnOk P w K mg base CX0 (n + 2) f18 d18 ["thing"] (spSrt K) := fun n => ok_psort Q18 B Cc Q19 b19 m19 Q20 b20 m20
  have GRow : ∀ n, FnOk P w K mg base CX0 (n + 3) f21 d21 ["thing"] (spTup K fun xs => xs.all isWordV) := fun n => ok_isrow Q21 B (GSort n) Q18.kp b18 m18
  have GName : ∀ n, FnOk P w K mg base CX0 (n + 3) f24 d24 ["thing"] (spV K isNameV) := fun n => ok_isname Q24 (GSort n) Q18.kp b18 m18
  have GKind : ∀ n, FnOk P w K mg base CX0 (n + 4) f25 d25 ["thing"] (spV K isKindV) := fun n => ok_iskind Q25 B (GName n) Q24.kp b24 m24
  have GLot : ∀ n, FnOk P w K mg base CX0 (n + 1) f26 d26 ["thing"] (spTup K lotB) := fun n => ok_islot Q26 B
  have GLw : ∀ n, FnOk P w K mg base CX0 (n + 3) f38 d38 ["thing"] (spV K isWordV) := fun n => ok_lword Q38 B (GLs n) Q37.kp b37 m37
  have GLn : ∀ n, FnOk P w K mg base CX0 (n + 3) f39 d39 ["thing"] (spV K isNameV) := fun n => ok_lname Q39 B (GLs n) Q37.kp b37 m37
  have GLk : ∀ n, FnOk P w K mg base CX0 (n + 4) f40 d40 ["thing"] (spV K isKindV) := fun n => ok_lkind Q40 B (GLn n) Q39.kp b39 m39
  have GLl : ∀ n, FnOk P w K mg base CX0 (n + 1) f44 d44 ["thing"] (spTup K lotB) := fun n => ok_llot Q44 B
  have GW : ∀ n, FnOk P w K mg base CX0 (n + 3) f43 d43 ["bag"] spWord := fun n => ok_word Q43 B (GSome n) Q30.kp b30 m30 (GTake (n + 1)) Q29.kp b29 m29 (GKw (n + 1)) Q33.kp b33 m33 (GSg (n + 1)) Q34.kp b34 m34
  have GBs : ∀ n, FnOk P w K mg base CX0 (n + 4) f42 d42 ["bag", "thing", "deep"] (spBentS K) := fun n => ok_bentS Q42 B (GSome (n + 1)) Q30.kp b30 m30 (GTake (n + 2)) Q29.kp b29 m29 (GLi (n + 2)) Q32.kp b32 m32 (GOdd n) Q41.kp b41 m41
  have GBt : ∀ n, FnOk P w K mg base CX0 (n + 5) f42 d42 ["bag", "thing", "deep"] (spBentT K) := fun n => ok_bentT Q42 B (GBs n) b42 m42 (GSome (n + 2)) Q30.kp b30 m30 (GTake (n + 3)) Q29.kp b29 m29 (GLi (n + 3)) Q32.kp b32 m32 (GOdd (n + 1)) Q41.kp b41 m41
  have GErr : ∀ n, FnG P w K mg base (n + 4) f45 d45 ["bag"] spErrs := fun n => ok_errs Q45 B T (GOdd n) Q41.kp b41 m41 (GAl (n + 2)) Q31.kp b31 m31
  have GBag : FnOk P w K mg base CX0 12 f28 d28 ["script"] (spBag K) := ok_bag (k := 11) Q28 B
  exact ok_law (k := 12) Q46 B T n6 n7 GBag A28 (GErr 8) A45 (GSort 10) A18 (GRow 9) A21 (GInt 11) A23 (GName 9) A24 (GKind 8) A25 (GLot 11) A26 (GAl 11) A31 (GW 9) A43 (GSome 10) A30 (GOdd 9) A41 (GBt 7) A42 (GLs 10) A37 (GLw 9) A38 (GLi 11) A32 (GLn 9) A39 (GLk 8) A40 (GLl 11) A44
theorem walk0 {l : PySem.W.OpenLaw} {q : Program} {loose : List Str} {XP : (Str → Option Value) → Heap → Prop} {YP : World → Heap → Prop} {d : DefRec} {K : Params → PySem.W.Frag} (hn : l.most = some 63) (hdf : d.params.defaults = [])
    (hY : ∀ (w : World) (h : Heap), YP w h → (K w.params).In h)
    (F : ∀ (w : World) (mg : Str → Option Value) (fa : Addr) (h : Heap), (K w.params).In h → h.Ns mainGlobals mg → mg d.name = some (.ref fa) →
      ∃ fd : FuncData, (∀ (s : Shared) (u : Value), BindsTo s fd ⟨[u], []⟩ [("script", u)]) ∧ ∀ base : Heap, (K w.params).In base → base.Ns mainGlobals mg → FnG l.prog w (K w.params) mg base 13 fa fd ["script"] (spLaw (K w.params))) :
    PySem.W.WalkO q loose XP YP l.row.toRowW d [] (fun f vs => PySem.call f vs) :=
  walkG (n := 63) (k := 13) (x := "script") (sp := fun w => spLaw (K w.params)) hn (by decide) hdf ⟨rfl, by decide, by decide⟩ hY F fun w H a ns hl _ hS => ⟨a, ns, rfl, hS, hl, fun _ => rfl⟩
end Ke


open PySem PySem.W PyProof.Rows
set_option Elab.async false
set_option maxRecDepth 100000 in
set_option maxHeartbeats 0 in
theorem PySem.Challenge.cw_endsahead_k00_errors_and_words_of_any_va_holds : PySem.Challenge.rw_endsahead_k00_errors_and_words_of_any_va.Holds := by
  w_on; o_law; k_head; (case hw => w_witness2)
  k_fill
  refine Ke.walk0 (l := PySem.Challenge.rw_endsahead_k00_errors_and_words_of_any_va) rfl rfl (fun w h Y => PySem.W.kIn_of Y) ?F
  case F =>
    intro w mg fa h KX G hmg
    refine' Ke.all_mk KX G hmg ?kz_gE ?kz_g0 ?kz_g1 ?kz_g2 ?kz_g3 ?kz_g4 ?kz_g5 ?kz_g6 ?kz_g7 ?kz_g8 ?kz_gV ?kz_r0 ?kz_r1 ?kz_r2 ?kz_r3 ?kz_r4 ?kz_r5 ?kz_r6 ?kz_e0 ?kz_e1 ?kz_e2 ?kz_e3 ?kz_e4 ?kz_e5 ?kz_e6 ?kz_e7 ?kz_e8 ?kz_x7 ?kz_k7 ?kz_x8 ?kz_k8 ?kz_t0 ?kz_t1 ?kz_t2 ?kz_t3 ?kz_t4 ?kz_t5 ?kz_t6 ?kz_t7 ?kz_t8 ?kz_n6 ?kz_n7 ?kz_b_abs ?kz_b_int ?kz_b_len ?kz_b_range ?kz_b_repr ?kz_b_isi ?kz_b_str ?kz_b_tuple ?kz_b_list ?kz_b_bool ?kz_b_all ?kz_b_zip ?kz_b_enum ?kz_ckw ?kz_csg ?kz_lkw ?kz_vkw ?kz_zkw ?kz_lsg ?kz_vsg ?kz_zsg ?kz_cl ?kz_cd ?kz_cn ?kz_cm ?kz_F18 ?kz_F19 ?kz_F20 ?kz_F21 ?kz_F23 ?kz_F24 ?kz_F25 ?kz_F26 ?kz_F28 ?kz_F29 ?kz_F30 ?kz_F31 ?kz_F32 ?kz_F33 ?kz_F34 ?kz_F35 ?kz_F36 ?kz_F37 ?kz_F38 ?kz_F39 ?kz_F40 ?kz_F41 ?kz_F42 ?kz_F43 ?kz_F44 ?kz_F45 ?kz_F46
    (case kz_gE => k_is)
    (case kz_g0 => k_is)
    (case kz_g1 => k_is)
    (case kz_g2 => k_is)
    (case kz_g3 => k_is)
    (case kz_g4 => k_is)
    (case kz_g5 => k_is)
    (case kz_g6 => k_is)
    (case kz_g7 => k_is)
    (case kz_g8 => k_is)
    (case kz_gV => k_is)
    (case kz_r0 => (refine' Ke.erK_mk ?kz_r0_0 ?kz_r0_1 ?kz_r0_2 ?kz_r0_3 ?kz_r0_4 ?kz_r0_5 ?kz_r0_6 ?kz_r0_7; (case kz_r0_0 => k_is); (case kz_r0_1 => k_is); (case kz_r0_2 => k_is); (case kz_r0_3 => k_is); (case kz_r0_4 => k_is); (case kz_r0_5 => k_is); (case kz_r0_6 => k_is); (case kz_r0_7 => k_is)))
    (case kz_r1 => (refine' Ke.erK_mk ?kz_r1_0 ?kz_r1_1 ?kz_r1_2 ?kz_r1_3 ?kz_r1_4 ?kz_r1_5 ?kz_r1_6 ?kz_r1_7; (case kz_r1_0 => k_is); (case kz_r1_1 => k_is); (case kz_r1_2 => k_is); (case kz_r1_3 => k_is); (case kz_r1_4 => k_is); (case kz_r1_5 => k_is); (case kz_r1_6 => k_is); (case kz_r1_7 => k_is)))
    (case kz_r2 => (refine' Ke.erK_mk ?kz_r2_0 ?kz_r2_1 ?kz_r2_2 ?kz_r2_3 ?kz_r2_4 ?kz_r2_5 ?kz_r2_6 ?kz_r2_7; (case kz_r2_0 => k_is); (case kz_r2_1 => k_is); (case kz_r2_2 => k_is); (case kz_r2_3 => k_is); (case kz_r2_4 => k_is); (case kz_r2_5 => k_is); (case kz_r2_6 => k_is); (case kz_r2_7 => k_is)))
    (case kz_r3 => (refine' Ke.erK_mk ?kz_r3_0 ?kz_r3_1 ?kz_r3_2 ?kz_r3_3 ?kz_r3_4 ?kz_r3_5 ?kz_r3_6 ?kz_r3_7; (case kz_r3_0 => k_is); (case kz_r3_1 => k_is); (case kz_r3_2 => k_is); (case kz_r3_3 => k_is); (case kz_r3_4 => k_is); (case kz_r3_5 => k_is); (case kz_r3_6 => k_is); (case kz_r3_7 => k_is)))
    (case kz_r4 => (refine' Ke.erK_mk ?kz_r4_0 ?kz_r4_1 ?kz_r4_2 ?kz_r4_3 ?kz_r4_4 ?kz_r4_5 ?kz_r4_6 ?kz_r4_7; (case kz_r4_0 => k_is); (case kz_r4_1 => k_is); (case kz_r4_2 => k_is); (case kz_r4_3 => k_is); (case kz_r4_4 => k_is); (case kz_r4_5 => k_is); (case kz_r4_6 => k_is); (case kz_r4_7 => k_is)))
    (case kz_r5 => (refine' Ke.erK_mk ?kz_r5_0 ?kz_r5_1 ?kz_r5_2 ?kz_r5_3 ?kz_r5_4 ?kz_r5_5 ?kz_r5_6 ?kz_r5_7; (case kz_r5_0 => k_is); (case kz_r5_1 => k_is); (case kz_r5_2 => k_is); (case kz_r5_3 => k_is); (case kz_r5_4 => k_is); (case kz_r5_5 => k_is); (case kz_r5_6 => k_is); (case kz_r5_7 => k_is)))
    (case kz_r6 => (refine' Ke.erK_mk ?kz_r6_0 ?kz_r6_1 ?kz_r6_2 ?kz_r6_3 ?kz_r6_4 ?kz_r6_5 ?kz_r6_6 ?kz_r6_7; (case kz_r6_0 => k_is); (case kz_r6_1 => k_is); (case kz_r6_2 => k_is); (case kz_r6_3 => k_is); (case kz_r6_4 => k_is); (case kz_r6_5 => k_is); (case kz_r6_6 => k_is); (case kz_r6_7 => k_is)))
    (case kz_e0 => (refine' Ke.excC_mk ?kz_e0_0 ?kz_e0_1 ?kz_e0_2 ?kz_e0_3 ?kz_e0_4 ?kz_e0_5 ?kz_e0_6 ?kz_e0_7; (case kz_e0_0 => k_is); (case kz_e0_1 => k_is); (case kz_e0_2 => k_is); (case kz_e0_3 => k_is); (case kz_e0_4 => k_is); (case kz_e0_5 => k_is); (case kz_e0_6 => k_is); (case kz_e0_7 => k_is)))
    (case kz_e1 => (refine' Ke.excC_mk ?kz_e1_0 ?kz_e1_1 ?kz_e1_2 ?kz_e1_3 ?kz_e1_4 ?kz_e1_5 ?kz_e1_6 ?kz_e1_7; (case kz_e1_0 => k_is); (case kz_e1_1 => k_is); (case kz_e1_2 => k_is); (case kz_e1_3 => k_is); (case kz_e1_4 => k_is); (case kz_e1_5 => k_is); (case kz_e1_6 => k_is); (case kz_e1_7 => k_is)))
    (case kz_e2 => (refine' Ke.excC_mk ?kz_e2_0 ?kz_e2_1 ?kz_e2_2 ?kz_e2_3 ?kz_e2_4 ?kz_e2_5 ?kz_e2_6 ?kz_e2_7; (case kz_e2_0 => k_is); (case kz_e2_1 => k_is); (case kz_e2_2 => k_is); (case kz_e2_3 => k_is); (case kz_e2_4 => k_is); (case kz_e2_5 => k_is); (case kz_e2_6 => k_is); (case kz_e2_7 => k_is)))
    (case kz_e3 => (refine' Ke.excC_mk ?kz_e3_0 ?kz_e3_1 ?kz_e3_2 ?kz_e3_3 ?kz_e3_4 ?kz_e3_5 ?kz_e3_6 ?kz_e3_7; (case kz_e3_0 => k_is); (case kz_e3_1 => k_is); (case kz_e3_2 => k_is); (case kz_e3_3 => k_is); (case kz_e3_4 => k_is); (case kz_e3_5 => k_is); (case kz_e3_6 => k_is); (case kz_e3_7 => k_is)))
    (case kz_e4 => (refine' Ke.excC_mk ?kz_e4_0 ?kz_e4_1 ?kz_e4_2 ?kz_e4_3 ?kz_e4_4 ?kz_e4_5 ?kz_e4_6 ?kz_e4_7; (case kz_e4_0 => k_is); (case kz_e4_1 => k_is); (case kz_e4_2 => k_is); (case kz_e4_3 => k_is); (case kz_e4_4 => k_is); (case kz_e4_5 => k_is); (case kz_e4_6 => k_is); (case kz_e4_7 => k_is)))
    (case kz_e5 => (refine' Ke.excC_mk ?kz_e5_0 ?kz_e5_1 ?kz_e5_2 ?kz_e5_3 ?kz_e5_4 ?kz_e5_5 ?kz_e5_6 ?kz_e5_7; (case kz_e5_0 => k_is); (case kz_e5_1 => k_is); (case kz_e5_2 => k_is); (case kz_e5_3 => k_is); (case kz_e5_4 => k_is); (case kz_e5_5 => k_is); (case kz_e5_6 => k_is); (case kz_e5_7 => k_is)))
    (case kz_e6 => (refine' Ke.excC_mk ?kz_e6_0 ?kz_e6_1 ?kz_e6_2 ?kz_e6_3 ?kz_e6_4 ?kz_e6_5 ?kz_e6_6 ?kz_e6_7; (case kz_e6_0 => k_is); (case kz_e6_1 => k_is); (case kz_e6_2 => k_is); (case kz_e6_3 => k_is); (case kz_e6_4 => k_is); (case kz_e6_5 => k_is); (case kz_e6_6 => k_is); (case kz_e6_7 => k_is)))
    (case kz_e7 => (refine' Ke.excC_mk ?kz_e7_0 ?kz_e7_1 ?kz_e7_2 ?kz_e7_3 ?kz_e7_4 ?kz_e7_5 ?kz_e7_6 ?kz_e7_7; (case kz_e7_0 => k_is); (case kz_e7_1 => k_is); (case kz_e7_2 => k_is); (case kz_e7_3 => k_is); (case kz_e7_4 => k_is); (case kz_e7_5 => k_is); (case kz_e7_6 => k_is); (case kz_e7_7 => k_is)))
    (case kz_e8 => (refine' Ke.excC_mk ?kz_e8_0 ?kz_e8_1 ?kz_e8_2 ?kz_e8_3 ?kz_e8_4 ?kz_e8_5 ?kz_e8_6 ?kz_e8_7; (case kz_e8_0 => k_is); (case kz_e8_1 => k_is); (case kz_e8_2 => k_is); (case kz_e8_3 => k_is); (case kz_e8_4 => k_is); (case kz_e8_5 => k_is); (case kz_e8_6 => k_is); (case kz_e8_7 => k_is)))
    (case kz_x7 => k_exc)
    (case kz_k7 => k_is)
    (case kz_x8 => k_exc)
    (case kz_k8 => k_is)
    (case kz_t0 => ((repeat (refine Ke.KitL.cons (by kit_is) ?_)); exact Ke.KitL.nil))
    (case kz_t1 => ((repeat (refine Ke.KitL.cons (by kit_is) ?_)); exact Ke.KitL.nil))
    (case kz_t2 => ((repeat (refine Ke.KitL.cons (by kit_is) ?_)); exact Ke.KitL.nil))
    (case kz_t3 => ((repeat (refine Ke.KitL.cons (by kit_is) ?_)); exact Ke.KitL.nil))
    (case kz_t4 => ((repeat (refine Ke.KitL.cons (by kit_is) ?_)); exact Ke.KitL.nil))
    (case kz_t5 => ((repeat (refine Ke.KitL.cons (by kit_is) ?_)); exact Ke.KitL.nil))
    (case kz_t6 => ((repeat (refine Ke.KitL.cons (by kit_is) ?_)); exact Ke.KitL.nil))
    (case kz_t7 => ((repeat (refine Ke.KitL.cons (by kit_is) ?_)); exact Ke.KitL.nil))
    (case kz_t8 => ((repeat (refine Ke.KitL.cons (by kit_is) ?_)); exact Ke.KitL.nil))
    (case kz_n6 => exact Ke.noT_mk (by kit_is) (by kit_is) (by kit_is) (by kit_is))
    (case kz_n7 => exact Ke.noT_mk (by kit_is) (by kit_is) (by kit_is) (by kit_is))
    (case kz_b_abs => k_is)
    (case kz_b_int => k_is)
    (case kz_b_len => k_is)
    (case kz_b_range => k_is)
    (case kz_b_repr => k_is)
    (case kz_b_isi => k_is)
    (case kz_b_str => k_is)
    (case kz_b_tuple => k_is)
    (case kz_b_list => k_is)
    (case kz_b_bool => k_is)
    (case kz_b_all => k_is)
    (case kz_b_zip => k_is)
    (case kz_b_enum => k_is)
    (case kz_ckw => k_is)
    (case kz_csg => k_is)
    (case kz_lkw => k_is)
    (case kz_vkw => ((repeat (refine .cons ⟨_, rfl⟩ ?_)); exact .nil))
    (case kz_zkw => exact Nat.le_of_ble_eq_true rfl)
    (case kz_lsg => k_is)
    (case kz_vsg => ((repeat (refine .cons ⟨_, rfl⟩ ?_)); exact .nil))
    (case kz_zsg => exact Nat.le_of_ble_eq_true rfl)
    (case kz_cl => k_is)
    (case kz_cd => k_is)
    (case kz_cn => k_is)
    (case kz_cm => k_is)
    (case kz_F18 => (refine' Ke.fnK_mk ?kz_F18_a ?kz_F18_l ?kz_F18_c ?kz_F18_k; (case kz_F18_a => k_is); (case kz_F18_l => k_is); (case kz_F18_c => k_is); (case kz_F18_k => k_is)))
    (case kz_F19 => (refine' Ke.fnK_mk ?kz_F19_a ?kz_F19_l ?kz_F19_c ?kz_F19_k; (case kz_F19_a => k_is); (case kz_F19_l => k_is); (case kz_F19_c => k_is); (case kz_F19_k => k_is)))
    (case kz_F20 => (refine' Ke.fnK_mk ?kz_F20_a ?kz_F20_l ?kz_F20_c ?kz_F20_k; (case kz_F20_a => k_is); (case kz_F20_l => k_is); (case kz_F20_c => k_is); (case kz_F20_k => k_is)))
    (case kz_F21 => (refine' Ke.fnK_mk ?kz_F21_a ?kz_F21_l ?kz_F21_c ?kz_F21_k; (case kz_F21_a => k_is); (case kz_F21_l => k_is); (case kz_F21_c => k_is); (case kz_F21_k => k_is)))
    (case kz_F23 => (refine' Ke.fnK_mk ?kz_F23_a ?kz_F23_l ?kz_F23_c ?kz_F23_k; (case kz_F23_a => k_is); (case kz_F23_l => k_is); (case kz_F23_c => k_is); (case kz_F23_k => k_is)))
    (case kz_F24 => (refine' Ke.fnK_mk ?kz_F24_a ?kz_F24_l ?kz_F24_c ?kz_F24_k; (case kz_F24_a => k_is); (case kz_F24_l => k_is); (case kz_F24_c => k_is); (case kz_F24_k => k_is)))
    (case kz_F25 => (refine' Ke.fnK_mk ?kz_F25_a ?kz_F25_l ?kz_F25_c ?kz_F25_k; (case kz_F25_a => k_is); (case kz_F25_l => k_is); (case kz_F25_c => k_is); (case kz_F25_k => k_is)))
    (case kz_F26 => (refine' Ke.fnK_mk ?kz_F26_a ?kz_F26_l ?kz_F26_c ?kz_F26_k; (case kz_F26_a => k_is); (case kz_F26_l => k_is); (case kz_F26_c => k_is); (case kz_F26_k => k_is)))
    (case kz_F28 => (refine' Ke.fnK_mk ?kz_F28_a ?kz_F28_l ?kz_F28_c ?kz_F28_k; (case kz_F28_a => k_is); (case kz_F28_l => k_is); (case kz_F28_c => k_is); (case kz_F28_k => k_is)))
    (case kz_F29 => (refine' Ke.fnK_mk ?kz_F29_a ?kz_F29_l ?kz_F29_c ?kz_F29_k; (case kz_F29_a => k_is); (case kz_F29_l => k_is); (case kz_F29_c => k_is); (case kz_F29_k => k_is)))
    (case kz_F30 => (refine' Ke.fnK_mk ?kz_F30_a ?kz_F30_l ?kz_F30_c ?kz_F30_k; (case kz_F30_a => k_is); (case kz_F30_l => k_is); (case kz_F30_c => k_is); (case kz_F30_k => k_is)))
    (case kz_F31 => (refine' Ke.fnK_mk ?kz_F31_a ?kz_F31_l ?kz_F31_c ?kz_F31_k; (case kz_F31_a => k_is); (case kz_F31_l => k_is); (case kz_F31_c => k_is); (case kz_F31_k => k_is)))
    (case kz_F32 => (refine' Ke.fnK_mk ?kz_F32_a ?kz_F32_l ?kz_F32_c ?kz_F32_k; (case kz_F32_a => k_is); (case kz_F32_l => k_is); (case kz_F32_c => k_is); (case kz_F32_k => k_is)))
    (case kz_F33 => (refine' Ke.fnK_mk ?kz_F33_a ?kz_F33_l ?kz_F33_c ?kz_F33_k; (case kz_F33_a => k_is); (case kz_F33_l => k_is); (case kz_F33_c => k_is); (case kz_F33_k => k_is)))
    (case kz_F34 => (refine' Ke.fnK_mk ?kz_F34_a ?kz_F34_l ?kz_F34_c ?kz_F34_k; (case kz_F34_a => k_is); (case kz_F34_l => k_is); (case kz_F34_c => k_is); (case kz_F34_k => k_is)))
    (case kz_F35 => (refine' Ke.fnK_mk ?kz_F35_a ?kz_F35_l ?kz_F35_c ?kz_F35_k; (case kz_F35_a => k_is); (case kz_F35_l => k_is); (case kz_F35_c => k_is); (case kz_F35_k => k_is)))
    (case kz_F36 => (refine' Ke.fnK_mk ?kz_F36_a ?kz_F36_l ?kz_F36_c ?kz_F36_k; (case kz_F36_a => k_is); (case kz_F36_l => k_is); (case kz_F36_c => k_is); (case kz_F36_k => k_is)))
    (case kz_F37 => (refine' Ke.fnK_mk ?kz_F37_a ?kz_F37_l ?kz_F37_c ?kz_F37_k; (case kz_F37_a => k_is); (case kz_F37_l => k_is); (case kz_F37_c => k_is); (case kz_F37_k => k_is)))
    (case kz_F38 => (refine' Ke.fnK_mk ?kz_F38_a ?kz_F38_l ?kz_F38_c ?kz_F38_k; (case kz_F38_a => k_is); (case kz_F38_l => k_is); (case kz_F38_c => k_is); (case kz_F38_k => k_is)))
    (case kz_F39 => (refine' Ke.fnK_mk ?kz_F39_a ?kz_F39_l ?kz_F39_c ?kz_F39_k; (case kz_F39_a => k_is); (case kz_F39_l => k_is); (case kz_F39_c => k_is); (case kz_F39_k => k_is)))
    (case kz_F40 => (refine' Ke.fnK_mk ?kz_F40_a ?kz_F40_l ?kz_F40_c ?kz_F40_k; (case kz_F40_a => k_is); (case kz_F40_l => k_is); (case kz_F40_c => k_is); (case kz_F40_k => k_is)))
    (case kz_F41 => (refine' Ke.fnK_mk ?kz_F41_a ?kz_F41_l ?kz_F41_c ?kz_F41_k; (case kz_F41_a => k_is); (case kz_F41_l => k_is); (case kz_F41_c => k_is); (case kz_F41_k => k_is)))
    (case kz_F42 => (refine' Ke.fnK_mk ?kz_F42_a ?kz_F42_l ?kz_F42_c ?kz_F42_k; (case kz_F42_a => k_is); (case kz_F42_l => k_is); (case kz_F42_c => k_is); (case kz_F42_k => k_is)))
    (case kz_F43 => (refine' Ke.fnK_mk ?kz_F43_a ?kz_F43_l ?kz_F43_c ?kz_F43_k; (case kz_F43_a => k_is); (case kz_F43_l => k_is); (case kz_F43_c => k_is); (case kz_F43_k => k_is)))
    (case kz_F44 => (refine' Ke.fnK_mk ?kz_F44_a ?kz_F44_l ?kz_F44_c ?kz_F44_k; (case kz_F44_a => k_is); (case kz_F44_l => k_is); (case kz_F44_c => k_is); (case kz_F44_k => k_is)))
    (case kz_F45 => (refine' Ke.fnK_mk ?kz_F45_a ?kz_F45_l ?kz_F45_c ?kz_F45_k; (case kz_F45_a => k_is); (case kz_F45_l => k_is); (case kz_F45_c => k_is); (case kz_F45_k => k_is)))
    (case kz_F46 => (refine' Ke.fnK_mk ?kz_F46_a ?kz_F46_l ?kz_F46_c ?kz_F46_k; (case kz_F46_a => k_is); (case kz_F46_l => k_is); (case kz_F46_c => k_is); (case kz_F46_k => k_is)))
#print axioms PySem.Challenge.cw_endsahead_k00_errors_and_words_of_any_va_holds

