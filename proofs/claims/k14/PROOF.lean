import PyProof.Rows.All
import Wide.All
import OpenK.AllK
import Wide.FinOn
import HandS.ForMost
import HandS.IsInst
import HandS.Property
import HandS.OwnEq
import HandS.Star
import HandS.ClsMeth
import HandS.Codes
import HandS.Zip
import HandS.WideBits
import HandS.Evl
import HandS.Defaults
import HandS.Strs
import HandS.Walk
import HandS.Style
import HandS.FStr
import KE.KOpsOwn
import HandS.FStrTup
import HandS.Conv
import PySem.Challenge.RW_lanelots_k14_whole_origins
set_option Elab.async false
set_option linter.all false
set_option maxRecDepth 100000
set_option maxHeartbeats 4000000
namespace LL
open PySem L2 PySem.Spec PyProof.Rows
/-! ### promises that hold where no guard stands (or a known one) -/
/-- what is promised of a def, wherever Γ holds of what is under way -/
structure FnQ (Γ : Around → Prop) (P : Program) (w : World) (K : PySem.W.Frag) (mg : Str → Option Value) (base : Heap) (k : Nat) (f : Addr) (fd : FuncData) (ps : List Str) (sp : Sp) : Prop where
  cnt : ∀ xs G R J, sp xs G R J → xs.length = ps.length
  go : ∀ (B : Around) (envs : List Env) (t : Shared) (G : Hp) (ar : Args) (is : List Value) (xs : List V) (R : VK) (J : XK), Room k B → Γ B → Env0 P w K mg base B envs t G → BindsTo t fd ar (ps.zip is) → Vals xs is → sp xs G R J →
    codeAny (model P w) B (.call (.ref f) ar) (CR C8.CX0 envs P w G t R J) t
abbrev NoG (A : Around) : Prop := A.guards = some []
section
variable {Γ : Around → Prop} {P : Program} {w : World} {K : PySem.W.Frag} {mg : Str → Option Value} {base : Heap}
theorem fnQ0 (hΓ : ∀ A env, Γ A → Γ (A.deeper env)) {x qual : Str} {st : Stmt} {f : Addr} {fd : FuncData} {N ps : List Str} {k : Nat} {sp : Sp} (F : C8.Fun K x qual st f fd) (S : FnScope N ps (C8.fnScope st)) (cnt : ∀ xs G R J, sp xs G R J → xs.length = ps.length)
    (body : ∀ (cdv : Value) (B : Around) (envs : List Env) (t : Shared) (G : Hp) (xs : List V) (R : VK) (J : XK), Room k (B.deeper (envOfC qual (C8.fnScope st) t.heap.objs.size f cdv)) → Γ (B.deeper (envOfC qual (C8.fnScope st) t.heap.objs.size f cdv)) → sp xs G R J →
      ∃ u, PSs (cxOf C8.CX0 P w K mg base N qual (C8.fnScope st) f cdv B envs t G J).nox (C8.fnBody st) u ∧ u { nx := fun _ G' => R .non G', rt := R } (start N xs) G) : FnQ Γ P w K mg base (k + 1) f fd ps sp := by
  obtain ⟨oc, od, dV, kV, doc, pm, an, cdv, ct, osl, rfl, lk, hc⟩ := F.ex
  refine ⟨cnt, fun B envs t G ar is xs R J rm hB e0 hb r hs => ?_⟩
  have inK : K.In t.heap := e0.mod.kin.keeps fun b o e => (e0.bs b o e).1
  have free : t.heap.NoLimit := e0.mod.nolimit.keeps fun b o e => (e0.bs b o e).1
  refine codeAny_call_function rm.depth (inK _ _ lk) rfl S.co S.gen rfl (PySem.W.codeRec_of inK hc) (hb _ _ _ _ (wpAny_newFunctionEnv_cells S.kind (fun ⟨n, v⟩ hy => ?_) fun env he s1 z => ?_))
  · exact (S.par n (List.of_mem_zip hy).1).elim .inl fun q => .inr ⟨q, PySem.W.cellsFrom_some _ _ _ (.inl q)⟩
  subst he
  obtain ⟨u, hu, hq⟩ := body cdv B envs t G xs R J (rm.deeper _) (hΓ _ _ hB) hs
  refine ⟨free.keeps z.toInCall.keep, codeAny_func (wpAny_mono (hu.nox.run [] s1 (start N xs) G _ (inv_start S rm.hd e0 (cnt _ _ _ _ hs) r z) hq) (fun fl s' q => ?_) fun _ _ q => q)⟩
  cases fl with
  | brk => exact (q.choose_spec.choose_spec.2).elim
  | cont => exact (q.choose_spec.choose_spec.2).elim
  | next =>
    obtain ⟨_, G', I, q⟩ := q
    exact ⟨V.non, G', I.os, I.bare, I.base, I.hok, rfl, q⟩
  | ret v =>
    obtain ⟨v', _, G', I, rv, q⟩ := q
    exact ⟨v', G', I.os, I.bare, I.base, I.hok, rv, q⟩
theorem fnQ_of {k : Nat} {f : Addr} {fd : FuncData} {ps : List Str} {sp : Sp} (F : FnOk P w K mg base C8.CX0 k f fd ps sp) : FnQ Γ P w K mg base k f fd ps sp :=
  ⟨F.len, fun B envs t G ar is xs R J rm _ e0 hb r hs => F.run B envs t G ar is xs R J rm e0 hb r hs⟩
/-- a def of the module that is promised so -/
structure CalQ (Γ : Around → Prop) (P : Program) (w : World) (K : PySem.W.Frag) (mg : Str → Option Value) (base : Heap) (k : Nat) (x : Str) (sp : Sp) : Prop where
  ex : ∃ (f : Addr) (fd : FuncData) (ps : List Str), FnQ Γ P w K mg base k f fd ps sp ∧ mg x = some (.ref f) ∧ PySem.W.keepIn K (.ref f) = true ∧ Binds K fd ps []
end
section
variable {Γ : Around → Prop} {X : Cx} {k j : Nat} {x : Str} {sp : Sp} {f : Addr} {fd : FuncData} {ps : List Str} {p pos : Pos} {e : Expr} {es : List Expr} {t : TA}
theorem runQ {pins : List (Addr × Obj)} {σ : L2.St} {G : Hp} {s : Shared} {R : VK} {is : List Value} {xs : List V} (F : FnQ Γ X.prog X.w X.K X.mg X.base k f fd ps sp) (rm : Room k X.A) (hA : Γ X.A) (hb : Binds X.K fd ps []) (I : Inv X pins σ G s) (r : Vals xs is) (hs : sp xs G R C8.E0) :
    wpAny (model X.prog X.w) X.A (call (.ref f) is) (EP X pins σ R) X.xe s := by
  have hl : (is ++ []).length = ps.length := by rw [List.append_nil, ← r.length]; exact F.cnt _ _ _ _ hs
  have b := hb s is I.kIn hl
  rw [List.append_nil] at b
  refine wpAny_call (codeAny_mono (F.go X.A X.stack s G ⟨is, []⟩ is xs R C8.E0 rm hA I.env0 b r hs) fun z s' q => ?_)
  match z, q with
  | .error _, q => exact q.elim
  | .ok (.ret v), q => exact I.after q
theorem pe_cQ (c : CalQ Γ X.prog X.w X.K X.mg X.base k x sp) (rm : Room j X.A) (hk : k ≤ j) (hA : Γ X.A) (hg : Gl X x) (ha : PA X (e :: es) t)
    (hdb : (x == ("__debug__" : Str)) = false := by decide) (he : starEach (e :: es) X.env = (false, eval e X.env) :: starEach es X.env := by rfl) (hpl : (backTo pos (starEach es X.env)).any (·.1) = false := by rfl) :
    PE X (.Call (.Name x p) (e :: es) [] pos) (tCall sp [] C8.E0 t) := by
  obtain ⟨f, fd, ps, F, hm, kp, b⟩ := c.ex
  refine ⟨fun pins s σ G R I h => wpAny_Call_Name_kw (ld_glob I hg hm ?_ hdb)⟩
  refine PySem.W.callWith_K (h₀ := X.base) I.ok.mod.kin kp (thn (ha.run pos pins s σ G _ I h) fun is s1 ⟨xs, G1, I1, r, q⟩ => ⟨I1.kIn, ?_⟩) he hpl
  have q' : sp (xs ++ []) G1 R C8.E0 := q
  rw [List.append_nil] at q'
  exact runQ F (rm.mono hk) hA b I1 r q'
end
theorem noG_deep (A : Around) (env : Env) (h : NoG A) : NoG (A.deeper env) := h
/-! ### the end of a law whose promise is of that kind -/
section
variable {P : Program} {w : World} {K : PySem.W.Frag} {mg mb : Str → Option Value} {k : Nat} {fa a : Addr} {fd : FuncData} {x : Str} {sp : Sp} {t : Shared} {vs : List Value} {ns : List Int}
/-- the one object that may be known at the entry: the script -/
def one (a : Addr) (o : HO) : Hp := fun b => if b = a then some o else none
theorem one_at {a : Addr} {o : HO} : one a o a = some o := if_pos rfl
theorem one_ne {a b : Addr} {o : HO} (n : b ≠ a) : one a o b = none := if_neg n
theorem entryQ (inK : K.In t.heap) (hns : t.heap.Ns mainGlobals mg) (hb : t.heap.Ns builtinsNs mb) (hbb : ∀ x : Str, x ≠ "__name__" → mb x = bootBuiltins x) (free : t.heap.NoLimit) (hg : t.gens = #[]) (rm : Room k callerA)
    (F : ∀ base : Heap, K.In base → base.Ns mainGlobals mg → FnQ NoG P w K mg base k fa fd [x] sp) (bd : ∀ (s : Shared) (u : Value), BindsTo s fd ⟨[u], []⟩ [(x, u)])
    {G : Hp} (only : Only G) (ok : HOk P w G t.heap) (hs : sp [.ref a] G (fun v _ => v = .bl true) C8.E0) (ob : ∃ v : Value, ∃ dx : Array Value, ∃ n, v = .ref a ∧ (∀ b, G b ≠ none → b = a) ∧ t.heap.get? a = some { cls := .type "list", data := .seq dx n }) (off : G a ≠ none → K.lookup a = none) :
    codeAny (model P w) callerA (.call (.ref fa) ⟨[.ref a], []⟩) (fun r s' => r = .ok (.ret (.bool true)) ∧ OldK t.heap s'.heap ∧ s'.os = t.os ∧ AllBare s'.gens) t := by
  obtain ⟨_, dx, n, _, un, ha⟩ := ob
  have stays : ∀ {b o}, t.heap.get? b = some o → G b = none → (hidT t.heap G).get? b = some o := fun e h => hidT_get e h
  have away : ∀ {b : Addr} {m : Str → Option Value}, t.heap.Ns b m → (hidT t.heap G).Ns b m := fun {b m} ⟨o, es, ep, e, d, r⟩ => by
    refine ⟨o, es, ep, stays e ?_, d, r⟩
    match q : G b with
    | none => rfl
    | some u =>
      obtain rfl : b = a := un b (by rw [q]; exact nofun)
      rw [ha] at e
      cases e
      cases d
  have inB : K.In (hidT t.heap G) := fun b o e => by
    refine stays (inK b o e) ?_
    match q : G b with
    | none => rfl
    | some u =>
      obtain rfl : b = a := un b (by rw [q]; exact nofun)
      rw [off (by rw [q]; exact nofun)] at e
      cases e
  obtain ⟨mc, f1, f2⟩ := free
  have md : Mod K mg (hidT t.heap G) := ⟨inB, away hns, ⟨mb, away hb, hbb⟩, mc, away f1, f2⟩
  have env : Env0 P w K mg (hidT t.heap G) callerA [] t G := ⟨rfl, md, fun b o e => of_hidT e, Nat.le_of_eq (hidT_size _ _), trivial, (fun b h => by cases h), ok, .of_eq hg⟩
  refine codeAny_mono ((F _ inB (away hns)).go callerA [] t G ⟨[.ref a], []⟩ [.ref a] [.ref a] _ _ rm rfl env (bd t (.ref a)) (.cons rfl .nil) hs) fun r s' h => ?_
  match r, h with
  | .error _, h => exact h.elim
  | .ok (.ret u), h =>
    obtain ⟨v, G', os, bare, un', ok', rv, q⟩ := h
    obtain rfl : v = .bl true := q
    obtain rfl : u = Value.bool true := rv
    refine ⟨rfl, OldK.of_keep fun b o e => ?_, os, bare⟩
    rcases only b with z | ⟨ob, xs, z⟩
    · exact un'.keep b o e z (fun h => by cases h) (fun h => by cases h)
    · obtain ⟨e1, _⟩ := ok b _ z
      obtain ⟨e2, _⟩ := ok' b _ (un'.frzs b ob _ z)
      rw [e] at e1
      cases e1
      exact e2
theorem entryQ' (inK : K.In t.heap) (hns : t.heap.Ns mainGlobals mg) (hb : t.heap.Ns builtinsNs mb) (hbb : ∀ x : Str, x ≠ "__name__" → mb x = bootBuiltins x) (free : t.heap.NoLimit) (hg : t.gens = #[]) (rm : Room k callerA)
    (F : ∀ base : Heap, K.In base → base.Ns mainGlobals mg → FnQ NoG P w K mg base k fa fd [x] sp) (bd : ∀ (s : Shared) (u : Value), BindsTo s fd ⟨[u], []⟩ [(x, u)])
    (ha : t.heap.get? a = some { cls := .type "list", data := .seq vs.toArray }) (hi : IntsAre vs ns) (hl : ns.length ≤ sizeLine) (hs : ∀ G : Hp, SqL K G a (ns.map V.int) → sp [.ref a] G (fun v _ => v = .bl true) C8.E0) :
    codeAny (model P w) callerA (.call (.ref fa) ⟨[.ref a], []⟩) (fun r s' => r = .ok (.ret (.bool true)) ∧ OldK t.heap s'.heap ∧ s'.os = t.os ∧ AllBare s'.gens) t := by
  match hk : K.lookup a with
  | some o =>
    have e := inK a o hk
    rw [ha] at e
    cases e
    exact entryQ inK hns hb hbb free hg rm F bd (G := fun _ => none) (fun _ => .inl rfl) (fun b u z => by cases z) (hs _ (.inr ⟨_, vs.toArray, _, hk, rfl, rfl, rfl, by rw [List.size_toArray, hi.length]; exact hl, vals_ints hi⟩)) ⟨_, _, _, rfl, fun b z => absurd rfl z, ha⟩ fun z => absurd rfl z
  | none =>
    refine entryQ inK hns hb hbb free hg rm F bd (G := one a (.frz { cls := .type "list", data := .seq vs.toArray } (.lst (ns.map V.int)))) (fun b => ?_) (fun b u z => ?_) (hs _ (.inl (.inr ⟨_, one_at⟩))) ⟨_, _, _, rfl, fun b z => ?_, ha⟩ fun _ => hk
    · by_cases h : b = a
      · exact .inr ⟨_, _, by rw [h]; exact one_at⟩
      · exact .inl (one_ne h)
    · by_cases h : b = a
      · subst h
        obtain rfl := Option.some.inj (one_at.symm.trans z)
        exact ⟨ha, by rw [List.length_map]; exact hl, vs, _, vals_ints hi, ha⟩
      · rw [one_ne h] at z
        cases z
    · by_cases h : b = a
      · exact h
      · exact absurd (one_ne h) z
end
theorem walkQ {l : PySem.W.OpenLaw} {n k : Nat} {q : Program} {loose : List Str} {XP : (Str → Option Value) → Heap → Prop} {YP : World → Heap → Prop} {d : DefRec} {K : Params → PySem.W.Frag} {sp : PySem.W.Frag → Sp} {x : Str} (hn : l.most = some n) (hn2 : n ≤ sizeLine) (hdf : d.params.defaults = []) (rm : Room k callerA)
    (hY : ∀ (w : World) (h : Heap), YP w h → (K w.params).In h)
    (F : ∀ (w : World) (mg : Str → Option Value) (fa : Addr) (h : Heap), (K w.params).In h → h.Ns mainGlobals mg → mg d.name = some (.ref fa) →
      ∃ fd : FuncData, (∀ (s : Shared) (u : Value), BindsTo s fd ⟨[u], []⟩ [(x, u)]) ∧ ∀ base : Heap, (K w.params).In base → base.Ns mainGlobals mg → FnQ NoG l.prog w (K w.params) mg base k fa fd [x] (sp (K w.params)))
    (hs : ∀ (K : PySem.W.Frag) (G : Hp) (a : Addr) (ns : List Int), ns.length ≤ n → SqL K G a (ns.map V.int) → sp K [.ref a] G (fun v _ => v = .bl true) C8.E0) :
    PySem.W.WalkO q loose XP YP l.row.toRowW d [] (fun f vs => PySem.call f vs) :=
  Att.attach_call hn hdf fun w s₀ t mg mb fa o pm cd doc a vs ns G Y _ _ _ hm ho hi hl hg => by
    obtain ⟨fd, bd, hF⟩ := F w mg fa _ (hY w _ Y) G.T.g hm
    exact entryQ' (hY w _ Y) G.T.g G.T.b G.T.builtins G.T.nolimit hg rm hF bd ho hi (Nat.le_trans hl hn2) fun G hS => hs _ G a ns hl hS
end LL

namespace LL
open PySem L2 PySem.Spec PyProof.Rows
/-! ### item by item -/
def All2 {α β : Type} (R : α → β → Prop) (xs : List α) (ys : List β) : Prop := xs.length = ys.length ∧ ∀ (i : Nat) (x : α) (y : β), xs[i]? = some x → ys[i]? = some y → R x y
theorem All2.mono {α β : Type} {R S : α → β → Prop} {xs : List α} {ys : List β} (h : ∀ x y, R x y → S x y) (a : All2 R xs ys) : All2 S xs ys := ⟨a.1, fun i x y h1 h2 => h x y (a.2 i x y h1 h2)⟩
theorem All2.get {α β : Type} {R : α → β → Prop} {xs : List α} {ys : List β} {i : Nat} {x : α} (a : All2 R xs ys) (h : xs[i]? = some x) : ∃ y, ys[i]? = some y ∧ R x y := by
  have hl := (List.getElem?_eq_some_iff.mp h).1
  rw [a.1] at hl
  exact ⟨ys[i], List.getElem?_eq_getElem hl, a.2 i x _ h (List.getElem?_eq_getElem hl)⟩
theorem All2.get' {α β : Type} {R : α → β → Prop} {xs : List α} {ys : List β} {i : Nat} {y : β} (a : All2 R xs ys) (h : ys[i]? = some y) : ∃ x, xs[i]? = some x ∧ R x y := by
  have hl := (List.getElem?_eq_some_iff.mp h).1
  rw [← a.1] at hl
  exact ⟨xs[i], List.getElem?_eq_getElem hl, a.2 i _ y (List.getElem?_eq_getElem hl) h⟩
theorem All2.nil {α β : Type} {R : α → β → Prop} : All2 R [] [] := ⟨rfl, fun i x y h _ => by simp at h⟩
theorem All2.snoc {α β : Type} {R : α → β → Prop} {xs : List α} {ys : List β} {x : α} {y : β} (a : All2 R xs ys) (h : R x y) : All2 R (xs ++ [x]) (ys ++ [y]) := by
  refine ⟨by rw [List.length_append, List.length_append, a.1]; rfl, fun i u v h1 h2 => ?_⟩
  rcases Nat.lt_trichotomy i xs.length with hi | hi | hi
  · rw [List.getElem?_append_left hi] at h1
    rw [List.getElem?_append_left (by rw [← a.1]; exact hi)] at h2
    exact a.2 i u v h1 h2
  · subst hi
    rw [List.getElem?_concat_length] at h1
    rw [a.1, List.getElem?_concat_length] at h2
    rw [← Option.some.inj h1, ← Option.some.inj h2]
    exact h
  · rw [List.getElem?_eq_none (by rw [List.length_append, List.length_singleton]; omega)] at h1
    cases h1
end LL

namespace LL
open PySem L2 PySem.Spec PyProof.Rows
/-! ### repr(..) of data -/
section
variable {X : Cx}
def rRepr (K : PySem.W.Frag) : List V → Hp → VK → Prop := fun xs H Q => ∃ (a : Addr) (d : PyData), xs = [V.ref a] ∧ Dp K H (.ref a) d ∧ d.showable = true ∧ d.hasDict = false ∧ d.depth ≤ 60 ∧ d.shown.length ≤ sizeLine ∧ Q (.str d.shown) H
theorem call_repr (hg : NoG X.A) (hu : X.A.units + 100 < cLine) : CallR X (.builtin "repr") (rRepr X.K) := by
  intro pins s σ H xs us Q I r h
  obtain ⟨a, d, rfl, hd, h1, h2, h3, h4, q⟩ := h
  obtain ⟨u, rfl, ru⟩ := vals1 r
  cases ru
  obtain ⟨as, hr⟩ := Dp.reads I d _ _ hd rfl
  exact repr_of_reads' (h₀ := s.heap) hr h1 (fun z => absurd (h2.symm.trans z) nofun) hg (by omega) (fun _ _ e => e) (fun h' u tk hk => ⟨.str _, H, I.kept hk, ⟨u, rfl⟩, q⟩) h4
/-! ### what is no data -/
/-- a list in which an object of a class stands -/
def Odd (H : Hp) (a : Addr) : Prop := ∃ p C dx fs xs, H a = some (.lst xs) ∧ V.ref p ∈ xs ∧ H p = some (.ins C dx fs)
theorem readsAll_mem {h : Heap} {v : Value} : ∀ {l : List Value} {ds : List PyData} {as : List Addr}, ReadsAll h l ds as → v ∈ l → ∃ d bs, Reads h v d bs
  | _, _, _, .cons r rs, hv => (List.mem_cons.mp hv).elim (fun e => ⟨_, _, e ▸ r⟩) fun e => readsAll_mem rs e
theorem vals_mem {p : Addr} : ∀ {xs : List V} {its : List Value}, Vals xs its → V.ref p ∈ xs → Value.ref p ∈ its
  | _, _, .cons r rs, hv => (List.mem_cons.mp hv).elim (fun e => by
      subst e
      cases r
      exact List.mem_cons_self) fun e => List.mem_cons_of_mem _ (vals_mem rs e)
theorem odd_reads {pins : List (Addr × Obj)} {σ : L2.St} {H : Hp} {s : Shared} (I : Inv X pins σ H s) {a : Addr} (o : Odd H a) {d : PyData} {as : List Addr} (r : Reads s.heap (.ref a) d as) : False := by
  obtain ⟨p, C, dx, fs, xs, ha, hm, hp⟩ := o
  obtain ⟨_, its, n, rv, e⟩ := I.hok a _ ha
  obtain ⟨mA, J, _⟩ := ins_get I.hok hp
  obtain ⟨od, J, _⟩ := J.look
  have noP : ∀ {d as}, ¬ Reads s.heap (.ref p) d as := fun r => by
    cases r with
    | list h1 h2 => rw [J.at_] at h1; cases h1; rw [J.cls] at h2; cases h2
    | tuple h1 h2 => rw [J.at_] at h1; cases h1; rw [J.cls] at h2; cases h2
    | dict h1 h2 => rw [J.at_] at h1; cases h1; rw [J.cls] at h2; cases h2
  cases r with
  | list h1 h2 h3 h4 =>
    rw [e] at h1
    cases h1
    cases h3
    obtain ⟨d, bs, q⟩ := readsAll_mem h4 (vals_mem rv hm)
    exact noP q
  | tuple h1 h2 => rw [e] at h1; cases h1; injection h2 with z; exact absurd z (by decide)
  | dict h1 h2 => rw [e] at h1; cases h1; injection h2 with z; exact absurd z (by decide)
/-! ### a list that is under way -/
/-- the list at a, and nothing else, is being told -/
def Und (a : Addr) (A : Around) : Prop := ∃ rest kw, A.guards = some [.builtin "list.__repr__.loop" ⟨.ref a :: rest, kw⟩]
theorem und_deep (a : Addr) (A : Around) (env : Env) (h : Und a A) : Und a (A.deeper env) := h
theorem clear_und {a b : Addr} {rest : List Value} {kw : List (Str × Value)} (n : b ≠ a) : Clear [.builtin "list.__repr__.loop" ⟨.ref a :: rest, kw⟩] b := (Clear.nil b).cons fun e => n e.symm
/-- {x} of a list of data, while another list is told -/
def tFmtD (K : PySem.W.Frag) (a : Addr) (te : TE) : TE := fun σ H Q => te σ H fun x H1 => ∃ (l : Addr) (xs : List V) (ds : List PyData), x = .ref l ∧ SqL K H1 l xs ∧ DpAll K H1 xs ds ∧ Odd H1 a ∧ PyData.showableAll ds = true ∧ PyData.hasDictAll ds = false ∧ PyData.depthAll ds ≤ 60 ∧ (listText (PyData.shownAll ds)).length ≤ sizeLine ∧ Q (.str (listText (PyData.shownAll ds))) H1
theorem pe_fmtD {a : Addr} {e : Expr} {te : TE} {pos : Pos} {k : Nat} (hA : Und a X.A) (hr : Room k X.A) (he : PE X e te) : PE X (.FormattedValue e (-1) none pos) (tFmtD X.K a te) := by
  refine ⟨fun pins s σ H Q I h => ?_⟩
  refine wpAny_FormattedValue_plain (thn (he.run pins s σ H _ I h) fun v s1 hv => ?_)
  obtain ⟨x, H1, I1, r1, l, xs, ds, rfl, hl, hd, odd, h1, h2, h3, h4, q⟩ := hv
  cases r1
  obtain ⟨its, rv, ⟨o, n, ho, hc, _, hda⟩, _⟩ := I1.list hl
  obtain ⟨as, hR⟩ := Dp.readsAll I1 ds _ its hd rv
  obtain ⟨rest, kw, hgd⟩ := hA
  have hun := hr.un
  have fin : ∀ (h' : Heap) (u tk : Tok), (∀ b o, s1.heap.get? b = some o → h'.get? b = some o) → ∃ x t, Value.str (listText (PyData.shownAll ds)) u = .str x t ∧ EP X pins σ Q (.str (listText (PyData.shownAll ds)) u) { s1 with heap := h', toks := tk } :=
    fun h' u tk hk => ⟨_, _, rfl, .str _, H1, I1.kept hk, ⟨u, rfl⟩, q⟩
  refine wpAny_formatField_slot (T := "list") (fun _ _ => nofun) (by omega) ⟨o, ho, hc⟩ F.slot_list_format F.slot_list_str F.slot_list_repr.toG ?_
  obtain ⟨bs, hb, hk⟩ := ReprAllK.of_readsAll (prog := X.prog) (w := X.w) hR h1 (fun z => absurd (h2.symm.trans z) nofun) (fun t ht => Nat.le_trans (listText_mem_le ht) h4)
  have hR' := Reads.list ho hc hda (by simpa using hR)
  have hna : l ∉ bs := not_mem_of_deeper hR' (by simp only [PyData.depth]; omega) hb
  cases its with
  | nil =>
    cases hR
    simp only [PyData.shownAll, listText_nil] at fin ⊢
    exact call_list_repr_empty (s := { s1 with toks := s1.toks + 1 }) ⟨o, ho, hc⟩ ho hda (fin s1.heap _ _ fun _ _ e => e)
  | cons y its =>
    refine call_list_reprK (s := { s1 with toks := s1.toks + 1 }) (g := [.builtin "list.__repr__.loop" ⟨.ref a :: rest, kw⟩]) (h₀ := s1.heap) ho hc hda hna (by simpa using hk.length_eq) (fun i y e => hk.item i y (by simpa using e)) hgd (fun b hb' => clear_und fun z => ?_) ?_ (fun _ _ e => e) (fun h' u tk hk => fin h' u tk hk) h4
    · subst z
      rcases List.mem_cons.mp hb' with z | z
      · subst z
        exact odd_reads I1 odd hR'
      · obtain ⟨d, as', r, _⟩ := hb _ z
        exact odd_reads I1 odd r
    · show X.A.units + 1 + 1 + _ < cLine
      omega
end
end LL

namespace LL
open PySem L2 PySem.Spec PyProof.Rows PySem.Builtin PySem.Builtin.List
/-! ### what stands in a list that is told -/
/-- x is told as t, while the list at a is under way -/
def Tells (X : Cx) (n : Nat) (a : Addr) (D : V → Str → Hp → Prop) : Prop :=
  ∀ (B : Around) (pins : List (Addr × Obj)) (s : Shared) (σ : L2.St) (G : Hp) (x : V) (t : Str) (u : Value) (c : Nat), Room n B → B.frames = X.A.frames → Und a B → Inv X pins σ G s → RelV x u → D x t G → Odd G a → c + t.length ≤ sizeLine →
    wpAny (model X.prog X.w) B (pyReprUnder c u) (fun t' s' => t' = t ∧ ∃ G', Inv X pins σ G' s' ∧ Ext G G') X.xe s
/-- as data -/
def TData (K : PySem.W.Frag) : V → Str → Hp → Prop := fun x t G => ∃ d, Dp K G x d ∧ d.showable = true ∧ d.hasDict = false ∧ d.depth ≤ 60 ∧ d.shown.length ≤ sizeLine ∧ t = d.shown
theorem tells_data {X : Cx} {n : Nat} {a : Addr} : Tells X n a (TData X.K) := by
  intro B pins s σ G x t u c rm fr ⟨rest, kw, hB⟩ I ru ⟨d, hd, h1, h2, h3, h4, e⟩ odd hz
  subst e
  obtain ⟨as, r⟩ := Dp.reads I d _ _ hd ru
  obtain ⟨bs, hb, hk⟩ := ReprK.of_reads (prog := X.prog) (w := X.w) r h1 (fun z => absurd (h2.symm.trans z) nofun) h4
  have hun := rm.un
  exact hk c hz B _ _ s _ hB (fun b m => clear_und fun z => by
    subst z
    obtain ⟨d', as', r', _⟩ := hb _ m
    exact odd_reads I odd r') (by omega) (fun _ _ e => e) fun h' tk k => ⟨rfl, G, I.kept k, Ext.rfl'⟩
/-- an object of the class at C, by its own __repr__ -/
def TOwn (C : Addr) (R : Addr → Str → Hp → Prop) : V → Str → Hp → Prop := fun x t G => ∃ p dx fs, x = .ref p ∧ G p = some (.ins C dx fs) ∧ R p t G
def spRepr (a : Addr) (R : Addr → Str → Hp → Prop) : Sp := fun vs G Q _ => ∃ p t, vs = [.ref p] ∧ R p t G ∧ Odd G a ∧ ∀ G', Ext G G' → Q (.str t) G'
theorem byBound {K : PySem.W.Frag} {M : Model} {B : Around} {J : Value → Shared → Prop} {s : Shared} {x C f : Addr} {ox : Obj} {od : Option Obj} {nm : Str} {last : Value → List Value → Sem Value} {Q : Option Value → Shared → Prop} (inK : K.In s.heap) (at_ : PySem.W.InstAt s.heap x ox C od)
    (hs : PySem.W.findIn K (.ref C) nm = some (some (.ref f))) (hf : PySem.W.isFn K (.ref f) = true) (h : wpAny M B (last (.ref f) [.ref x]) (fun v => Q (some v)) J s) : wpAny M B (callSpecialIfBoundBy? last (.ref x) nm) Q J s := by
  have bnd := PySem.W.bind_fn (M := M) inK (.ref x) (beq_iff_eq.mp hf)
  have end_ : wpAny M B (last (.ref f) [.ref x] >>= fun v => pure (some v)) Q J s := wpAny_bind (wpAny_mono h (fun v s' z => wpAny_pure z) fun _ _ z => z)
  simp only [callSpecialIfBoundBy?, bindSpecialIfBound?]
  refine wpAny_holding (wpAny_bind (wpAny_bind (wpAny_bind (at_.type.here ((PySem.W.looks_findIn inK hs).here (wpAny_bind (wpAny_askSetting (wpAny_ite ?_))))))))
  split
  · exact wpAny_bind (bnd.here (wpAny_pure end_))
  · exact wpAny_tryCatch (wpAny_bind (bnd.here (wpAny_pure end_)))
theorem tells_own {X : Cx} {n : Nat} {a C f : Addr} {fd : FuncData} {ps : List Str} {R : Addr → Str → Hp → Prop} (F : FnQ (Und a) X.prog X.w X.K X.mg X.base n f fd ps (spRepr a R)) (hs : PySem.W.findIn X.K (.ref C) "__repr__" = some (some (.ref f))) (hf : PySem.W.isFn X.K (.ref f) = true) (hb : Binds X.K fd ps []) :
    Tells X n a (TOwn C R) := by
  intro B pins s σ G x t u c rm fr hB I ru ⟨p, dx, fs, e, hp, hR⟩ odd hz
  subst e
  cases ru
  obtain ⟨mA, J, _⟩ := ins_get I.hok hp
  obtain ⟨od, J, _⟩ := J.look
  have hun := rm.un
  refine wpAny_pyReprUnder_ref (by omega) ?_
  unfold pyReprObjUnder pyReprObjBy
  refine wpAny_bind (wpAny_cRoomFor (by omega) (wpAny_bind (wpAny_bind (J.type.here ((PySem.W.looks_findIn I.kIn hs).here ?_)))))
  show wpAny _ _ (if (some (Value.ref f)).isNone = true then _ else _) _ _ _
  rw [if_neg (by simp)]
  refine wpAny_bind (byBound I.kIn J hs hf ?_)
  have sp : spRepr a R [.ref p] G (fun v G' => v = .str t ∧ Ext G G') C8.E0 := ⟨p, t, rfl, hR, odd, fun G' e => ⟨rfl, e⟩⟩
  have e0 : Env0 X.prog X.w X.K X.mg X.base B X.stack s G := ⟨fr.trans I.env0.frames, I.env0.mod, I.env0.bs, I.env0.bsz, I.env0.funs, I.env0.frf, I.env0.hok, I.env0.bare⟩
  have bd := hb s [.ref p] I.kIn (by simpa using F.cnt _ _ _ _ sp)
  refine wpAny_call (codeAny_mono (F.go B X.stack s G ⟨[.ref p], []⟩ [.ref p] [.ref p] _ C8.E0 rm hB e0 (by simpa using bd) (.cons rfl .nil) sp) fun z s' q => ?_)
  match z, q with
  | .error _, q => exact q.elim
  | .ok (.ret v), q =>
    obtain ⟨y, G', I', ry, ey, ex⟩ := I.after q
    subst ey
    obtain ⟨tk, rfl⟩ := ry
    exact wpAny_bind (wpAny_isInstance (T := "str") (b := true) (typeIs_str _ _ _) isSubtype_str_str (wpAny_pure ⟨t, tk, rfl, rfl, G', I', ex⟩))
/-! ### the list, item by item -/
structure Aside (X : Cx) (pins : List (Addr × Obj)) (P : Addr) : Prop where
  loc : P ≠ X.env.locals
  fs : P ∉ X.fs
  new : X.s_0.heap.objs.size ≤ P
  cell : ∀ x c, X.env.cells.lookup x = some c → c ≠ P
  pin : ∀ p ∈ X.pn ++ pins, p.1 ≠ P
section
variable {X : Cx} {pins : List (Addr × Obj)} {σ : L2.St}
theorem Aside.of {G : Hp} {s : Shared} (I : Inv X pins σ G s) : Aside X pins s.heap.objs.size := by
  refine ⟨fun z => ?_, I.nofs (Nat.le_refl _), I.sz, fun x c e z => ?_, fun p hp z => ?_⟩
  · exact absurd (z ▸ I.lt) (Nat.lt_irrefl _)
  · obtain ⟨v, hv⟩ := I.cell x c e
    subst z
    exact absurd (Heap.lt_size hv.choose_spec.1) (Nat.lt_irrefl _)
  · have := (I.pin p hp).1
    rw [z] at this
    exact absurd (Heap.lt_size this) (Nat.lt_irrefl _)
def pobj (acc : Array Value) (c : Nat) : Obj := { cls := .type "list", dict := none, data := .seq acc c, slots := #[] }
theorem Aside.on {G : Hp} {s : Shared} {P : Addr} {acc : Array Value} {c : Nat} (k : Aside X pins P) (I : Inv X pins σ G s) (h : s.heap.get? P = some (pobj acc c)) (hn : G P = none) : Inv X ((P, pobj acc c) :: pins) σ G s :=
  I.pins_of fun p hp => (List.mem_cons.mp hp).elim (fun e => by
    subst e
    exact ⟨h, hn, k.loc, k.fs, fun v => nofun⟩) fun m => I.pin p (List.mem_append_right _ m)
theorem Aside.off {G : Hp} {s : Shared} {P : Addr} {o : Obj} (I : Inv X ((P, o) :: pins) σ G s) : Inv X pins σ G s ∧ s.heap.get? P = some o ∧ G P = none :=
  ⟨I.pins_of fun p hp => I.pin p (List.mem_append_right _ (List.mem_cons_of_mem _ hp)), let q := I.pin (P, o) (List.mem_append_right _ List.mem_cons_self); ⟨q.1, q.2.1⟩⟩
theorem loopDepth (B : Around) (ar : Args) : (B.under (.builtin "list.__repr__.loop" ar)).depth = B.depth + 1 := by
  first | rfl | simp [Around.under, Code.weight, Code.isCreation, Code.isGuard, Code.isCaller, Code.frames, Code.isFrame, guardIds]
/-- the loop of list.__repr__ over items that are told one by one -/
theorem tellLoop {n : Nat} {D : V → Str → Hp → Prop} {a P : Addr} {B : Around} {xs : List V} {ts : List Str} {H : Hp} {R : Result → Shared → Prop} (hD : ∀ x t G G', Ext G G' → D x t G → D x t G') (T : Tells X n a D) (rm : Room (n + 1) B) (fr : B.frames = X.A.frames) (hg : NoG B) (kP : Aside X pins P) (naP : a ≠ P)
    (ha : H a = some (.lst xs)) (odd : Odd H a) (hA : All2 (fun x t => D x t H) xs ts) (hz : (listText ts).length ≤ sizeLine) (hE : ∀ e s', X.xe e s' → R (.error e) s')
    (fin : ∀ s' u G', Inv X pins σ G' s' → Ext H G' → R (.ok (.ret (.str (listText ts) u))) s') :
    ∀ (m i : Nat) (s : Shared) (G : Hp) (acc : Array Value) (c : Nat) (done : List (Str × Tok)), xs.length - i = m → i ≤ xs.length → Inv X pins σ G s → Ext H G → G P = none → s.heap.get? P = some (pobj acc c) → acc.toList = strValues done → done.map (·.1) = ts.take i →
      codeAny (model X.prog X.w) B (.builtin "list.__repr__.loop" ⟨[.ref a, rawInt i, .ref P, rawInt ((piled (ts.take i) : Nat) : Int)], []⟩) R s := by
  have w1 : (listText ts).length = (textFrom 0 "[" ts).length + 1 := by
    show (textFrom 0 "[" ts ++ ("]" : Str)).length = _
    rw [strLen_append]
    rfl
  have w2 := textFrom_len ts 0 "["
  have w3 := piled_le_listText ts
  have small : ∀ t ∈ ts, t.length ≤ sizeLine := fun t ht => by
    have := w2.2.1 t ht
    omega
  intro m
  induction m with
  | zero =>
    intro i s G acc c done hm hi I ex hn hP h1 h2
    obtain rfl : i = xs.length := by omega
    obtain ⟨_, its, k, rv, e⟩ := I.hok a _ (ex _ _ ha)
    refine codeAny_builtin F.entry_list_repr_loop ?_
    show wpAny _ _ («list.__repr__.loop» ⟨[.ref a, .int (xs.length : Nat) 0, .ref P, .int ((piled (ts.take xs.length) : Nat) : Int) 0], []⟩) _ _ s
    rw [repr_loop_tree]
    refine wpAny_bind (wpAny_listItems e rfl ?_)
    have none_ : its.toArray[((xs.length : Nat) : Int).toNat]? = none := by simp [rv.length]
    simp only [none_]
    unfold reprEnd
    refine wpAny_bind (wpAny_listItems hP rfl ?_)
    rw [h1, repr_fold]
    refine wpAny_bind (wpAny_pure ?_)
    rw [h2, hA.1, List.take_length]
    exact wpAny_bind (wpAny_mkStr (wpAny_pure (fin _ _ G (I.tok _) ex)) hz)
  | succ m ih =>
    intro i s G acc c done hm hi I ex hn hP h1 h2
    have hlt : i < xs.length := by omega
    have hlt2 : i < ts.length := hA.1 ▸ hlt
    have gx := List.getElem?_eq_getElem hlt
    have gt := List.getElem?_eq_getElem hlt2
    obtain ⟨_, its, k, rv, e⟩ := I.hok a _ (ex _ _ ha)
    obtain ⟨u, gu, ru⟩ := rv.get gx
    have q1 := piled_take_succ gt
    have q2 := piled_take_le ts (i + 1)
    refine codeAny_builtin F.entry_list_repr_loop ?_
    show wpAny _ _ («list.__repr__.loop» ⟨[.ref a, .int i 0, .ref P, .int ((piled (ts.take i) : Nat) : Int) 0], []⟩) _ _ s
    rw [repr_loop_tree]
    refine wpAny_bind (wpAny_listItems e rfl ?_)
    have some_ : its.toArray[((i : Nat) : Int).toNat]? = some u := by simpa using gu
    simp only [some_]
    rw [Int.toNat_natCast]
    refine wpAny_bind (wpAny_holding (wpAny_mono (T (B.under (.builtin "list.__repr__.loop" ⟨[.ref a, rawInt i, .ref P, rawInt ((piled (ts.take i) : Nat) : Int)], []⟩)) _ s σ G xs[i] ts[i] u (piled (ts.take i) + 1) ?_ ?_ ?_ (kP.on I hP hn) ru (hD _ _ _ _ ex (hA.2 i _ _ gx gt)) ?_ (by omega)) (fun t' s1 z => ?_) fun e s' z => hE e s' z))
    · exact ⟨rm.hd, by rw [loopDepth]; have := rm.dp; omega, by rw [units_under_list_loop]; have := rm.un; omega⟩
    · exact fr
    · exact ⟨_, _, guards_under_guard (isGuard_list_loop _) hg⟩
    · obtain ⟨p, C, dx, fs, ys, o1, o2, o3⟩ := odd
      exact ⟨p, C, dx, fs, ys, ex _ _ o1, o2, ex _ _ o3⟩
    obtain ⟨rfl, G1, I1, ex1⟩ := z
    obtain ⟨I2, hP2, hn2⟩ := Aside.off I1
    refine wpAny_bind (wpAny_mkStr (wpAny_bind ?_) (small _ (List.getElem_mem hlt2)))
    show wpAny _ _ (updateSeq P _) _ _ _
    have len : acc.size ≤ sizeLine := by
      have e1 : acc.toList.length = acc.size := Array.length_toList
      have e2 : (strValues done).length = (done.map (·.1)).length := by simp [strValues]
      rw [h1, e2, h2, List.length_take] at e1
      have := (I.list (SqL.of (K := X.K) (ex _ _ ha))).choose_spec.2.2
      omega
    refine wpAny_updateSeq hP2 rfl (wpAny_pure ⟨F.quiet_list_repr_loop _, ?_⟩) len
    rw [show ((i : Nat) : Int) + 1 = ((i + 1 : Nat) : Int) by omega, show piled (ts.take i) + (ts[i].length + 2) = piled (ts.take (i + 1)) by omega]
    refine ih (i + 1) _ G1 (acc.push (.str ts[i] s1.toks)) _ (done ++ [(ts[i], s1.toks)]) (by omega) hlt ((I2.tok _).turned (it := P) (fun b o nb h => (Heap.get?_update_other _ _ (Ne.symm nb)).trans h) hn2 kP.loc (.inr kP.new) kP.cell kP.pin) (ex.trans ex1) hn2 (Heap.get?_update_self _ hP2 rfl) (by simp [h1, strValues]) (by rw [List.map_append, h2, List.take_add_one, gt]; rfl)
/-- repr of a list, by what is told of its items -/
def rReprL (D : V → Str → Hp → Prop) : List V → Hp → VK → Prop := fun xs H Q => ∃ (a : Addr) (ys : List V) (ts : List Str), xs = [V.ref a] ∧ H a = some (.lst ys) ∧ ys ≠ [] ∧ Odd H a ∧ All2 (fun x t => D x t H) ys ts ∧ (listText ts).length ≤ sizeLine ∧ ∀ H', Ext H H' → Q (.str (listText ts)) H'
theorem call_reprL {n : Nat} {D : V → Str → Hp → Prop} (hD : ∀ x t G G', Ext G G' → D x t G → D x t G') (T : ∀ a, Tells X n a D) (hg : NoG X.A) (rm : Room (n + 2) X.A) : CallR X (.builtin "repr") (rReprL D) := by
  intro pins s σ H xs us Q I r ⟨a, ys, ts, e, ha, hne, odd, hA, hz, q⟩
  subst e
  obtain ⟨u, rfl, ru⟩ := vals1 r
  cases ru
  obtain ⟨_, its, k, rv, e⟩ := I.hok a _ ha
  have rm1 : Room (n + 1) X.A.in1 := rm.in1
  have hun := rm.un
  refine call_repr_slot (by omega) (show s.TypeIs (.ref a) "list" from ⟨_, e, rfl⟩) F.slot_list_repr.toG ?_
  refine wpAny_call (codeAny_call_builtin F.slot_list_repr.plain F.entry_list_repr (F.slot_list_repr.check _ _ _ _ _ _ _ _ ⟨_, e, rfl⟩ (F.args_list_repr_1 _) ?_))
  match its, rv, e with
  | [], rv, e =>
    exact absurd (List.length_eq_zero_iff.mp rv.length) hne
  | y :: its, rv, e =>
    refine wpAny_list_repr_head (A := X.A.in1.in1) (g := []) hg (fun _ _ _ m => nomatch m) e rfl (wpAny_bind (m := newList []) (wpAny_newObj_type (wpAny_pure ⟨F.quiet_list_repr_loop _, ?_⟩)))
    have I1 : Inv X pins σ H { s with heap := s.heap.push (pobj #[] 0) } := I.kept fun b o h => Heap.get?_push_of_some _ h
    exact tellLoop hD (T a) rm1 rfl hg (Aside.of I) (Nat.ne_of_lt (Heap.lt_size e)) ha odd hA hz (fun _ _ h => h) (fun s' u G' I' ex => ⟨_, _, rfl, .str _, G', I', ⟨u, rfl⟩, q G' ex⟩) _ 0 _ H #[] _ [] rfl (Nat.zero_le _) I1 Ext.rfl' (I.hok.fresh (Nat.le_refl _)) (Heap.get?_push_size _ rfl) rfl rfl
end
end LL

namespace LL
open PySem L2 PySem.Spec PyProof.Rows
/-! ### a + b, a * 3, -a by the text's own defs -/
section
variable {X : Cx} {n : Nat} {C f : Addr} {fd : FuncData} {ps : List Str} {sp : Sp} {op : Operator}
theorem back_of {pins : List (Addr × Obj)} {σ : L2.St} {Q : VK} {v : Value} {s' : Shared} (h : EP X pins σ Q v s') : PySem.W.CmpBack (EP X pins σ Q) v s' := by
  obtain ⟨y, G, I, r, q⟩ := h
  have back : EP X pins σ Q v s' := ⟨y, G, I, r, q⟩
  cases v with
  | notImplemented =>
    cases y with
    | int i => obtain ⟨_, z⟩ := r; cases z
    | str i => obtain ⟨_, z⟩ := r; cases z
    | byt i => obtain ⟨_, z⟩ := r; cases z
    | flt i => obtain ⟨_, z⟩ := r; cases z
    | _ => cases r
  | _ => exact back
/-- both of the class at C -/
def rOwn2 (C : Addr) (sp : Sp) : R2 := fun x y H Q => ∃ a b dx dy fs gs, x = .ref a ∧ y = .ref b ∧ H a = some (.ins C dx fs) ∧ H b = some (.ins C dy gs) ∧ sp [.ref a, .ref b] H Q C8.E0
theorem op_own2 (F : FnOk X.prog X.w X.K X.mg X.base C8.CX0 n f fd ps sp) (rm : Room n X.A) (hc : PySem.W.selfFirst X.K C = true) (hs : PySem.W.findIn X.K (.ref C) (PySem.dunder op.info.2) = some (some (.ref f))) (hf : PySem.W.isFn X.K (.ref f) = true) (hb : Binds X.K fd ps []) :
    OpR X (binaryOp op) (rOwn2 C sp) := by
  intro pins s σ H x y u v Q I rx ry ⟨a, b, dx, dy, fs, gs, e1, e2, ha, hb', h⟩
  subst e1 e2
  cases rx
  cases ry
  obtain ⟨mA, J, _⟩ := ins_get I.hok ha
  obtain ⟨mB, J', _⟩ := ins_get I.hok hb'
  obtain ⟨od, J, _⟩ := J.look
  obtain ⟨od', J', _⟩ := J'.look
  obtain ⟨m, hF⟩ := I.fr
  exact PySem.W.binop_K hF I.ok.mod.kin J J'.type hc hs hf (wpAny_mono (run_fn (vs := [V.ref a, V.ref b]) F rm hb .nil C8.pass0 I (.cons rfl (.cons rfl .nil)) h) (fun _ _ z => back_of z) fun _ _ z => z)
/-- an int on the right -/
def rOwnI (C : Addr) (sp : Sp) : R2 := fun x y H Q => ∃ a i dx fs, x = .ref a ∧ y = .int i ∧ H a = some (.ins C dx fs) ∧ sp [.ref a, .int i] H Q C8.E0
theorem op_ownI {fo ro : Option Value} (F : FnOk X.prog X.w X.K X.mg X.base C8.CX0 n f fd ps sp) (rm : Room n X.A) (hc : PySem.W.selfFirst X.K C = true) (hs : PySem.W.findIn X.K (.ref C) (PySem.dunder op.info.2) = some (some (.ref f))) (hf : PySem.W.isFn X.K (.ref f) = true) (hb : Binds X.K fd ps [])
    (hr : PySem.W.findIn X.K (.ref C) (dunderR op.info.2) = some none) (h1 : PySem.W.findIn X.K (.type "int") (PySem.dunder op.info.2) = some fo) (h2 : PySem.W.findIn X.K (.type "int") (dunderR op.info.2) = some ro) (hsub : PySem.W.subIn X.K (.type "int") (.ref C) = some false) :
    OpR X (binaryOp op) (rOwnI C sp) := by
  intro pins s σ H x y u v Q I rx ry ⟨a, i, dx, fs, e1, e2, ha, h⟩
  subst e1 e2
  cases rx
  obtain ⟨t, rfl⟩ := ry
  obtain ⟨mA, J, _⟩ := ins_get I.hok ha
  obtain ⟨od, J, _⟩ := J.look
  obtain ⟨m, hF⟩ := I.fr
  exact PySem.W.ksp_binT (T := "int") (b := .int i t) hF I.ok.mod.kin J rfl hc hs hf hr (.inl rfl) h1 h2 hsub (wpAny_mono (run_fn (vs := [V.ref a, V.int i]) F rm hb .nil C8.pass0 I (.cons rfl (.cons ⟨t, rfl⟩ .nil)) h) (fun _ _ z => back_of z) fun _ _ z => z)
/-- -a -/
def rOwnN (C : Addr) (sp : Sp) : V → Hp → VK → Prop := fun x H Q => ∃ a dx fs, x = .ref a ∧ H a = some (.ins C dx fs) ∧ sp [.ref a] H Q C8.E0
theorem un_own (F : FnOk X.prog X.w X.K X.mg X.base C8.CX0 n f fd ps sp) (rm : Room n X.A) (hs : PySem.W.findIn X.K (.ref C) "__neg__" = some (some (.ref f))) (hf : PySem.W.isFn X.K (.ref f) = true) (hb : Binds X.K fd ps []) : UnR X (unaryOp .USub) (rOwnN C sp) := by
  intro pins s σ H x v Q I rx ⟨a, dx, fs, e, ha, h⟩
  subst e
  cases rx
  obtain ⟨mA, J, _⟩ := ins_get I.hok ha
  obtain ⟨od, J, _⟩ := J.look
  obtain ⟨m, hF⟩ := I.fr
  exact PySem.W.ksp_neg hF I.ok.mod.kin J hs hf (run_fn (vs := [V.ref a]) F rm hb .nil C8.pass0 I (.cons rfl .nil) h)
end
/-! ### calls by names alone -/
/-- a def of the module that may be called by the names ks -/
structure CalK (P : Program) (w : World) (K : PySem.W.Frag) (mg : Str → Option Value) (base : Heap) (k : Nat) (x : Str) (sp : Sp) (ks : List Str) (gV : List V → List V → List V) : Prop where
  ex : ∃ (f : Addr) (fd : FuncData) (ps : List Str) (g : List Value → List Value → List Value), FnOk P w K mg base C8.CX0 k f fd ps sp ∧ mg x = some (.ref f) ∧ PySem.W.keepIn K (.ref f) = true ∧ KBinds K fd ps ks g gV
def tCallK0 (sp : Sp) (gV : List V → List V → List V) (tk : TA) : TE := fun σ H Q => tk σ H fun zs H2 => sp (gV [] zs) H2 Q C8.E0
theorem pe_cK {X : Cx} {k j : Nat} {x : Str} {sp : Sp} {ks : List Str} {gV : List V → List V → List V} {p pos : Pos} {kws : List Keyword} {tk : TA} (c : CalK X.prog X.w X.K X.mg X.base k x sp ks gV) (hr : Room j X.A) (hk : k ≤ j) (hg : Gl X x)
    (hkw : PK X kws tk) (hall : (backToKw pos (keywordEach kws X.env)).all (·.1.isSome) = true := by rfl) (hks : (backToKw pos (keywordEach kws X.env)).filterMap (·.1) = ks := by rfl)
    (hdb : (x == ("__debug__" : Str)) = false := by decide) (hpl : ((backTo pos (starEach [] X.env)).any (·.1) || (backToKw pos (keywordEach kws X.env)).any (·.1.isNone)) = false := by rfl) :
    PE X (.Call (.Name x p) [] kws pos) (tCallK0 sp gV tk) := by
  obtain ⟨f, fd, ps, g, F, hm, kp, hb⟩ := c.ex
  refine ⟨fun pins s σ H Q I h => wpAny_Call_Name_kw (ld_glob I hg hm ?_ hdb)⟩
  refine PySem.W.callWith_KW0 (h₀ := X.base) I.ok.mod.kin kp hall (thn (hkw.run pos pins s σ H _ I h) fun ws s2 ⟨zs, H2, I2, rz, q2⟩ => ⟨I2.kIn, ?_⟩) hpl
  rw [hks]
  exact run_fnk F (hr.mono hk) hb C8.pass0 I2 .nil rz q2
end LL

namespace LL
open PySem PySem.Builtin PySem.Spec PyProof.Rows
/-! ### sum(lists, []) -/
abbrev lobj (xs : List Value) (k : Nat) : Obj := { cls := .type "list", data := .seq xs.toArray k }
section
variable {prog : Program} {w : World} {A : Around} {R : Result → Shared → Prop} {I : Addr} {fp wr : List Addr} {G : Array GenState → Array GenState → Prop} {n : Nat} {P : Nat → Value → Prop} {St : Nat → Shared → Prop}
theorem sumlists (W : WalksS prog w A.in1 I fp wr G n P St) (S : Addr) (off : S ∉ fp) (h0 : Heap) (known : ∀ b o, h0.get? b = some o → b ≠ S ∧ b ∉ wr) (val : Nat → List Value) (hval : ∀ i v, P i v → ∃ b k, v = .ref b ∧ h0.get? b = some (lobj (val i) k)) (few : ((List.range n).flatMap val).length ≤ sizeLine) (low : ∀ b ∈ wr, b < S) (low0 : h0.objs.size ≤ S) :
    ∀ (k i : Nat) (s : Shared) (T : Addr) (c c' : Nat), n - i = k → i ≤ n → St i s → (∀ b o, h0.get? b = some o → s.heap.get? b = some o) → s.heap.get? S = some (lobj [.ref T] c) → s.heap.get? T = some (lobj ((List.range i).flatMap val) c') → T ≠ S → T ∉ wr →
      (i ≠ 0 → h0.objs.size ≤ T) → (∀ s' T' c', Moved (S :: wr) G s s' → s'.heap.get? T' = some (lobj ((List.range n).flatMap val) c') → (n ≠ 0 → h0.objs.size ≤ T') → R (.ok (.ret (.ref T'))) s') →
      codeAny (model prog w) A (.builtin "sum.loop" ⟨[.ref I, .ref S, rawInt 2, rawInt 0], []⟩) R s := by
  have offw : S ∉ wr := fun h => off (W.sub _ h)
  have up : ∀ b ∈ wr, b ∈ S :: wr := fun b hb => List.mem_cons_of_mem _ hb
  intro k
  induction k with
  | zero =>
    intro i s T c c' hk hi hst h0s hS hT nT oT fr hR
    obtain rfl : i = n := by omega
    refine codeAny_builtin F.entry_sum_loop (by
      rw [Around.under_plainId F.plain_sum_loop _]
      show wpAny _ A.in1 (seqItems? (.ref S) >>= _) _ _ s
      refine wpAny_bind (wpAny_seqItems hS rfl ?_)
      show wpAny _ A.in1 (tryCatch (pyNext (.ref I)) _ >>= _) _ _ s
      exact wpAny_bind (wpAny_tryCatch (W.done s _ _ hst fun s' hm => wpAny_pure (hR s' T c' (hm.mono up) (hm.heap T _ oT hT) fr))))
  | succ k ih =>
    intro i s T c c' hk hi hst h0s hS hT nT oT fr hR
    have lt : i < n := by omega
    have grow : (List.range (i + 1)).flatMap val = (List.range i).flatMap val ++ val i := by
      rw [List.range_succ, List.flatMap_append]
      simp
    have part : ((List.range (i + 1)).flatMap val).length ≤ ((List.range n).flatMap val).length := by
      have e : List.range n = List.range (i + 1) ++ (List.range (n - (i + 1))).map (fun x => (i + 1) + x) := by
        rw [← List.range_add]
        congr 1
        omega
      rw [e, List.flatMap_append, List.length_append]
      omega
    refine codeAny_builtin F.entry_sum_loop (by
      rw [Around.under_plainId F.plain_sum_loop _]
      show wpAny _ A.in1 (seqItems? (.ref S) >>= _) _ _ s
      refine wpAny_bind (wpAny_seqItems hS rfl ?_)
      show wpAny _ A.in1 (tryCatch (pyNext (.ref I)) _ >>= _) _ _ s
      refine wpAny_bind (wpAny_tryCatch (W.item i s _ _ lt hst fun v s' hP hst' hm => ?_))
      obtain ⟨b, kb, rfl, hb⟩ := hval i v hP
      have hS' := hm.heap S _ offw hS
      have hT' := hm.heap T _ oT hT
      have hb' := hm.heap b _ (known b _ hb).2 (h0s b _ hb)
      show wpAny _ A.in1 ((holding [Value.ref b] (binaryOp .Add (.ref T) (.ref b))).attempt >>= _) _ _ _
      refine wpAny_bind (wpAny_attempt (wpAny_holding (PySem.P.add_list hT' hb' ?_ (by rw [grow, List.length_append] at part; simp only [List.size_toArray]; omega))))
      have hS1 : (s'.heap.push (lobj ((List.range (i + 1)).flatMap val) 0)).get? S = some (lobj [.ref T] c) := Heap.get?_push_of_some _ hS'
      rw [show ((List.range i).flatMap val).toArray ++ (val i).toArray = ((List.range (i + 1)).flatMap val).toArray by rw [grow]; simp]
      show wpAny _ A.in1 (updateSeq S (fun _ => #[.ref s'.heap.objs.size]) >>= _) _ _ _
      refine wpAny_bind (wpAny_updateSeq hS1 rfl ?_)
      have hS2 := Heap.get?_update_self (Obj.mapSeq fun _ => #[Value.ref s'.heap.objs.size]) hS1 rfl
      refine wpAny_bind (wpAny_letGo ?_)
      refine wpAny_bind (wpAny_updateSeq hS2 rfl (wpAny_pure ⟨plainId_quiet F.plain_sum_loop _, ?_⟩))
      have neS : s'.heap.objs.size ≠ S := fun z => absurd (Heap.lt_size (z ▸ hS')) (Nat.lt_irrefl _)
      have keep : ∀ b o, b ≠ S → s'.heap.get? b = some o → (((s'.heap.push (lobj ((List.range (i + 1)).flatMap val) 0)).update S (Obj.mapSeq fun _ => #[Value.ref s'.heap.objs.size])).update S (Obj.mapSeq fun _ => #[Value.ref s'.heap.objs.size])).get? b = some o := fun b o nb e =>
        (Heap.get?_update_other _ _ (Ne.symm nb)).trans ((Heap.get?_update_other _ _ (Ne.symm nb)).trans (Heap.get?_push_of_some _ e))
      have above : S < s'.heap.objs.size := Heap.lt_size hS'
      have big : h0.objs.size ≤ s'.heap.objs.size := Nat.le_trans low0 (Nat.le_of_lt above)
      refine ih (i + 1) _ s'.heap.objs.size _ 0 (by omega) lt (W.frame _ s' _ _ hst' (by first | exact Nat.le_refl _ | exact Nat.le_succ _ | omega) fun b hb o e => keep b o (fun h : b = S => off (h ▸ hb)) e) (fun b o e => keep b o (known b o e).1 (hm.heap b o (known b o e).2 (h0s b o e)))
        (Heap.get?_update_self _ hS2 rfl) ((Heap.get?_update_other _ _ neS.symm).trans ((Heap.get?_update_other _ _ neS.symm).trans (Heap.get?_push_size _ rfl))) neS (fun h => absurd (Nat.lt_trans (low _ h) above) (Nat.lt_irrefl _)) (fun _ => big) fun s'' T'' c'' hm'' e'' f'' => hR s'' T'' c'' (Moved.trans W.gtrans ((hm.mono up).then_heap (by first | exact Nat.le_refl _ | exact Nat.le_succ _ | omega) fun b o hb e => keep b o (fun h : b = S => hb (by rw [h]; exact List.mem_cons_self)) e) hm'') e'' f''
      )
end
section
variable {prog : Program} {w : World} {A : Around} {E : Value → Shared → Prop} {s : Shared}
theorem args_sum2 (a b : Value) : argsOk "sum" ⟨[a, b], []⟩ := by unfold argsOk; kernel_rfl
theorem sumcall {l e : Addr} {ol oe : Obj} {its : List Value} {vals : Nat → List Value} {c ce : Nat} {Q : Value → Shared → Prop} (hh : A.handled = none) (hl : s.heap.get? l = some (lobj its c)) (he : s.heap.get? e = some (lobj [] ce)) (ne : its ≠ [])
    (hv : ∀ (i : Nat) v, its[i]? = some v → ∃ b k, v = .ref b ∧ s.heap.get? b = some (lobj (vals i) k)) (few : ((List.range its.length).flatMap vals).length ≤ sizeLine)
    (h : ∀ h' tk T c', s.heap.objs.size ≤ T → h'.get? T = some (lobj ((List.range its.length).flatMap vals) c') → (∀ b o, s.heap.get? b = some o → h'.get? b = some o) → Q (.ref T) { s with heap := h', toks := tk }) : wpAny (model prog w) A (call (.builtin "sum") [.ref l, .ref e]) Q E s := by
  refine call_function_tree F.kind_sum F.plain_sum F.entry_sum (args_sum2 _ _) ?_
  unfold Builtin.«sum»
  simp only [List.length_cons, List.length_nil]
  rw [if_neg (by decide)]
  refine wpAny_bind (wpAny_of_eq (show Builtin.Builtins.bindParams "sum" ["start"] 0 ⟨[.ref e], []⟩ = pure [some (.ref e)] from rfl) ?_)
  have hL : s.heap.IsList l its.toArray := ⟨_, hl, rfl, c, rfl⟩
  refine wpAny_bind (wpAny_pyIter_list hL ?_)
  refine wpAny_bind (wpAny_pure ?_)
  simp only [List.forIn_cons, List.forIn_nil]
  have ty : ∀ h' tk, (∀ b o, s.heap.get? b = some o → h'.get? b = some o) → Shared.TypeIs { s with heap := h', toks := tk } (.ref e) "list" := fun h' tk k => ⟨_, k _ _ he, rfl⟩
  have k1 : ∀ b o, s.heap.get? b = some o → (s.heap.push { cls := .type "list_iterator", data := .fields #[.ref l, .int 0 0] }).get? b = some o := fun b o q => Heap.get?_push_of_some _ q
  refine wpAny_bind (wpAny_bind (wpAny_bind (wpAny_isInstance (T := "list") (b := false) (ty _ _ k1) PySem.F.sub_list_str ?_)))
  simp only [Bool.false_eq_true, if_false]
  refine wpAny_pure (wpAny_bind (wpAny_bind (wpAny_isInstance (T := "list") (b := false) (ty _ _ k1) PySem.F.sub_list_bytes ?_)))
  simp only [Bool.false_eq_true, if_false]
  refine wpAny_pure (wpAny_bind (wpAny_bind (wpAny_isInstance (T := "list") (b := false) (ty _ _ k1) PySem.F.sub_list_bytearray ?_)))
  simp only [Bool.false_eq_true, if_false]
  refine wpAny_pure (wpAny_pure (wpAny_bind (wpAny_newObj_type ?_)))
  have lt : l < s.heap.objs.size := Heap.lt_size hl
  have lte : e < s.heap.objs.size := Heap.lt_size he
  have sz : (s.heap.push { cls := .type "list_iterator", data := .fields #[.ref l, .int 0 0] }).objs.size = s.heap.objs.size + 1 := Heap.size_push ..
  have hh2 : A.in1.handled = none := by simp [hh]
  refine wpAny_pure ⟨plainId_quiet F.plain_sum_loop _, sumlists ((Walks.list hh2 s.heap.objs.size l (Nat.ne_of_lt lt) its.toArray).toS) _ ?off s.heap ?known vals ?hval (by simpa using few) ?low ?low0 _ 0 _ e _ _ rfl (Nat.zero_le _) ?st (fun b o q => Heap.get?_push_of_some _ (k1 b o q)) (Heap.get?_push_size _ rfl) (Heap.get?_push_of_some _ (k1 _ _ he)) ?neS ?now (fun z => absurd rfl z) ?fin⟩
  case off =>
    rw [sz]
    simp only [List.mem_cons, List.not_mem_nil, or_false, not_or]
    exact ⟨Nat.ne_of_gt (Nat.lt_succ_self _), Nat.ne_of_gt (Nat.lt_succ_of_lt lt)⟩
  case known =>
    intro b o q
    have := Heap.lt_size q
    rw [sz]
    simp only [List.mem_cons, List.not_mem_nil, or_false]
    exact ⟨Nat.ne_of_lt (Nat.lt_succ_of_lt this), Nat.ne_of_lt this⟩
  case hval => exact fun i v q => hv i v (by simpa using q)
  case low =>
    intro b hb
    rw [sz]
    simp only [List.mem_cons, List.not_mem_nil, or_false] at hb
    subst hb
    exact Nat.lt_succ_self _
  case low0 =>
    rw [sz]
    exact Nat.le_succ _
  case st => exact ⟨⟨_, Heap.get?_push_of_some _ (Heap.get?_push_size _ rfl), rfl, rfl⟩, (hL.push _).push _⟩
  case neS =>
    rw [sz]
    exact Nat.ne_of_lt (Nat.lt_succ_of_lt lte)
  case now =>
    simp only [List.mem_cons, List.not_mem_nil, or_false]
    exact Nat.ne_of_lt lte
  case fin =>
    intro s' T c' hm hT hn
    obtain ⟨h', g', d', tk', os'⟩ := s'
    obtain rfl : g' = s.gens := hm.gens
    obtain rfl : d' = s.drawn := hm.drawn
    obtain rfl : os' = s.os := hm.os
    refine h h' tk' T c' (hn (by simpa using ne)) (by simpa using hT) fun b o q => hm.heap b o ?_ (Heap.get?_push_of_some _ (k1 b o q))
    have := Heap.lt_size q
    rw [sz]
    simp only [List.mem_cons, List.not_mem_nil, or_false, not_or]
    exact ⟨Nat.ne_of_lt (Nat.lt_succ_of_lt this), Nat.ne_of_lt this⟩
end
section
open L2
variable {X : Cx}
/-- sum(lists, []): one list of all items -/
def rSumL : List V → L2.Hp → VK → Prop := fun xs H Q => ∃ (l e : Addr) (ys : List V) (zs : List (List V)), xs = [V.ref l, V.ref e] ∧ H l = some (.lst ys) ∧ H e = some (.lst []) ∧ ys ≠ [] ∧ All2 (fun y z => ∃ b, y = V.ref b ∧ H b = some (.lst z)) ys zs ∧ zs.flatten.length ≤ sizeLine ∧
  ∀ p, H p = none → Q (.ref p) (upd H p (.lst zs.flatten))
theorem flat_vals : ∀ {ws : List (List Value)} {zs : List (List V)}, All2 (fun z w => Vals z w) zs ws → Vals zs.flatten ws.flatten
  | [], [], _ => .nil
  | [], _ :: _, h => by cases h.1
  | _ :: _, [], h => by cases h.1
  | w :: ws, z :: zs, h => by
    rw [List.flatten_cons, List.flatten_cons]
    exact (h.2 0 z w rfl rfl).append (flat_vals ⟨Nat.succ.inj h.1, fun i x y a b => h.2 (i + 1) x y a b⟩)
theorem cr_sumL (hc : X.calm = true) : CallR X (.builtin "sum") rSumL := by
  intro pins s σ H xs us Q I r ⟨l, e, ys, zs, ex, hl, he, ne, hA, few, q⟩
  subst ex
  obtain ⟨u, v, rfl, ru, rv⟩ := vals2 r
  cases ru
  cases rv
  obtain ⟨_, its, c, ri, gl⟩ := I.hok l _ hl
  obtain ⟨_, ite, ce, re, ge⟩ := I.hok e _ he
  cases re
  have row : ∀ i : Nat, ∃ w : List Value, ∀ z, zs[i]? = some z → Vals z w ∧ ∃ b k, its[i]? = some (Value.ref b) ∧ s.heap.get? b = some (lobj w k) := fun i => by
    cases e : zs[i]? with
    | none => exact ⟨[], fun z h => nomatch h⟩
    | some z =>
      obtain ⟨y, hy, b, ey, hb⟩ := hA.get' e
      subst ey
      obtain ⟨_, w, k, rw', gw⟩ := I.hok b _ hb
      obtain ⟨u, hu, ru⟩ := ri.get hy
      cases ru
      exact ⟨w, fun z' h => by cases h; exact ⟨rw', b, k, hu, gw⟩⟩
  let vals : Nat → List Value := fun i => (row i).choose
  have hvals : ∀ i z, zs[i]? = some z → Vals z (vals i) ∧ ∃ b k, its[i]? = some (Value.ref b) ∧ s.heap.get? b = some (lobj (vals i) k) := fun i => (row i).choose_spec
  have len : its.length = zs.length := by rw [← ri.length, hA.1]
  have flat : (List.range its.length).flatMap vals = ((List.range zs.length).map vals).flatten := by rw [len]; rfl
  have rel : Vals zs.flatten ((List.range zs.length).map vals).flatten := flat_vals ⟨by simp, fun i z w hz hw => by
    have hi := (List.getElem?_eq_some_iff.mp hz).1
    rw [List.getElem?_map, List.getElem?_range hi] at hw
    cases hw
    exact (hvals i z hz).1⟩
  refine sumcall (vals := vals) (ol := lobj [] 0) (oe := lobj [] 0) (I.ok.hd hc) gl ge (fun z => ne (List.length_eq_zero_iff.mp (by rw [ri.length, z]; rfl))) (fun i v hv => ?_) (by rw [flat, ← rel.length]; exact few) fun h' tk T c' hT gT k => ?_
  · have hi : i < zs.length := by
      have := (List.getElem?_eq_some_iff.mp hv).1
      omega
    obtain ⟨_, b, k, e1, e2⟩ := hvals i _ (List.getElem?_eq_getElem hi)
    rw [hv] at e1
    exact ⟨b, k, Option.some.inj e1, e2⟩
  · rw [flat] at gT
    have hn : H T = none := I.hok.fresh hT
    exact ⟨.ref T, _, I.laid (t' := tk) (o := .lst zs.flatten) k hT ⟨few, _, c', rel, gT⟩, rfl, q T hn⟩
end
end LL

namespace LL
open PySem L2 PySem.Spec PyProof.Rows
/-! ### how long data are as texts -/
mutual
def tame : PyData → Bool
  | .int i => decide (i.natAbs < 10 ^ 40)
  | .list xs => tameAll xs
  | .tuple xs => tameAll xs
  | .dict _ => false
  | .str y => decide ((reprText y).length ≤ 40)
  | _ => true
def tameAll : List PyData → Bool
  | [] => true
  | x :: r => tame x && tameAll r
end
mutual
def wt : PyData → Nat
  | .list xs => wtAll xs + 2
  | .tuple xs => wtAll xs + 3
  | _ => 45
def wtAll : List PyData → Nat
  | [] => 0
  | x :: r => wt x + 2 + wtAll r
end
theorem listText_le : ∀ ts : List Str, (listText ts).length ≤ piled ts + 2
  | [] => by
    rw [listText_nil]
    decide +kernel
  | t :: r => by
    have h := textFrom_length_pos r 1 (("[" : Str) ++ (if (0 : Nat) > 0 then ", " else "" : String) ++ t) (Nat.succ_pos 0)
    have e : ((("[" : Str) ++ (if (0 : Nat) > 0 then ", " else "" : String) ++ t)).length = 1 + t.length := by
      rw [strLen_append, strLen_append]
      rfl
    have q : (listText (t :: r)).length = (textFrom 1 (("[" : Str) ++ (if (0 : Nat) > 0 then ", " else "" : String) ++ t) r).length + 1 := by
      show (textFrom 1 (("[" : Str) ++ (if (0 : Nat) > 0 then ", " else "" : String) ++ t) r ++ ("]" : Str)).length = _
      rw [strLen_append]
      rfl
    rw [q, h, e, piled_cons]
    omega
mutual
theorem told : ∀ {d : PyData}, tame d = true → d.shown.length ≤ wt d ∧ d.showable = true ∧ d.hasDict = false
  | .none, _ => ⟨by decide +kernel, rfl, rfl⟩
  | .bool b, _ => ⟨by cases b <;> decide +kernel, rfl, rfl⟩
  | .int i, h => by
    have h' : i.natAbs < 10 ^ 40 := by simpa [tame] using h
    have q := int_text_length_le10 (k := 40) (by decide) h'
    refine ⟨?_, ?_, rfl⟩
    · show (Str.ofString (toString i)).length ≤ 45
      rw [PySem.ofString_length]
      omega
    · show decide (i.natAbs.log2 < 1920) = true
      exact decide_eq_true (by
        by_cases z : i.natAbs = 0
        · rw [z]
          decide
        · exact (Nat.log2_lt z).mpr (Nat.lt_trans h' (by decide +kernel)))
  | .str y, h => by
    have h' : (reprText y).length ≤ 40 := by simpa [tame] using h
    exact ⟨Nat.le_trans h' (show 40 ≤ 45 by decide), rfl, rfl⟩
  | .list xs, h => by
    have h' : tameAll xs = true := h
    obtain ⟨a, b, c⟩ := toldAll h'
    refine ⟨?_, b, c⟩
    have := listText_le (PyData.shownAll xs)
    show (listText (PyData.shownAll xs)).length ≤ wtAll xs + 2
    omega
  | .tuple xs, h => by
    have h' : tameAll xs = true := h
    obtain ⟨a, b, c⟩ := toldAll h'
    refine ⟨?_, b, c⟩
    have := fmt_text (PyData.shownAll xs)
    show (tupleText (PyData.shownAll xs)).length ≤ wtAll xs + 3
    omega
  | .dict _, h => by cases h
theorem toldAll : ∀ {ds : List PyData}, tameAll ds = true → piled (PyData.shownAll ds) ≤ wtAll ds ∧ PyData.showableAll ds = true ∧ PyData.hasDictAll ds = false
  | [], _ => ⟨Nat.zero_le _, rfl, rfl⟩
  | d :: ds, h => by
    have h' : tame d = true ∧ tameAll ds = true := by simpa [tameAll] using h
    obtain ⟨a, b, c⟩ := told h'.1
    obtain ⟨a', b', c'⟩ := toldAll h'.2
    refine ⟨?_, ?_, ?_⟩
    · show piled (d.shown :: PyData.shownAll ds) ≤ wt d + 2 + wtAll ds
      rw [piled_cons]
      omega
    · show (d.showable && PyData.showableAll ds) = true
      rw [b, b']
      rfl
    · show (d.hasDict || PyData.hasDictAll ds) = false
      rw [c, c']
      rfl
end
end LL

namespace LL
open PySem L2 PySem.Spec PyProof.Rows
def top (i : Nat) : Stmt := PySem.Challenge.pw_lanelots_k14_whole_origins.main.body.getD i (.Pass ⟨0, 0, 0, 0⟩)
abbrev s_is_integer : Stmt := top 15
abbrev N_is_integer : List Str := ["value"]
theorem sc_is_integer : FnScope N_is_integer ["value"] (C8.fnScope s_is_integer) := C8.fnScope_by (by decide +kernel)
abbrev s_is_count : Stmt := top 16
abbrev N_is_count : List Str := ["value"]
theorem sc_is_count : FnScope N_is_count ["value"] (C8.fnScope s_is_count) := C8.fnScope_by (by decide +kernel)
abbrev s_is_list : Stmt := top 17
abbrev N_is_list : List Str := ["value"]
theorem sc_is_list : FnScope N_is_list ["value"] (C8.fnScope s_is_list) := C8.fnScope_by (by decide +kernel)
abbrev s_is_content : Stmt := top 18
abbrev N_is_content : List Str := ["value", "number"]
theorem sc_is_content : FnScope N_is_content ["value"] (C8.fnScope s_is_content) := C8.fnScope_by (by decide +kernel)
abbrev s_has_lanes : Stmt := top 19
abbrev N_has_lanes : List Str := ["value"]
theorem sc_has_lanes : FnScope N_has_lanes ["value"] (C8.fnScope s_has_lanes) := C8.fnScope_by (by decide +kernel)
abbrev s_is_lane : Stmt := top 20
abbrev N_is_lane : List Str := ["value", "lanes"]
theorem sc_is_lane : FnScope N_is_lane ["value", "lanes"] (C8.fnScope s_is_lane) := C8.fnScope_by (by decide +kernel)
abbrev s_is_order : Stmt := top 21
abbrev N_is_order : List Str := ["value", "lanes", "lane"]
theorem sc_is_order : FnScope N_is_order ["value", "lanes"] (C8.fnScope s_is_order) := C8.fnScope_by (by decide +kernel)
abbrev s_check_content : Stmt := top 22
abbrev N_check_content : List Str := ["content", "lanes"]
theorem sc_check_content : FnScope N_check_content ["content", "lanes"] (C8.fnScope s_check_content) := C8.fnScope_by (by decide +kernel)
abbrev s_check_any_content : Stmt := top 23
abbrev N_check_any_content : List Str := ["content"]
theorem sc_check_any_content : FnScope N_check_any_content ["content"] (C8.fnScope s_check_any_content) := C8.fnScope_by (by decide +kernel)
abbrev s_check_lanes : Stmt := top 24
abbrev N_check_lanes : List Str := ["lanes", "least"]
theorem sc_check_lanes : FnScope N_check_lanes ["lanes", "least"] (C8.fnScope s_check_lanes) := C8.fnScope_by (by decide +kernel)
abbrev s_check_number : Stmt := top 25
abbrev N_check_number : List Str := ["number"]
theorem sc_check_number : FnScope N_check_number ["number"] (C8.fnScope s_check_number) := C8.fnScope_by (by decide +kernel)
abbrev s_check_many : Stmt := top 26
abbrev N_check_many : List Str := ["many"]
theorem sc_check_many : FnScope N_check_many ["many"] (C8.fnScope s_check_many) := C8.fnScope_by (by decide +kernel)
abbrev s_check_order : Stmt := top 27
abbrev N_check_order : List Str := ["order", "lanes"]
theorem sc_check_order : FnScope N_check_order ["order", "lanes"] (C8.fnScope s_check_order) := C8.fnScope_by (by decide +kernel)
abbrev s_raised : Stmt := top 28
abbrev N_raised : List Str := ["content", "number", "own"]
theorem sc_raised : FnScope N_raised ["content", "number"] (C8.fnScope s_raised) := C8.fnScope_by (by decide +kernel)
abbrev s_turned : Stmt := top 29
abbrev N_turned : List Str := ["content", "number"]
theorem sc_turned : FnScope N_turned ["content"] (C8.fnScope s_turned) := C8.fnScope_by (by decide +kernel)
abbrev s_moved : Stmt := top 30
abbrev N_moved : List Str := ["content", "order", "found", "lane", "number"]
theorem sc_moved : FnScope N_moved ["content", "order"] (C8.fnScope s_moved) := C8.fnScope_by (by decide +kernel)
abbrev s_is_gate : Stmt := top 33
abbrev N_is_gate : List Str := ["value", "lanes", "word", "i", "last"]
theorem sc_is_gate : FnScope N_is_gate ["value", "lanes"] (C8.fnScope s_is_gate) := C8.fnScope_by (by decide +kernel)
abbrev s_behind_gate : Stmt := top 34
abbrev N_behind_gate : List Str := ["gate", "content", "word", "i", "last", "found"]
theorem sc_behind_gate : FnScope N_behind_gate ["gate", "content"] (C8.fnScope s_behind_gate) := C8.fnScope_by (by decide +kernel)
abbrev s_turned_gate : Stmt := top 35
abbrev N_turned_gate : List Str := ["gate", "word", "i", "last"]
theorem sc_turned_gate : FnScope N_turned_gate ["gate"] (C8.fnScope s_turned_gate) := C8.fnScope_by (by decide +kernel)
abbrev s_gate_moved : Stmt := top 36
abbrev N_gate_moved : List Str := ["gate", "order", "word", "i", "last"]
theorem sc_gate_moved : FnScope N_gate_moved ["gate", "order"] (C8.fnScope s_gate_moved) := C8.fnScope_by (by decide +kernel)
abbrev s_Net_init : Stmt := inClass (top 37) 2
abbrev N_Net_init : List Str := ["self", "lanes", "gates", "gate"]
theorem sc_Net_init : FnScope N_Net_init ["self", "lanes", "gates"] (C8.fnScope s_Net_init) := C8.fnScope_by (by decide +kernel)
abbrev s_Net_lanes : Stmt := inClass (top 37) 4
abbrev N_Net_lanes : List Str := ["self"]
theorem sc_Net_lanes : FnScope N_Net_lanes ["self"] (C8.fnScope s_Net_lanes) := C8.fnScope_by (by decide +kernel)
abbrev s_Net_is_plain : Stmt := inClass (top 37) 5
abbrev N_Net_is_plain : List Str := ["self", "gate"]
theorem sc_Net_is_plain : FnScope N_Net_is_plain ["self"] (C8.fnScope s_Net_is_plain) := C8.fnScope_by (by decide +kernel)
abbrev s_Net_gates : Stmt := inClass (top 37) 6
abbrev N_Net_gates : List Str := ["self"]
theorem sc_Net_gates : FnScope N_Net_gates ["self"] (C8.fnScope s_Net_gates) := C8.fnScope_by (by decide +kernel)
abbrev s_Net_call : Stmt := inClass (top 37) 10
abbrev N_Net_call : List Str := ["self", "content", "told", "gate"]
theorem sc_Net_call : FnScope N_Net_call ["self", "content"] (C8.fnScope s_Net_call) := C8.fnScope_by (by decide +kernel)
abbrev s_Net_add : Stmt := inClass (top 37) 11
abbrev N_Net_add : List Str := ["self", "other"]
theorem sc_Net_add : FnScope N_Net_add ["self", "other"] (C8.fnScope s_Net_add) := C8.fnScope_by (by decide +kernel)
abbrev s_Net_neg : Stmt := inClass (top 37) 13
abbrev N_Net_neg : List Str := ["self", "gate"]
theorem sc_Net_neg : FnScope N_Net_neg ["self"] (C8.fnScope s_Net_neg) := C8.fnScope_by (by decide +kernel)
abbrev s_Net_eq : Stmt := inClass (top 37) 14
abbrev N_Net_eq : List Str := ["self", "other"]
theorem sc_Net_eq : FnScope N_Net_eq ["self", "other"] (C8.fnScope s_Net_eq) := C8.fnScope_by (by decide +kernel)
abbrev s_Net_renumbered : Stmt := inClass (top 37) 17
abbrev N_Net_renumbered : List Str := ["self", "order", "gate"]
theorem sc_Net_renumbered : FnScope N_Net_renumbered ["self", "order"] (C8.fnScope s_Net_renumbered) := C8.fnScope_by (by decide +kernel)
abbrev s_check_gates : Stmt := top 38
abbrev N_check_gates : List Str := ["gates", "lanes", "position", "gate"]
theorem sc_check_gates : FnScope N_check_gates ["gates", "lanes"] (C8.fnScope s_check_gates) := C8.fnScope_by (by decide +kernel)
abbrev s_check_position : Stmt := top 39
abbrev N_check_position : List Str := ["position", "places"]
theorem sc_check_position : FnScope N_check_position ["position", "places"] (C8.fnScope s_check_position) := C8.fnScope_by (by decide +kernel)
abbrev s_contents : Stmt := top 41
abbrev N_contents : List Str := ["net", "content", "found", "gate"]
theorem sc_contents : FnScope N_contents ["net", "content"] (C8.fnScope s_contents) := C8.fnScope_by (by decide +kernel)
abbrev s_origins : Stmt := top 42
abbrev N_origins : List Str := ["net", "content", "ahead", "found", "gate", "numbers", "lane"]
theorem sc_origins : FnScope N_origins ["net", "content"] (C8.fnScope s_origins) := C8.fnScope_by (by decide +kernel)
abbrev s_origins_behind : Stmt := top 43
abbrev N_origins_behind : List Str := ["gate", "numbers", "ahead", "word", "i", "last", "found", "first", "total"]
theorem sc_origins_behind : FnScope N_origins_behind ["gate", "numbers", "ahead"] (C8.fnScope s_origins_behind) := C8.fnScope_by (by decide +kernel)
abbrev s_law_pot : Stmt := top 45
abbrev N_law_pot : List Str := ["_law_script", "_law_k", "_law_cell"]
theorem sc_law_pot : FnScope N_law_pot ["_law_script", "_law_k"] (C8.fnScope s_law_pot) := C8.fnScope_by (by decide +kernel)
abbrev s_law_draw : Stmt := top 46
abbrev N_law_draw : List Str := ["_law_pot_here", "_law_size", "_law_digit"]
theorem sc_law_draw : FnScope N_law_draw ["_law_pot_here", "_law_size"] (C8.fnScope s_law_draw) := C8.fnScope_by (by decide +kernel)
abbrev s_law_pick : Stmt := top 47
abbrev N_law_pick : List Str := ["_law_pot_here", "_law_some"]
theorem sc_law_pick : FnScope N_law_pick ["_law_pot_here", "_law_some"] (C8.fnScope s_law_pick) := C8.fnScope_by (by decide +kernel)
abbrev s_law_mixed : Stmt := top 48
abbrev N_law_mixed : List Str := ["_law_pot_here", "_law_some", "_law_left", "_law_turn"]
theorem sc_law_mixed : FnScope N_law_mixed ["_law_pot_here", "_law_some"] (C8.fnScope s_law_mixed) := C8.fnScope_by (by decide +kernel)
abbrev s_law_gate : Stmt := top 49
abbrev N_law_gate : List Str := ["_law_pot_here", "_law_lanes", "_law_kind", "_law_one"]
theorem sc_law_gate : FnScope N_law_gate ["_law_pot_here", "_law_lanes"] (C8.fnScope s_law_gate) := C8.fnScope_by (by decide +kernel)
abbrev s_law_gates : Stmt := top 50
abbrev N_law_gates : List Str := ["_law_pot_here", "_law_lanes", "_law_most", "_law_turn"]
theorem sc_law_gates : FnScope N_law_gates ["_law_pot_here", "_law_lanes", "_law_most"] (C8.fnScope s_law_gates) := C8.fnScope_by (by decide +kernel)
abbrev s_law_content : Stmt := top 51
abbrev N_law_content : List Str := ["_law_pot_here", "_law_lanes", "_law_wide", "_law_lane"]
theorem sc_law_content : FnScope N_law_content ["_law_pot_here", "_law_lanes"] (C8.fnScope s_law_content) := C8.fnScope_by (by decide +kernel)
abbrev s_law_done : Stmt := top 52
abbrev N_law_done : List Str := ["_law_gate_here", "_law_here", "_law_kind", "_law_one", "_law_two", "_law_found"]
theorem sc_law_done : FnScope N_law_done ["_law_gate_here", "_law_here"] (C8.fnScope s_law_done) := C8.fnScope_by (by decide +kernel)
abbrev s_law_run : Stmt := top 53
abbrev N_law_run : List Str := ["_law_gates_here", "_law_content_here", "_law_found", "_law_gate_here"]
theorem sc_law_run : FnScope N_law_run ["_law_gates_here", "_law_content_here"] (C8.fnScope s_law_run) := C8.fnScope_by (by decide +kernel)
abbrev s_law_led : Stmt := top 54
abbrev N_law_led : List Str := ["_law_gate_here", "_law_here", "_law_own", "_law_kind", "_law_one", "_law_two", "_law_found"]
theorem sc_law_led : FnScope N_law_led ["_law_gate_here", "_law_here", "_law_own"] (C8.fnScope s_law_led) := C8.fnScope_by (by decide +kernel)
abbrev s_law_origins : Stmt := top 55
abbrev N_law_origins : List Str := ["_law_gates_here", "_law_content_here", "_law_rows", "_law_found", "_law_gate_here", "_law_here", "_law_lane"]
theorem sc_law_origins : FnScope N_law_origins ["_law_gates_here", "_law_content_here"] (C8.fnScope s_law_origins) := C8.fnScope_by (by decide +kernel)
abbrev s_law_told_right : Stmt := top 56
abbrev N_law_told_right : List Str := ["_law_pot_here", "_law_net", "_law_gates_here", "_law_content_here", "_law_due", "_law_told", "_law_number", "_law_first", "_law_own"]
theorem sc_law_told_right : FnScope N_law_told_right ["_law_pot_here", "_law_net", "_law_gates_here", "_law_content_here"] (C8.fnScope s_law_told_right) := C8.fnScope_by (by decide +kernel)
abbrev s_law_behind_right : Stmt := top 57
abbrev N_law_behind_right : List Str := ["_law_pot_here", "_law_net", "_law_lanes", "_law_content_here", "_law_more", "_law_near", "_law_far", "_law_due", "_law_first", "_law_own"]
theorem sc_law_behind_right : FnScope N_law_behind_right ["_law_pot_here", "_law_net", "_law_lanes", "_law_content_here"] (C8.fnScope s_law_behind_right) := C8.fnScope_by (by decide +kernel)
abbrev s_law_turned_right : Stmt := top 58
abbrev N_law_turned_right : List Str := ["_law_pot_here", "_law_net", "_law_lanes", "_law_content_here", "_law_due", "_law_order", "_law_told", "_law_first", "_law_own", "_law_lane"]
theorem sc_law_turned_right : FnScope N_law_turned_right ["_law_pot_here", "_law_net", "_law_lanes", "_law_content_here"] (C8.fnScope s_law_turned_right) := C8.fnScope_by (by decide +kernel)
abbrev s_law_right : Stmt := top 59
abbrev N_law_right : List Str := ["_law_pot_here", "_law_lanes", "_law_gates_here", "_law_net", "_law_turn", "_law_content_here", "_law_known", "_law_gate_here"]
theorem sc_law_right : FnScope N_law_right ["_law_pot_here"] (C8.fnScope s_law_right) := C8.fnScope_by (by decide +kernel)
abbrev s_law : Stmt := top 60
abbrev N_law : List Str := ["_law_script", "_law_k"]
theorem sc_law : FnScope N_law ["_law_script"] (C8.fnScope s_law) := C8.fnScope_by (by decide +kernel)
/-! ### defs of the module -/
def DefAt (K : PySem.W.Frag) (mg : Str → Option Value) (x : Str) (st : Stmt) (ps : List Str) : Prop := ∃ f fd, C8.Def K mg x st f fd ∧ Binds K fd ps []
section
variable {P : Program} {w : World} {K : PySem.W.Frag} {mg : Str → Option Value} {base : Heap}
theorem DefAt.cal {x : Str} {st : Stmt} {N ps : List Str} {k : Nat} {sp : Sp} (D : DefAt K mg x st ps) (S : FnScope N ps (C8.fnScope st)) (len : ∀ vs H Q E, sp vs H Q E → vs.length = ps.length)
    (hbody : ∀ (f : Addr) (cdv : Value) (A : Around) (outer : List Env) (s : Shared) (H : Hp) (vs : List V) (Q : VK) (E : XK), Room k (A.deeper (envOfC x (C8.fnScope st) s.heap.objs.size f cdv)) → sp vs H Q E →
      ∃ t, PSs (cxOf CX0 P w K mg base N x (C8.fnScope st) f cdv A outer s H E).nox (C8.fnBody st) t ∧ t { nx := fun _ H' => Q .non H', rt := Q } (start N vs) H) : C8.Cal P w K mg base (k + 1) x sp [] := by
  obtain ⟨f, fd, F, b⟩ := D
  exact C8.cal0 F b .nil S len (hbody f)
end
/-- three arguments by name, the last one first -/
def rot3 {α : Type} (us zs : List α) : List α := match us, zs with | [], [m, c, n] => [n, c, m] | _, _ => []
/-- two arguments by name, the last one first -/
def rot2 {α : Type} (us zs : List α) : List α := match us, zs with | [], [c, n] => [n, c] | _, _ => []
structure Txt (K : PySem.W.Frag) (mg : Str → Option Value) (C : Addr) : Prop where
  b_abs : mg "abs" = none
  b_all : mg "all" = none
  b_bool : mg "bool" = none
  b_divmod : mg "divmod" = none
  b_enumerate : mg "enumerate" = none
  b_int : mg "int" = none
  b_isinstance : mg "isinstance" = none
  b_len : mg "len" = none
  b_list : mg "list" = none
  b_max : mg "max" = none
  b_min : mg "min" = none
  b_range : mg "range" = none
  b_repr : mg "repr" = none
  b_sorted : mg "sorted" = none
  b_str : mg "str" = none
  b_tuple : mg "tuple" = none
  b_zip : mg "zip" = none
  d_is_integer : DefAt K mg "is_integer" s_is_integer ["value"]
  d_is_count : DefAt K mg "is_count" s_is_count ["value"]
  d_is_list : DefAt K mg "is_list" s_is_list ["value"]
  d_is_content : DefAt K mg "is_content" s_is_content ["value"]
  d_has_lanes : DefAt K mg "_has_lanes" s_has_lanes ["value"]
  d_is_lane : DefAt K mg "is_lane" s_is_lane ["value", "lanes"]
  d_is_order : DefAt K mg "is_order" s_is_order ["value", "lanes"]
  d_check_content : DefAt K mg "check_content" s_check_content ["content", "lanes"]
  d_check_any_content : DefAt K mg "check_any_content" s_check_any_content ["content"]
  d_check_lanes : DefAt K mg "check_lanes" s_check_lanes ["lanes", "least"]
  d_check_number : DefAt K mg "check_number" s_check_number ["number"]
  d_check_many : DefAt K mg "check_many" s_check_many ["many"]
  d_check_order : DefAt K mg "check_order" s_check_order ["order", "lanes"]
  d_raised : DefAt K mg "raised" s_raised ["content", "number"]
  d_turned : DefAt K mg "turned" s_turned ["content"]
  d_moved : DefAt K mg "moved" s_moved ["content", "order"]
  d_is_gate : DefAt K mg "is_gate" s_is_gate ["value", "lanes"]
  d_behind_gate : DefAt K mg "behind_gate" s_behind_gate ["gate", "content"]
  d_turned_gate : DefAt K mg "turned_gate" s_turned_gate ["gate"]
  d_gate_moved : DefAt K mg "gate_moved" s_gate_moved ["gate", "order"]
  d_check_gates : DefAt K mg "_check_gates" s_check_gates ["gates", "lanes"]
  d_check_position : DefAt K mg "check_position" s_check_position ["position", "places"]
  d_contents : DefAt K mg "contents" s_contents ["net", "content"]
  d_origins : DefAt K mg "origins" s_origins ["net", "content"]
  d_origins_behind : DefAt K mg "_origins_behind" s_origins_behind ["gate", "numbers", "ahead"]
  d_law_pot : DefAt K mg "_law_pot" s_law_pot ["_law_script", "_law_k"]
  d_law_draw : DefAt K mg "_law_draw" s_law_draw ["_law_pot_here", "_law_size"]
  d_law_pick : DefAt K mg "_law_pick" s_law_pick ["_law_pot_here", "_law_some"]
  d_law_mixed : DefAt K mg "_law_mixed" s_law_mixed ["_law_pot_here", "_law_some"]
  d_law_gate : DefAt K mg "_law_gate" s_law_gate ["_law_pot_here", "_law_lanes"]
  d_law_gates : DefAt K mg "_law_gates" s_law_gates ["_law_pot_here", "_law_lanes", "_law_most"]
  d_law_content : DefAt K mg "_law_content" s_law_content ["_law_pot_here", "_law_lanes"]
  d_law_done : DefAt K mg "_law_done" s_law_done ["_law_gate_here", "_law_here"]
  d_law_run : DefAt K mg "_law_run" s_law_run ["_law_gates_here", "_law_content_here"]
  d_law_led : DefAt K mg "_law_led" s_law_led ["_law_gate_here", "_law_here", "_law_own"]
  d_law_origins : DefAt K mg "_law_origins" s_law_origins ["_law_gates_here", "_law_content_here"]
  d_law_told_right : DefAt K mg "_law_told_right" s_law_told_right ["_law_pot_here", "_law_net", "_law_gates_here", "_law_content_here"]
  d_law_behind_right : DefAt K mg "_law_behind_right" s_law_behind_right ["_law_pot_here", "_law_net", "_law_lanes", "_law_content_here"]
  d_law_turned_right : DefAt K mg "_law_turned_right" s_law_turned_right ["_law_pot_here", "_law_net", "_law_lanes", "_law_content_here"]
  d_law_right : DefAt K mg "_law_right" s_law_right ["_law_pot_here"]
  d_law : DefAt K mg "law" s_law ["_law_script"]
  gLANES_AT_MOST : ∃ u, mg "LANES_AT_MOST" = some u ∧ RelV (.int 12) u
  gTWO : ∃ a, mg "_TWO_LANE_WORDS" = some (.ref a) ∧ ∀ H : Hp, SqT K H a [.str "low", .str "high", .str "sort", .str "copy"]
  cl : Cls K C
  mgC : mg "Net" = some (.ref C)
  nL : NoAttr K C "_lanes"
  nG : NoAttr K C "_gates"
  cM : ∃ mc u, ClX.CRead K C mc ∧ ClX.CVal K C mc "MOST_GATES" (.int 400) u
  i_init : ∃ f fd, C8.Fun K "__init__" "Net.__init__" s_Net_init f fd ∧ Mk K C f ∧ Binds K fd ["self", "lanes", "gates"] []
  i_call : ∃ f fd, C8.Fun K "__call__" "Net.__call__" s_Net_call f fd ∧ StX.CallO K C f ∧ Binds K fd ["self", "content"] []
  i_lanes : ∃ p g fd, C8.Fun K "lanes" "Net.lanes" s_Net_lanes g fd ∧ PropOf K C "lanes" p g ∧ Binds K fd ["self"] []
  i_plain : ∃ p g fd, C8.Fun K "is_plain" "Net.is_plain" s_Net_is_plain g fd ∧ PropOf K C "is_plain" p g ∧ Binds K fd ["self"] []
  i_eq : ∃ f fd, C8.Fun K "__eq__" "Net.__eq__" s_Net_eq f fd ∧ PySem.W.findIn K (.ref C) "__eq__" = some (some (.ref f)) ∧ PySem.W.isFn K (.ref f) = true ∧ Binds K fd ["self", "other"] []
  i_add : ∃ f fd, C8.Fun K "__add__" "Net.__add__" s_Net_add f fd ∧ PySem.W.findIn K (.ref C) (PySem.dunder Operator.Add.info.2) = some (some (.ref f)) ∧ PySem.W.isFn K (.ref f) = true ∧ Binds K fd ["self", "other"] []
  o_first : PySem.W.selfFirst K C = true
  q_ha : PySem.W.findIn K (.ref C) "__class__" = some (some (.builtin "object.__class__"))
  q_hn : PySem.W.specialIn K (.builtin "object.__class__") "__get__" = some (some (.builtin "getset_descriptor.__get__"))
  q_ht : PySem.W.takesIn K (.builtin "object.__class__") = some true
  q_hm : PySem.W.mroIn K C (.type "object") = some true
  i_gates : ∃ f fd, C8.Fun K "gates" "Net.gates" s_Net_gates f fd ∧ Meth K C "gates" f ∧ Binds K fd ["self"] []
  i_neg : ∃ f fd, C8.Fun K "__neg__" "Net.__neg__" s_Net_neg f fd ∧ PySem.W.findIn K (.ref C) "__neg__" = some (some (.ref f)) ∧ PySem.W.isFn K (.ref f) = true ∧ Binds K fd ["self"] []
  i_ren : ∃ f fd, C8.Fun K "renumbered" "Net.renumbered" s_Net_renumbered f fd ∧ Meth K C "renumbered" f ∧ Binds K fd ["self", "order"] []
  k_origins : ∃ f fd, C8.Def K mg "origins" s_origins f fd ∧ KBinds K fd ["net", "content"] ["content", "net"] rot2 rot2
end LL

namespace LL
open PySem L2 PySem.Spec PyProof.Rows
section
variable {P : Program} {w : World} {K : PySem.W.Frag} {mg : Str → Option Value} {base : Heap} {C : Addr}

/-! ### what is read -/
theorem tyx_L {H : Hp} {a : Addr} {xs : List V} (h : SqL K H a xs) : TyX K H (.ref a) (.type "list") := by
  rcases h with (h | ⟨o, h⟩) | ⟨o, its, n, h, c, _⟩
  · exact .base (.lst h)
  · exact .base (.frz h)
  · exact .kList h c
theorem tyx_T {H : Hp} {a : Addr} {xs : List V} (h : SqT K H a xs) : TyX K H (.ref a) (.type "tuple") := by
  rcases h with (h | ⟨o, h⟩) | ⟨o, its, n, h, c, _⟩
  · exact .base (.tup h)
  · exact .fTuple h
  · exact .kTuple h c
theorem _root_.L2.Same.new {H : Hp} {p : Addr} {o : HO} (h : H p = none) : Same H (upd H p o) := fun a u e => by
  rw [upd_ne (ne_of_none e h)]
  exact e
theorem _root_.L2.Same.seqT {H H' : Hp} {a : Addr} {xs : List V} (e : Same H H') (h : SqT K H a xs) : SqT K H' a xs := by
  rcases h with (h | ⟨o, h⟩) | h
  · exact .inl (.inl (e _ _ h))
  · exact .inl (.inr ⟨o, e _ _ h⟩)
  · exact .inr h
/-- an object that H does not know may change -/
theorem _root_.L2.Same.mut {H H' : Hp} {p : Addr} {o : HO} (e : Same H H') (h : H p = none) : Same H (upd H' p o) := fun a u ha => by
  rw [upd_ne (ne_of_none ha h)]
  exact e a u ha

theorem q_bl {Q : VK} {H : Hp} {b : Bool} (e : b = true) (k : Q (.bl true) H) : Q (.bl b) H := by
  rw [e]
  exact k
theorem q_bl2 {Q : VK} {H : Hp} {b c : Bool} (e : b = c) (k : Q (.bl c) H) : Q (.bl b) H := by
  rw [e]
  exact k
theorem itF {c : Bool} {A B : Prop} (e : c = false) (h : B) : if c = true then A else B := by
  rw [e]
  exact iteF h
theorem itT {c : Bool} {A B : Prop} (e : c = true) (h : A) : if c = true then A else B := by
  rw [e]
  exact iteT h
theorem q_int {Q : VK} {H : Hp} {i j : Int} (e : i = j) (k : Q (.int j) H) : Q (.int i) H := by
  rw [e]
  exact k
theorem yesI {σ : L2.St} {H : Hp} {A B : Hp → Prop} (h : A H) : tYes σ H (fun b H3 => if b = true then A H3 else B H3) := by
  show (if true = true then A H else B H)
  rw [if_pos rfl]
  exact h
theorem get_int {ns : List Int} {i : Nat} {x : V} (hi : (ns.map V.int)[i]? = some x) : ∃ n, x = V.int n ∧ ns[i]? = some n := by
  rw [List.getElem?_map] at hi
  cases e : ns[i]? with
  | none => rw [e] at hi; cases hi
  | some n => rw [e] at hi; exact ⟨n, (Option.some.inj hi).symm, rfl⟩
theorem size100 {n : Nat} (h : n ≤ 100000) : n < sizeLine := Nat.lt_of_le_of_lt h (by decide)
/-- a comprehension whose elements are made without a change of what stood: the list of these values -/
theorem lc_pure {J : It} {n : Nat} {G : Hp → Prop} {Y : Nat → Hp → V → Hp → Prop} (w : Walk J n G Y) {g : TG} {te : TE} {vs : List Nat} {σ : L2.St} {H1 : Hp} {D : Addr} {Qd : Hp → Prop} (vals : List V) (hn : vals.length = n) (hD : H1 D = none) (hsz : n ≤ 100000)
    (hG : ∀ H, Same H1 H → G H)
    (hs : ∀ i x H H' (Q : VK), i < n → Same H1 H → Y i H x H' → (∀ y H3, vals[i]? = some y → Same H H3 → Q y H3) → g x (wipe σ vs) H' fun σ2 H2 => wipe σ2 vs = wipe σ vs ∧ te σ2 H2 Q)
    (hd : ∀ H, Same H1 H → H D = some (.lst vals) → Qd H) :
    ∃ W : Nat → Nat → Hp → Prop, (∃ m, W 0 m (upd H1 D (.lst []))) ∧ ∀ i m H, W i m H →
      (J.stop i H ∧ Qd H) ∨ (J.go i H ∧ ∃ Nx : Hp → Prop, (∀ H', Nx H' → ∃ m', m' < m ∧ W (i + 1) m' H') ∧ ∀ x H', J.yld i H x H' → g x (wipe σ vs) H' fun σ2 H2 => wipe σ2 vs = wipe σ vs ∧ tYes σ2 H2 fun b H3 =>
        if b = true then te σ2 H3 fun y H4 => ∃ acc, H4 D = some (.lst acc) ∧ acc.length < sizeLine ∧ Nx (upd H4 D (.lst (acc ++ [y]))) else Nx H3) := by
  refine lc_it w (tt := tYes) (fun i H => Same H1 H ∧ H D = some (.lst (vals.take i))) ⟨Same.new hD, by rw [upd_same]; rfl⟩ (fun i H _ p => hG H p.1) (fun i x H H' hi p y => ?_) (fun H p => hd H p.1 (by have := p.2; rw [← hn, List.take_length] at this; exact this))
  have q := hs i x H H' (fun y H4 => ∃ acc, H4 D = some (.lst acc) ∧ acc.length < sizeLine ∧ (Same H1 (upd H4 D (.lst (acc ++ [y]))) ∧ upd H4 D (.lst (acc ++ [y])) D = some (.lst (vals.take (i + 1))))) hi p.1 y (fun y H3 hy s3 => by
    refine ⟨_, s3 _ _ p.2, size100 ?_, (p.1.trans s3).mut hD, ?_⟩
    · rw [List.length_take]
      omega
    · rw [upd_same]
      congr 2
      rw [List.take_add_one, hy]
      rfl)
  exact q
theorem pi_or {X : Cx} {tg it : Expr} {w1 w2 : TI} (h1 : PI X tg it w1) (h2 : PI X tg it w2) : PI X tg it (fun σ H R => w1 σ H R ∨ w2 σ H R) := ⟨fun pins s σ H R I h => h.elim (h1.run pins s σ H R I) (h2.run pins s σ H R I)⟩
/-! ### is_integer, is_count, is_list -/
def sp_is_integer : Sp := fun vs H Q _ => ∃ i, vs = [V.int i] ∧ Q (.bl true) H
theorem c_is_integer (T : Txt K mg C) : C8.Cal P w K mg base 1 "is_integer" sp_is_integer [] := by
  refine T.d_is_integer.cal sc_is_integer (fun vs H Q E h => ?_) (fun f cdv A outer s H vs Q E hr h => ?_)
  · obtain ⟨i, rfl, _⟩ := h
    rfl
  · obtain ⟨i, rfl, k⟩ := h
    refine ⟨_, (pss_one (ps_ret (pe_and (pe_callB call_isi (by rfl) T.b_isinstance (by decide +kernel) (pa_cons (pv 0) (pa_cons (pe_bltn (v := .ty "int") (by rfl) T.b_int (by decide +kernel) rfl) pa_nil))) (pe_one (pe_not (pe_callB call_isi (by rfl) T.b_isinstance (by decide +kernel) (pa_cons (pv 0) (pa_cons (pe_bltn (v := .ty "bool") (by rfl) T.b_bool (by decide +kernel) rfl) pa_nil)))))))), ?_⟩
    refine ⟨_, rfl, _, _, _, _, true, rfl, .ty _, .base (.int i), kit_ty (by decide +kernel), true, rfl, iteT ?_⟩
    refine ⟨_, rfl, _, _, _, _, false, rfl, .ty _, .base (.int i), kit_ty (by decide +kernel), false, rfl, ?_⟩
    exact k
def sp_is_count : Sp := fun vs H Q _ => ∃ i, vs = [V.int i] ∧ Q (.bl (decide (0 ≤ i))) H
theorem c_is_count (T : Txt K mg C) : C8.Cal P w K mg base 2 "is_count" sp_is_count [] := by
  refine T.d_is_count.cal sc_is_count (fun vs H Q E h => ?_) (fun f cdv A outer s H vs Q E hr h => ?_)
  · obtain ⟨i, rfl, _⟩ := h
    rfl
  · obtain ⟨i, rfl, k⟩ := h
    refine ⟨_, (pss_one (ps_ret (pe_and (C8.pe_c (c_is_integer T) hr (by decide) rfl (pa_cons (pv 0) pa_nil)) (pe_one (pe_cmpR op_ge (pv 0) pe_int (nomark _)))))), ?_⟩
    refine ⟨_, rfl, i, rfl, true, rfl, iteT ?_⟩
    exact ⟨_, rfl, _, _, rfl, rfl, k⟩
def sp_is_list (K : PySem.W.Frag) : Sp := fun vs H Q _ => ∃ a xs, vs = [V.ref a] ∧ (SqL K H a xs ∨ SqT K H a xs) ∧ ∀ H', Same H H' → Q (.bl true) H'
theorem kitAny1 {t : String} {us : List Value} (h : PySem.W.kitOne K (.type t) (us.headD .none) = some true) (hn : us ≠ []) : PySem.W.kitAny K (.type t) us = some true := by
  cases us with
  | nil => exact absurd rfl hn
  | cons c r =>
    unfold PySem.W.kitAny
    rw [show PySem.W.kitOne K (.type t) c = some true from h]
theorem kitAny2 {t : String} {c d : Value} (h : PySem.W.kitOne K (.type t) c = some false) (h2 : PySem.W.kitOne K (.type t) d = some true) : PySem.W.kitAny K (.type t) [c, d] = some true := by
  unfold PySem.W.kitAny
  rw [h]
  exact kitAny1 (us := [d]) h2 (by intro z; cases z)
theorem c_is_list (T : Txt K mg C) : C8.Cal P w K mg base 1 "is_list" (sp_is_list K) [] := by
  refine T.d_is_list.cal sc_is_list (fun vs H Q E h => ?_) (fun f cdv A outer s H vs Q E hr h => ?_)
  · obtain ⟨a, xs, rfl, _⟩ := h
    rfl
  · obtain ⟨a, xs, rfl, hx, k⟩ := h
    refine ⟨_, (pss_one (ps_ret (pe_callB call_isiT (by rfl) T.b_isinstance (by decide +kernel) (pa_cons (pv 0) (pa_cons (pe_tup (pa_cons (pe_bltn (v := .ty "list") (by rfl) T.b_list (by decide +kernel) rfl) (pa_cons (pe_bltn (v := .ty "tuple") (by rfl) T.b_tuple (by decide +kernel) rfl) pa_nil))) pa_nil))))), ?_⟩
    refine ⟨_, rfl, (by show 2 ≤ sizeLine; decide), fun p hp => ?_⟩
    have s1 : Same H (upd H p (.tup [.ty "list", .ty "tuple"])) := Same.new hp
    have c : Paired ClsV [.ty "list", .ty "tuple"] [.type "list", .type "tuple"] := .cons (.ty _) (.cons (.ty _) .nil)
    rcases hx with hx | hx
    · exact ⟨.ref a, p, _, _, _, true, rfl, upd_same, c, tyx_L (s1.seq hx), kitAny1 (kit_ty (by decide +kernel)) (by intro z; cases z), k _ s1⟩
    · exact ⟨.ref a, p, _, _, _, true, rfl, upd_same, c, tyx_T (s1.seqT hx), kitAny2 (kit_ty (by decide +kernel)) (kit_ty (by decide +kernel)), k _ s1⟩
/-! ### _has_lanes, is_content -/
/-- a content, a list -/
def Ct (K : PySem.W.Frag) (H : Hp) (a : Addr) (ns : List Int) : Prop := (SqL K H a (ns.map V.int) ∨ SqT K H a (ns.map V.int)) ∧ 1 ≤ ns.length ∧ ns.length ≤ 12
theorem Ct.to {H H' : Hp} {a : Addr} {ns : List Int} (s : Same H H') (c : Ct K H a ns) : Ct K H' a ns := ⟨c.1.imp s.seq s.seqT, c.2⟩
def sp_has_lanes (K : PySem.W.Frag) : Sp := fun vs H Q _ => ∃ a ns, vs = [V.ref a] ∧ Ct K H a ns ∧ ∀ H', Same H H' → Q (.bl true) H'
theorem c_has_lanes (T : Txt K mg C) : C8.Cal P w K mg base 2 "_has_lanes" (sp_has_lanes K) [] := by
  refine T.d_has_lanes.cal sc_has_lanes (fun vs H Q E h => ?_) (fun f cdv A outer s H vs Q E hr h => ?_)
  · obtain ⟨a, xs, rfl, _⟩ := h
    rfl
  · obtain ⟨a, ns, rfl, c, k⟩ := h
    refine ⟨_, (pss_one (ps_ret (pe_and (C8.pe_c (c_is_list T) hr (by decide) rfl (pa_cons (pv 0) pa_nil)) (pe_one (pe_chain op_le op_le pe_int (pe_callB call_len_seq (by rfl) T.b_len (by decide +kernel) (pa_cons (pv 0) pa_nil)) (C8.pe_gc rfl T.gLANES_AT_MOST)))))), ?_⟩
    refine ⟨_, rfl, a, _, rfl, c.1, fun H1 s1 => ⟨true, rfl, iteT ?_⟩⟩
    refine ⟨_, rfl, a, _, rfl, (c.to s1).1, 1, _, rfl, rfl, _, rfl, ?_⟩
    rw [decide_eq_true (show (1 : Int) ≤ ((ns.map V.int).length : Int) by have := c.2.1; rw [List.length_map]; omega)]
    refine iteT ⟨_, _, rfl, rfl, ?_⟩
    exact q_bl (decide_eq_true (show ((ns.map V.int).length : Int) ≤ 12 by have := c.2.2; rw [List.length_map]; omega)) (k _ s1)
def sp_is_content (K : PySem.W.Frag) : Sp := fun vs H Q _ => ∃ a ns, vs = [V.ref a] ∧ Ct K H a ns ∧ ∀ H', Same H H' → Q (.bl true) H'
theorem c_is_content (T : Txt K mg C) : C8.Cal P w K mg base 3 "is_content" (sp_is_content K) [] := by
  refine T.d_is_content.cal sc_is_content (fun vs H Q E h => ?_) (fun f cdv A outer s H vs Q E hr h => ?_)
  · obtain ⟨a, xs, rfl, _⟩ := h
    rfl
  · obtain ⟨a, ns, rfl, c, k⟩ := h
    refine ⟨_, (pss_one (ps_ret (pe_and (C8.pe_c (c_has_lanes T) hr (by decide) rfl (pa_cons (pv 0) pa_nil)) (pe_one (pe_callB (cr_all rfl) (by rfl) T.b_all (by decide +kernel) (pa_cons (pe_lc (own := [("number", 1)]) (g := (gName 1)) (tt := tYes) rfl sc_is_content.nd (pi_or (pi_list (pv 0)) (pi_tup (pv 0))) (blkOk_by (N := N_is_content) (sc := C8.fnScope s_is_content) (by decide +kernel)) (fun _ _ _ _ _ => (pg_name (i := 1) sc_is_content.nd rfl (Or.inl rfl))) (fun _ _ _ _ _ => pts_nil) (fun _ _ _ _ _ => (C8.pe_c (c_is_integer T) hr (by decide) rfl (pa_cons (pv 1) pa_nil)))) pa_nil)))))), ?_⟩
    refine ⟨_, rfl, a, ns, rfl, c, fun H1 s1 => ⟨true, rfl, iteT ?_⟩⟩
    have c1 := c.to s1
    have few : (ns.map V.int).length ≤ 12 := by rw [List.length_map]; exact c.2.2
    rcases c1.1 with hq | hq
    · refine .inl ⟨_, rfl, a, rfl, ⟨_, hq⟩, fun D hD => lc_pure (walk_list (K := K) (a := a) (xs := ns.map V.int)) ((List.replicate (ns.map V.int).length true).map V.bl) (by simp) hD (by omega) (fun H' s => s.seq hq) (fun i x H H' Q' hi s y q => ?_) (fun H' s hd => ?_)⟩
      · obtain ⟨rfl, hx⟩ := y
        obtain ⟨n, rfl, hn⟩ := get_int hx
        exact ⟨rfl, _, rfl, n, rfl, q _ _ (by rw [List.getElem?_map, List.getElem?_replicate, if_pos hi]; rfl) (Same.refl _)⟩
      · refine ⟨D, _, rfl, SqL.of hd, ?_⟩
        rw [show (List.replicate (ns.map V.int).length true).all id = true by simp]
        exact k _ (s1.trans s)
    · refine .inr ⟨_, rfl, a, rfl, ⟨_, hq⟩, fun D hD => lc_pure (walk_tup (K := K) (a := a) (xs := ns.map V.int)) ((List.replicate (ns.map V.int).length true).map V.bl) (by simp) hD (by omega) (fun H' s => s.seqT hq) (fun i x H H' Q' hi s y q => ?_) (fun H' s hd => ?_)⟩
      · obtain ⟨rfl, hx⟩ := y
        obtain ⟨n, rfl, hn⟩ := get_int hx
        exact ⟨rfl, _, rfl, n, rfl, q _ _ (by rw [List.getElem?_map, List.getElem?_replicate, if_pos hi]; rfl) (Same.refl _)⟩
      · refine ⟨D, _, rfl, SqL.of hd, ?_⟩
        rw [show (List.replicate (ns.map V.int).length true).all id = true by simp]
        exact k _ (s1.trans s)
end
end LL

namespace LL
open PySem L2 PySem.Spec PyProof.Rows
section
variable {P : Program} {w : World} {K : PySem.W.Frag} {mg : Str → Option Value} {base : Heap} {C : Addr}
def sp_is_lane : Sp := fun vs H Q _ => ∃ i n, vs = [V.int i, V.int n] ∧ 0 ≤ i ∧ Q (.bl (decide (i < n))) H
theorem c_is_lane (T : Txt K mg C) : C8.Cal P w K mg base 3 "is_lane" sp_is_lane [] := by
  refine T.d_is_lane.cal sc_is_lane (fun vs H Q E h => ?_) (fun f cdv A outer s H vs Q E hr h => ?_)
  · obtain ⟨i, n, rfl, _⟩ := h
    rfl
  · obtain ⟨i, n, rfl, h0, k⟩ := h
    refine ⟨_, (pss_one (ps_ret (pe_and (C8.pe_c (c_is_count T) hr (by decide) rfl (pa_cons (pv 0) pa_nil)) (pe_one (pe_cmpR op_lt (pv 0) (pv 1) (nomark _)))))), ?_⟩
    refine ⟨_, rfl, i, rfl, _, rfl, ?_⟩
    rw [decide_eq_true h0]
    exact iteT ⟨_, rfl, _, rfl, _, _, rfl, rfl, k⟩
def sp_check_content (K : PySem.W.Frag) : Sp := fun vs H Q _ => ∃ (a : Addr) (ns : List Int) (n : Int), vs = [V.ref a, V.int n] ∧ Ct K H a ns ∧ (ns.length : Int) = n ∧ ∀ H', Same H H' → Q .non H'
theorem c_check_content (T : Txt K mg C) : C8.Cal P w K mg base 4 "check_content" (sp_check_content K) [] := by
  refine T.d_check_content.cal sc_check_content (fun vs H Q E h => ?_) (fun f cdv A outer s H vs Q E hr h => ?_)
  · obtain ⟨a, ns, n, rfl, _⟩ := h
    rfl
  · obtain ⟨a, ns, n, rfl, c, hn, k⟩ := h
    refine ⟨_, (pss_one (ps_if (PW.pt (pw_or (pt_not (pt_val (C8.pe_c (c_is_content T) hr (by decide) rfl (pa_cons (pv 0) pa_nil)))) (pw_or1 (pt_cmpR op_ne (pe_callB call_len_seq (by rfl) T.b_len (by decide +kernel) (pa_cons (pv 0) pa_nil)) (pv 1) (nomark _)))))
       (pss_one ps_never)
       pss_nil)), ?_⟩
    refine ⟨_, rfl, a, ns, rfl, c, fun H1 s1 => ⟨true, rfl, iteF ⟨_, rfl, a, _, rfl, (c.to s1).1, _, rfl, rfl, _, rfl, ?_⟩⟩⟩
    exact iteNS (show V.int ((ns.map V.int).length : Int) = V.int n by rw [List.length_map, hn]) (k _ s1)
def sp_check_many : Sp := fun vs H Q _ => ∃ i, vs = [V.int i] ∧ 0 ≤ i ∧ Q .non H
theorem c_check_many (T : Txt K mg C) : C8.Cal P w K mg base 3 "check_many" sp_check_many [] := by
  refine T.d_check_many.cal sc_check_many (fun vs H Q E h => ?_) (fun f cdv A outer s H vs Q E hr h => ?_)
  · obtain ⟨i, rfl, _⟩ := h
    rfl
  · obtain ⟨i, rfl, h0, k⟩ := h
    refine ⟨_, (pss_one (ps_if (pt_not (pt_val (C8.pe_c (c_is_count T) hr (by decide) rfl (pa_cons (pv 0) pa_nil))))
       (pss_one ps_never)
       pss_nil)), ?_⟩
    refine ⟨_, rfl, i, rfl, _, rfl, ?_⟩
    exact iteNS h0 k
end
end LL

namespace LL
open PySem L2 PySem.Spec PyProof.Rows
/-! ### gates, as data -/
inductive Gt where
  | low (i j : Nat) | high (i j : Nat) | sort (i j : Nat) | copy (i j : Nat) | add (i : Nat) (c : Int)
def Gt.vals : Gt → List V
  | .low i j => [.str "low", .int i, .int j]
  | .high i j => [.str "high", .int i, .int j]
  | .sort i j => [.str "sort", .int i, .int j]
  | .copy i j => [.str "copy", .int i, .int j]
  | .add i c => [.str "add", .int i, .int c]
def Gt.ok (n : Nat) : Gt → Prop
  | .low i j => i < n ∧ j < n ∧ i ≠ j
  | .high i j => i < n ∧ j < n ∧ i ≠ j
  | .sort i j => i < n ∧ j < n ∧ i ≠ j
  | .copy i j => i < n ∧ j < n ∧ i ≠ j
  | .add i _ => i < n
def at0 (ns : List Int) (i : Nat) : Int := ns.getD i 0
def mn (a b : Int) : Int := if b < a then b else a
def mx (a b : Int) : Int := if b > a then b else a
def Gt.done : Gt → List Int → List Int
  | .low i j, ns => ns.set i (mn (at0 ns i) (at0 ns j))
  | .high i j, ns => ns.set i (mx (at0 ns i) (at0 ns j))
  | .sort i j, ns => (ns.set i (mn (at0 ns i) (at0 ns j))).set j (mx (at0 ns i) (at0 ns j))
  | .copy i j, ns => ns.set i (at0 ns j)
  | .add i c, ns => ns.set i (at0 ns i + c)
theorem done_length (g : Gt) (ns : List Int) : (g.done ns).length = ns.length := by
  cases g <;> simp [Gt.done]
def runs (gs : List Gt) (ns : List Int) : List Int := gs.foldl (fun x g => g.done x) ns
theorem runs_length : ∀ (gs : List Gt) (ns : List Int), (runs gs ns).length = ns.length
  | [], _ => rfl
  | g :: r, ns => by
    show (runs r (g.done ns)).length = _
    rw [runs_length r, done_length]
/-- the contents ahead of all gates and behind each -/
def rowsOf (gs : List Gt) (ns : List Int) : List (List Int) := (List.range (gs.length + 1)).map fun k => runs (gs.take k) ns
theorem runs_take_succ {gs : List Gt} {ns : List Int} {i : Nat} {g : Gt} (h : gs[i]? = some g) : runs (gs.take (i + 1)) ns = g.done (runs (gs.take i) ns) := by
  rw [List.take_add_one, h]
  unfold runs
  rw [List.foldl_append]
  rfl
/-! ### what stands in the heap -/
def IsG (K : PySem.W.Frag) (H : Hp) (v : V) (g : Gt) : Prop := ∃ t, v = .ref t ∧ SqT K H t g.vals
def IsI (K : PySem.W.Frag) (H : Hp) (v : V) (ns : List Int) : Prop := ∃ a, v = .ref a ∧ SqL K H a (ns.map V.int)
def Ls {α : Type} (K : PySem.W.Frag) (R : V → α → Prop) (H : Hp) (a : Addr) (ys : List α) : Prop := ∃ xs, SqL K H a xs ∧ All2 R xs ys
abbrev Gs (K : PySem.W.Frag) (H : Hp) (a : Addr) (gs : List Gt) : Prop := Ls K (IsG K H) H a gs
abbrev Rws (K : PySem.W.Frag) (H : Hp) (a : Addr) (rows : List (List Int)) : Prop := Ls K (IsI K H) H a rows
theorem IsG.to {K : PySem.W.Frag} {H H' : Hp} (s : Same H H') {v : V} {g : Gt} (h : IsG K H v g) : IsG K H' v g := let ⟨t, e, q⟩ := h; ⟨t, e, s.seqT q⟩
theorem IsI.to {K : PySem.W.Frag} {H H' : Hp} (s : Same H H') {v : V} {g : List Int} (h : IsI K H v g) : IsI K H' v g := let ⟨t, e, q⟩ := h; ⟨t, e, s.seq q⟩
theorem Gs.to {K : PySem.W.Frag} {H H' : Hp} (s : Same H H') {a : Addr} {gs : List Gt} (h : Gs K H a gs) : Gs K H' a gs := let ⟨xs, q, r⟩ := h; ⟨xs, s.seq q, r.mono fun _ _ z => z.to s⟩
theorem Rws.to {K : PySem.W.Frag} {H H' : Hp} (s : Same H H') {a : Addr} {gs : List (List Int)} (h : Rws K H a gs) : Rws K H' a gs := let ⟨xs, q, r⟩ := h; ⟨xs, s.seq q, r.mono fun _ _ z => z.to s⟩
/-! ### places -/
theorem int_at {ns : List Int} {i : Nat} (h : i < ns.length) : (ns.map V.int)[i]? = some (.int (at0 ns i)) := by
  rw [List.getElem?_map, List.getElem?_eq_getElem h]
  show some (V.int ns[i]) = some (V.int (ns.getD i 0))
  rw [List.getD_eq_getElem?_getD, List.getElem?_eq_getElem h]
  rfl
theorem ixN_nat {n i : Nat} (h : i < n) : ixN n (i : Int) = some i := by
  unfold ixN
  rw [if_pos (by omega), if_pos (by omega)]
  simp
theorem int_atI {ns : List Int} {i : Nat} (h : i < ns.length) : atI (ns.map V.int) (i : Int) = some (.int (at0 ns i)) := atI_nat (int_at h)
theorem map_set_int (ns : List Int) (i : Nat) (z : Int) : (ns.map V.int).set i (.int z) = (ns.set i z).map V.int := by
  rw [List.map_set]
section
variable {P : Program} {w : World} {K : PySem.W.Frag} {mg : Str → Option Value} {base : Heap} {C : Addr}
/-! ### is_gate, behind_gate -/
def sp_is_gate (K : PySem.W.Frag) : Sp := fun vs H Q _ => ∃ (t : Addr) (g : Gt) (n : Nat), vs = [V.ref t, V.int n] ∧ SqT K H t g.vals ∧ g.ok n ∧ Q (.bl true) H
theorem c_is_gate (T : Txt K mg C) : C8.Cal P w K mg base 4 "is_gate" (sp_is_gate K) [] := by
  refine T.d_is_gate.cal sc_is_gate (fun vs H Q E h => ?_) (fun f cdv A outer s H vs Q E hr h => ?_)
  · obtain ⟨t, g, n, rfl, _⟩ := h
    rfl
  · obtain ⟨t, g, n, rfl, hg, ho, k⟩ := h
    obtain ⟨aT, mgT, hT⟩ := T.gTWO
    refine ⟨_, (pss_cons (ps_if (PW.pt (pw_or (pt_not (pt_val (pe_callB call_isi (by rfl) T.b_isinstance (by decide +kernel) (pa_cons (pv 0) (pa_cons (pe_bltn (v := .ty "tuple") (by rfl) T.b_tuple (by decide +kernel) rfl) pa_nil))))) (pw_or1 (pt_cmpR op_ne (pe_callB call_len_seq (by rfl) T.b_len (by decide +kernel) (pa_cons (pv 0) pa_nil)) pe_int (nomark _)))))
       (pss_one (ps_ret pe_bl))
       pss_nil)
      (pss_cons (ps_asg (pv 0) (pg_tup (n := 3) rfl (pgs_cons (pg_name (i := 2) sc_is_gate.nd rfl (Or.inl rfl)) (pgs_cons (pg_name (i := 3) sc_is_gate.nd rfl (Or.inl rfl)) (pgs_cons (pg_name (i := 4) sc_is_gate.nd rfl (Or.inl rfl)) pgs_nil)))))
      (pss_cons (ps_if (PW.pt (pw_or (pt_not (pt_val (pe_callB call_isi (by rfl) T.b_isinstance (by decide +kernel) (pa_cons (pv 2) (pa_cons (pe_bltn (v := .ty "str") (by rfl) T.b_str (by decide +kernel) rfl) pa_nil))))) (pw_or1 (pt_not (pt_val (C8.pe_c (c_is_lane T) hr (by decide) rfl (pa_cons (pv 3) (pa_cons (pv 1) pa_nil))))))))
       (pss_one (ps_ret pe_bl))
       pss_nil)
      (pss_cons (ps_if (pt_cmpR op_eq (pv 2) pe_str (nomark _))
       (pss_one (ps_ret (C8.pe_c (c_is_integer T) hr (by decide) rfl (pa_cons (pv 4) pa_nil))))
       pss_nil)
      (pss_one (ps_ret (pe_and (pe_cmpR op_in_seq (pv 2) (C8.pe_gc (v := .ref aT) rfl ⟨_, mgT, rfl⟩) (by rfl)) (pe_and (C8.pe_c (c_is_lane T) hr (by decide) rfl (pa_cons (pv 4) (pa_cons (pv 1) pa_nil))) (pe_one (pe_cmpR op_ne (pv 4) (pv 3) (nomark _))))))))))), ?_⟩
    refine ⟨_, rfl, _, _, _, _, true, rfl, .ty _, tyx_T hg, kit_ty (by decide +kernel), true, rfl, iteF ?_⟩
    have hl : g.vals.length = 3 := by cases g <;> rfl
    refine ⟨_, rfl, t, _, rfl, .inr hg, by rfl, _, rfl, iteNS (show V.int ((g.vals.length : Nat) : Int) = V.int 3 by rw [hl]; rfl) ?_⟩
    cases g with
    | add i c =>
      have hi : i < n := ho
      refine ⟨_, rfl, t, _, rfl, hg, rfl, _, _, rfl, _, _, rfl, _, _, rfl, rfl, ?_⟩
      refine ⟨_, rfl, _, _, _, _, true, rfl, .ty _, .base (.str _), kit_ty (by decide +kernel), true, rfl, iteF ?_⟩
      refine ⟨_, rfl, _, rfl, i, n, rfl, Int.natCast_nonneg i, _, rfl, ?_⟩
      refine iteNS (show (i : Int) < n by omega) ?_
      refine ⟨_, rfl, rfl, _, rfl, ?_⟩
      refine itT (by decide +kernel) ?_
      exact ⟨_, rfl, c, rfl, k⟩
    | low i j =>
      obtain ⟨hi, hj, hij⟩ := ho
      refine ⟨_, rfl, t, _, rfl, hg, rfl, _, _, rfl, _, _, rfl, _, _, rfl, rfl, ?_⟩
      refine ⟨_, rfl, _, _, _, _, true, rfl, .ty _, .base (.str _), kit_ty (by decide +kernel), true, rfl, iteF ?_⟩
      refine ⟨_, rfl, _, rfl, i, n, rfl, Int.natCast_nonneg i, _, rfl, ?_⟩
      refine iteNS (show (i : Int) < n by omega) ?_
      refine ⟨_, rfl, rfl, _, rfl, ?_⟩
      refine itF (by decide +kernel) ?_
      refine ⟨_, rfl, aT, _, rfl, .inr (hT _), rfl, rfl, _, rfl, ?_⟩
      refine itT (by decide +kernel) ?_
      refine ⟨_, rfl, _, rfl, j, n, rfl, Int.natCast_nonneg j, _, rfl, ?_⟩
      refine itT (decide_eq_true (show (j : Int) < n by omega)) ?_
      refine ⟨_, rfl, _, rfl, rfl, ?_⟩
      exact q_bl (by rw [Bool.not_eq_true', decide_eq_false_iff_not]; intro z; injection z with z; omega) k
    | high i j =>
      obtain ⟨hi, hj, hij⟩ := ho
      refine ⟨_, rfl, t, _, rfl, hg, rfl, _, _, rfl, _, _, rfl, _, _, rfl, rfl, ?_⟩
      refine ⟨_, rfl, _, _, _, _, true, rfl, .ty _, .base (.str _), kit_ty (by decide +kernel), true, rfl, iteF ?_⟩
      refine ⟨_, rfl, _, rfl, i, n, rfl, Int.natCast_nonneg i, _, rfl, ?_⟩
      refine iteNS (show (i : Int) < n by omega) ?_
      refine ⟨_, rfl, rfl, _, rfl, ?_⟩
      refine itF (by decide +kernel) ?_
      refine ⟨_, rfl, aT, _, rfl, .inr (hT _), rfl, rfl, _, rfl, ?_⟩
      refine itT (by decide +kernel) ?_
      refine ⟨_, rfl, _, rfl, j, n, rfl, Int.natCast_nonneg j, _, rfl, ?_⟩
      refine itT (decide_eq_true (show (j : Int) < n by omega)) ?_
      refine ⟨_, rfl, _, rfl, rfl, ?_⟩
      exact q_bl (by rw [Bool.not_eq_true', decide_eq_false_iff_not]; intro z; injection z with z; omega) k
    | sort i j =>
      obtain ⟨hi, hj, hij⟩ := ho
      refine ⟨_, rfl, t, _, rfl, hg, rfl, _, _, rfl, _, _, rfl, _, _, rfl, rfl, ?_⟩
      refine ⟨_, rfl, _, _, _, _, true, rfl, .ty _, .base (.str _), kit_ty (by decide +kernel), true, rfl, iteF ?_⟩
      refine ⟨_, rfl, _, rfl, i, n, rfl, Int.natCast_nonneg i, _, rfl, ?_⟩
      refine iteNS (show (i : Int) < n by omega) ?_
      refine ⟨_, rfl, rfl, _, rfl, ?_⟩
      refine itF (by decide +kernel) ?_
      refine ⟨_, rfl, aT, _, rfl, .inr (hT _), rfl, rfl, _, rfl, ?_⟩
      refine itT (by decide +kernel) ?_
      refine ⟨_, rfl, _, rfl, j, n, rfl, Int.natCast_nonneg j, _, rfl, ?_⟩
      refine itT (decide_eq_true (show (j : Int) < n by omega)) ?_
      refine ⟨_, rfl, _, rfl, rfl, ?_⟩
      exact q_bl (by rw [Bool.not_eq_true', decide_eq_false_iff_not]; intro z; injection z with z; omega) k
    | copy i j =>
      obtain ⟨hi, hj, hij⟩ := ho
      refine ⟨_, rfl, t, _, rfl, hg, rfl, _, _, rfl, _, _, rfl, _, _, rfl, rfl, ?_⟩
      refine ⟨_, rfl, _, _, _, _, true, rfl, .ty _, .base (.str _), kit_ty (by decide +kernel), true, rfl, iteF ?_⟩
      refine ⟨_, rfl, _, rfl, i, n, rfl, Int.natCast_nonneg i, _, rfl, ?_⟩
      refine iteNS (show (i : Int) < n by omega) ?_
      refine ⟨_, rfl, rfl, _, rfl, ?_⟩
      refine itF (by decide +kernel) ?_
      refine ⟨_, rfl, aT, _, rfl, .inr (hT _), rfl, rfl, _, rfl, ?_⟩
      refine itT (by decide +kernel) ?_
      refine ⟨_, rfl, _, rfl, j, n, rfl, Int.natCast_nonneg j, _, rfl, ?_⟩
      refine itT (decide_eq_true (show (j : Int) < n by omega)) ?_
      refine ⟨_, rfl, _, rfl, rfl, ?_⟩
      exact q_bl (by rw [Bool.not_eq_true', decide_eq_false_iff_not]; intro z; injection z with z; omega) k
end
end LL

namespace LL
open PySem L2 PySem.Spec PyProof.Rows
section
variable {P : Program} {w : World} {K : PySem.W.Frag} {mg : Str → Option Value} {base : Heap} {C : Addr}
def sp_behind_gate (K : PySem.W.Frag) : Sp := fun vs H Q _ => ∃ (t a : Addr) (g : Gt) (ns : List Int), vs = [V.ref t, V.ref a] ∧ SqT K H t g.vals ∧ SqL K H a (ns.map V.int) ∧ g.ok ns.length ∧ ∀ H' p, Same H H' → H p = none → H' p = some (.lst ((g.done ns).map V.int)) → Q (.ref p) H'
theorem c_behind_gate (T : Txt K mg C) : C8.Cal P w K mg base 1 "behind_gate" (sp_behind_gate K) [] := by
  refine T.d_behind_gate.cal sc_behind_gate (fun vs H Q E h => ?_) (fun f cdv A outer s H vs Q E hr h => ?_)
  · obtain ⟨t, a, g, ns, rfl, _⟩ := h
    rfl
  · obtain ⟨t, a, g, ns, rfl, hg, ha, ho, k⟩ := h
    refine ⟨_, (pss_cons (ps_asg (pv 0) (pg_tup (n := 3) rfl (pgs_cons (pg_name (i := 2) sc_behind_gate.nd rfl (Or.inl rfl)) (pgs_cons (pg_name (i := 3) sc_behind_gate.nd rfl (Or.inl rfl)) (pgs_cons (pg_name (i := 4) sc_behind_gate.nd rfl (Or.inl rfl)) pgs_nil)))))
      (pss_cons (ps_set (i := 5) sc_behind_gate.nd rfl (Or.inl rfl) (pe_callTy call_list_of (by rfl) T.b_list (by decide +kernel) (pa_cons (pv 1) pa_nil)))
      (pss_cons (ps_if (pt_cmpR op_eq (pv 2) pe_str (nomark _))
       (pss_one (ps_asg (pe_op op_add (pe_ix ix_list (pv 1) (pv 3) (fun _ _ => rfl)) (pv 4)) (pg_sub (pv 5) (pv 3) set_list)))
       (pss_one (ps_if (pt_cmpR op_eq (pv 2) pe_str (nomark _))
         (pss_one (ps_asg (pe_ix ix_list (pv 1) (pv 4) (fun _ _ => rfl)) (pg_sub (pv 5) (pv 3) set_list)))
         (pss_one (ps_if (pt_cmpR op_eq (pv 2) pe_str (nomark _))
           (pss_one (ps_asg (pe_callB (call_min2 rfl) (by rfl) T.b_min (by decide +kernel) (pa_cons (pe_ix ix_list (pv 1) (pv 3) (fun _ _ => rfl)) (pa_cons (pe_ix ix_list (pv 1) (pv 4) (fun _ _ => rfl)) pa_nil))) (pg_sub (pv 5) (pv 3) set_list)))
           (pss_one (ps_if (pt_cmpR op_eq (pv 2) pe_str (nomark _))
             (pss_one (ps_asg (pe_callB (call_max2 rfl) (by rfl) T.b_max (by decide +kernel) (pa_cons (pe_ix ix_list (pv 1) (pv 3) (fun _ _ => rfl)) (pa_cons (pe_ix ix_list (pv 1) (pv 4) (fun _ _ => rfl)) pa_nil))) (pg_sub (pv 5) (pv 3) set_list)))
             (pss_cons (ps_asg (pe_callB (call_min2 rfl) (by rfl) T.b_min (by decide +kernel) (pa_cons (pe_ix ix_list (pv 1) (pv 3) (fun _ _ => rfl)) (pa_cons (pe_ix ix_list (pv 1) (pv 4) (fun _ _ => rfl)) pa_nil))) (pg_sub (pv 5) (pv 3) set_list))
              (pss_one (ps_asg (pe_callB (call_max2 rfl) (by rfl) T.b_max (by decide +kernel) (pa_cons (pe_ix ix_list (pv 1) (pv 3) (fun _ _ => rfl)) (pa_cons (pe_ix ix_list (pv 1) (pv 4) (fun _ _ => rfl)) pa_nil))) (pg_sub (pv 5) (pv 4) set_list)))))))))))
      (pss_one (ps_ret (pv 5)))))), ?_⟩
    cases g with
    | add i c =>
      have hi : i < ns.length := ho
      refine ⟨_, rfl, t, _, rfl, hg, rfl, _, _, rfl, _, _, rfl, _, _, rfl, rfl, ?_⟩
      refine ⟨_, rfl, a, _, rfl, .inl ha, fun p hp => ?_⟩
      have s1 : Same H (upd H p (.lst (ns.map V.int))) := Same.new hp
      refine ⟨_, rfl, rfl, _, rfl, ?_⟩
      refine itT (by decide +kernel) ?_
      refine ⟨_, rfl, _, rfl, a, _, _, _, rfl, rfl, s1.seq ha, int_atI hi, _, rfl, _, _, rfl, rfl, ?_⟩
      refine ⟨_, rfl, _, rfl, p, _, _, i, rfl, rfl, upd_same, ixN_nat (by rw [List.length_map]; exact hi), ?_⟩
      refine ⟨_, rfl, k _ p (s1.mut hp) hp ?_⟩
      rw [upd_same, map_set_int]
      rfl
    | low i j =>
      obtain ⟨hi, hj, hij⟩ := ho
      refine ⟨_, rfl, t, _, rfl, hg, rfl, _, _, rfl, _, _, rfl, _, _, rfl, rfl, ?_⟩
      refine ⟨_, rfl, a, _, rfl, .inl ha, fun p hp => ?_⟩
      have s1 : Same H (upd H p (.lst (ns.map V.int))) := Same.new hp
      refine ⟨_, rfl, rfl, _, rfl, ?_⟩
      refine itF (by decide +kernel) ?_
      refine ⟨_, rfl, rfl, _, rfl, ?_⟩
      refine itF (by decide +kernel) ?_
      refine ⟨_, rfl, rfl, _, rfl, ?_⟩
      refine itT (by decide +kernel) ?_
      refine ⟨_, rfl, _, rfl, a, _, _, _, rfl, rfl, s1.seq ha, int_atI hi, _, rfl, _, rfl, a, _, _, _, rfl, rfl, s1.seq ha, int_atI hj, _, _, rfl, ?_⟩
      refine ⟨_, rfl, _, rfl, p, _, _, i, rfl, rfl, upd_same, ixN_nat (by rw [List.length_map]; exact hi), ?_⟩
      refine ⟨_, rfl, k _ p (s1.mut hp) hp ?_⟩
      rw [upd_same, map_set_int]
      rfl
    | high i j =>
      obtain ⟨hi, hj, hij⟩ := ho
      refine ⟨_, rfl, t, _, rfl, hg, rfl, _, _, rfl, _, _, rfl, _, _, rfl, rfl, ?_⟩
      refine ⟨_, rfl, a, _, rfl, .inl ha, fun p hp => ?_⟩
      have s1 : Same H (upd H p (.lst (ns.map V.int))) := Same.new hp
      refine ⟨_, rfl, rfl, _, rfl, ?_⟩
      refine itF (by decide +kernel) ?_
      refine ⟨_, rfl, rfl, _, rfl, ?_⟩
      refine itF (by decide +kernel) ?_
      refine ⟨_, rfl, rfl, _, rfl, ?_⟩
      refine itF (by decide +kernel) ?_
      refine ⟨_, rfl, rfl, _, rfl, ?_⟩
      refine itT (by decide +kernel) ?_
      refine ⟨_, rfl, _, rfl, a, _, _, _, rfl, rfl, s1.seq ha, int_atI hi, _, rfl, _, rfl, a, _, _, _, rfl, rfl, s1.seq ha, int_atI hj, _, _, rfl, ?_⟩
      refine ⟨_, rfl, _, rfl, p, _, _, i, rfl, rfl, upd_same, ixN_nat (by rw [List.length_map]; exact hi), ?_⟩
      refine ⟨_, rfl, k _ p (s1.mut hp) hp ?_⟩
      rw [upd_same, map_set_int]
      rfl
    | sort i j =>
      obtain ⟨hi, hj, hij⟩ := ho
      refine ⟨_, rfl, t, _, rfl, hg, rfl, _, _, rfl, _, _, rfl, _, _, rfl, rfl, ?_⟩
      refine ⟨_, rfl, a, _, rfl, .inl ha, fun p hp => ?_⟩
      have s1 : Same H (upd H p (.lst (ns.map V.int))) := Same.new hp
      refine ⟨_, rfl, rfl, _, rfl, ?_⟩
      refine itF (by decide +kernel) ?_
      refine ⟨_, rfl, rfl, _, rfl, ?_⟩
      refine itF (by decide +kernel) ?_
      refine ⟨_, rfl, rfl, _, rfl, ?_⟩
      refine itF (by decide +kernel) ?_
      refine ⟨_, rfl, rfl, _, rfl, ?_⟩
      refine itF (by decide +kernel) ?_
      refine ⟨_, rfl, _, rfl, a, _, _, _, rfl, rfl, s1.seq ha, int_atI hi, _, rfl, _, rfl, a, _, _, _, rfl, rfl, s1.seq ha, int_atI hj, _, _, rfl, ?_⟩
      refine ⟨_, rfl, _, rfl, p, _, _, i, rfl, rfl, upd_same, ixN_nat (by rw [List.length_map]; exact hi), ?_⟩
      have s2 := s1.mut (p := p) (o := .lst ((ns.map V.int).set i (.int (mn (at0 ns i) (at0 ns j))))) hp
      refine ⟨_, rfl, _, rfl, a, _, _, _, rfl, rfl, s2.seq ha, int_atI hi, _, rfl, _, rfl, a, _, _, _, rfl, rfl, s2.seq ha, int_atI hj, _, _, rfl, ?_⟩
      refine ⟨_, rfl, _, rfl, p, _, _, j, rfl, rfl, upd_same, ixN_nat (by rw [List.length_set, List.length_map]; exact hj), ?_⟩
      refine ⟨_, rfl, k _ p (s2.mut hp) hp ?_⟩
      rw [upd_same, map_set_int, map_set_int]
      rfl
    | copy i j =>
      obtain ⟨hi, hj, hij⟩ := ho
      refine ⟨_, rfl, t, _, rfl, hg, rfl, _, _, rfl, _, _, rfl, _, _, rfl, rfl, ?_⟩
      refine ⟨_, rfl, a, _, rfl, .inl ha, fun p hp => ?_⟩
      have s1 : Same H (upd H p (.lst (ns.map V.int))) := Same.new hp
      refine ⟨_, rfl, rfl, _, rfl, ?_⟩
      refine itF (by decide +kernel) ?_
      refine ⟨_, rfl, rfl, _, rfl, ?_⟩
      refine itT (by decide +kernel) ?_
      refine ⟨_, rfl, _, rfl, a, _, _, _, rfl, rfl, s1.seq ha, int_atI hj, ?_⟩
      refine ⟨_, rfl, _, rfl, p, _, _, i, rfl, rfl, upd_same, ixN_nat (by rw [List.length_map]; exact hi), ?_⟩
      refine ⟨_, rfl, k _ p (s1.mut hp) hp ?_⟩
      rw [upd_same, map_set_int]
      rfl
/-- tuple(xs) -/
abbrev rTupOf (K : PySem.W.Frag) : List V → Hp → VK → Prop := fun xs H Q => ∃ p ys, xs = [V.ref p] ∧ ((SqL K H p ys ∧ ∀ (l : Addr), H l = none → Q (V.ref l) (upd H l (HO.tup ys))) ∨ SqT K H p ys ∧ Q (V.ref p) H)
/-! ### nets -/
def pf (l : Addr) (n : Int) : List (Str × V) := [("_lanes", .int n), ("_gates", .ref l)]
theorem pf_eq (l : Addr) (n : Int) : putF "_gates" (.ref l) (putF "_lanes" (.int n) []) = pf l n := by
  show (if ("_lanes" : Str) = "_gates" then _ else (("_lanes" : Str), V.int n) :: putF "_gates" (.ref l) []) = _
  rw [if_neg (by decide +kernel)]
  rfl
theorem pf_lanes (l : Addr) (n : Int) : (pf l n).lookup ("_lanes" : Str) = some (.int n) := by rfl
theorem pf_gates (l : Addr) (n : Int) : (pf l n).lookup ("_gates" : Str) = some (.ref l) := by rfl
structure NetAt (K : PySem.W.Frag) (C : Addr) (H : Hp) (p : Addr) (n : Nat) (gs : List Gt) : Prop where
  at_ : ∃ dx l xs, H p = some (.ins C dx (pf l n)) ∧ H l = some (.lst xs) ∧ All2 (IsG K H) xs gs
  low : 1 ≤ n
  high : n ≤ 12
  ok : ∀ g ∈ gs, g.ok n
  few : gs.length ≤ 400
theorem NetAt.old {H : Hp} {p : Addr} {n : Nat} {gs : List Gt} (h : NetAt K C H p n gs) : ∃ dx l, H p = some (.ins C dx (pf l n)) ∧ Gs K H l gs := let ⟨dx, l, xs, h1, h2, h3⟩ := h.at_; ⟨dx, l, h1, xs, SqL.of h2, h3⟩
theorem NetAt.to {H H' : Hp} {p : Addr} {n : Nat} {gs : List Gt} (s : Same H H') (h : NetAt K C H p n gs) : NetAt K C H' p n gs := by
  obtain ⟨⟨dx, l, xs, h1, h2, h3⟩, a, b, c, d⟩ := h
  exact ⟨⟨dx, l, xs, s _ _ h1, s _ _ h2, h3.mono fun _ _ z => z.to s⟩, a, b, c, d⟩
def sp_check_lanes : Sp := fun vs H Q _ => ∃ (n : Int), vs = [V.int n, V.int 1] ∧ 1 ≤ n ∧ n ≤ 12 ∧ Q .non H
theorem c_check_lanes (T : Txt K mg C) : C8.Cal P w K mg base 2 "check_lanes" sp_check_lanes [] := by
  refine T.d_check_lanes.cal sc_check_lanes (fun vs H Q E h => ?_) (fun f cdv A outer s H vs Q E hr h => ?_)
  · obtain ⟨n, rfl, _⟩ := h
    rfl
  · obtain ⟨n, rfl, h1, h2, k⟩ := h
    refine ⟨_, (pss_one (ps_if (PW.pt (pw_or (pt_not (pt_val (C8.pe_c (c_is_integer T) hr (by decide) rfl (pa_cons (pv 0) pa_nil)))) (pw_or1 (pt_not (pt_chain op_le op_le (pv 1) (pv 0) (C8.pe_gc rfl T.gLANES_AT_MOST))))))
       (pss_one ps_never)
       pss_nil)), ?_⟩
    refine ⟨_, rfl, n, rfl, true, rfl, iteF ?_⟩
    refine ⟨_, rfl, _, rfl, _, _, rfl, rfl, _, rfl, itT (decide_eq_true h1) ⟨_, _, rfl, rfl, _, rfl, ?_⟩⟩
    exact iteNS h2 k
def sp_check_gates (K : PySem.W.Frag) : Sp := fun vs H Q _ => ∃ (a : Addr) (n : Nat) (gs : List Gt), vs = [V.ref a, V.int n] ∧ Gs K H a gs ∧ (∀ g ∈ gs, g.ok n) ∧ gs.length ≤ 400 ∧ ∀ H', Same H H' → Q .non H'
theorem c_check_gates (T : Txt K mg C) : C8.Cal P w K mg base 5 "_check_gates" (sp_check_gates K) [] := by
  refine T.d_check_gates.cal sc_check_gates (fun vs H Q E h => ?_) (fun f cdv A outer s H vs Q E hr h => ?_)
  · obtain ⟨a, n, gs, rfl, _⟩ := h
    rfl
  · obtain ⟨a, n, gs, rfl, ⟨xs, hx, hr2⟩, ho, hf, k⟩ := h
    obtain ⟨mc, u, cr, cv⟩ := T.cM
    refine ⟨_, (pss_cons (ps_if (pt_not (pt_val (C8.pe_c (c_is_list T) hr (by decide) rfl (pa_cons (pv 0) pa_nil))))
       (pss_one ps_never)
       pss_nil)
      (pss_cons (ps_for PassesOwn.never rfl (pi_enum (by rfl) T.b_enumerate (pa_cons (pv 0) pa_nil)) (pg_tup rfl (pgs_cons (pg_name (i := 2) sc_check_gates.nd rfl (Or.inl rfl)) (pgs_cons (pg_name (i := 3) sc_check_gates.nd rfl (Or.inl rfl)) pgs_nil)))
       (pss_one (ps_if (pt_not (pt_val (C8.pe_c (c_is_gate T) hr (by decide) rfl (pa_cons (pv 3) (pa_cons (pv 1) pa_nil)))))
         (pss_one ps_never)
         pss_nil)))
      (pss_one (ps_if (pt_cmpR op_gt (pe_callB call_len_seq (by rfl) T.b_len (by decide +kernel) (pa_cons (pv 0) pa_nil)) (ClX.pe_cval (C8.pe_gc (v := .ref C) rfl ⟨_, T.mgC, rfl⟩)) (nomark _))
       (pss_one ps_never)
       pss_nil)))), ?_⟩
    refine ⟨_, rfl, a, xs, rfl, .inl hx, fun H1 s1 => ⟨true, rfl, iteF ?_⟩⟩
    refine ⟨_, rfl, a, xs, rfl, s1.seq hx, for_it walk_enum (fun i σ H' => Same H1 H' ∧ ∃ u v, σ = [some (.ref a), some (.int n), u, v]) ⟨Same.refl _, _, _, rfl⟩ (fun i σ H' _ p => p.1.seq (s1.seq hx)) (fun i x σ H2 H3 hi p y => ?_) (fun σ H2 p => ?_)⟩
    · obtain ⟨s2, u, v, rfl⟩ := p
      obtain ⟨T', x1, x2, rfl, hT, rfl, h1, h2⟩ := y
      cases h1
      obtain ⟨g, hg1, t, rfl, hg2⟩ := hr2.get h2
      have s3 : Same H2 (upd H2 T' (.tup [V.int (i : Nat), V.ref t])) := Same.new hT
      refine ⟨T', _, rfl, SqT.of upd_same, rfl, _, _, rfl, _, _, rfl, rfl, ?_⟩
      refine ⟨_, rfl, _, rfl, t, g, n, rfl, (s1.trans (s2.trans s3)).seqT hg2, ho g (List.mem_of_getElem? hg1), true, rfl, iteF ?_⟩
      exact ⟨s2.trans s3, _, _, rfl⟩
    · obtain ⟨s2, u', v', rfl⟩ := p
      refine ⟨_, rfl, a, _, rfl, .inl ((s1.trans s2).seq hx), C, mc, _, _, rfl, cr, cv, _, _, rfl, rfl, _, rfl, ?_⟩
      refine itF (decide_eq_false ?_) (k _ (s1.trans s2))
      rw [hr2.1]
      omega
end
end LL

namespace LL
open PySem L2 PySem.Spec PyProof.Rows
section
variable {P : Program} {w : World} {K : PySem.W.Frag} {mg : Str → Option Value} {base : Heap} {C : Addr}
def sp_Net_init (K : PySem.W.Frag) (C : Addr) : Sp := fun vs H Q _ => ∃ (H0 : Hp) (x dx a : Addr) (n : Nat) (gs : List Gt), vs = [V.ref x, V.int n, V.ref a] ∧ Same H0 H ∧ H0 x = none ∧ H x = some (.ins C dx []) ∧ Gs K H0 a gs ∧ 1 ≤ n ∧ n ≤ 12 ∧ (∀ g ∈ gs, g.ok n) ∧ gs.length ≤ 400 ∧
  ∀ H', Same H0 H' → NetAt K C H' x n gs → Q .non H'
theorem c_Net (T : Txt K mg C) : C8.Mak P w K mg base 6 "Net" C (sp_Net_init K C) [] := by
  obtain ⟨f, fd, F, M, b⟩ := T.i_init
  refine C8.mak0 M T.mgC F b .nil sc_Net_init (fun vs H Q E h => ?_) (fun cdv A outer s H vs Q E hr h => ?_)
  · obtain ⟨H0, x, dx, a, n, gs, rfl, _⟩ := h
    rfl
  · obtain ⟨H0, x, dx, a, n, gs, rfl, s0, x0, hx, ⟨xs, hS, hA⟩, h1, h12, ho, hf, k⟩ := h
    refine ⟨_, (pss_cons (ps_expr (C8.pe_c (c_check_lanes T) hr (by decide) rfl (pa_cons (pv 1) (pa_cons pe_int pa_nil))))
      (pss_cons (ps_expr (C8.pe_c (c_check_gates T) hr (by decide) rfl (pa_cons (pv 2) (pa_cons (pv 1) pa_nil))))
      (pss_cons (ps_fld (pv 0) (pv 1) rfl)
      (pss_one (ps_fld (pv 0) (pe_lc (own := [("gate", 3)]) (g := (gName 3)) (tt := tYes) rfl sc_Net_init.nd (pi_list (pv 2)) (blkOk_by (N := N_Net_init) (sc := C8.fnScope s_Net_init) (by decide +kernel)) (fun _ _ _ _ _ => (pg_name (i := 3) sc_Net_init.nd rfl (Or.inl rfl))) (fun _ _ _ _ _ => pts_nil) (fun _ _ _ _ _ => (pe_callTy (T := "tuple") (r := rTupOf K) call_tuple_of (by rfl) T.b_tuple (by decide +kernel) (pa_cons (pv 3) pa_nil)))) rfl))))), ?_⟩
    refine ⟨_, rfl, (n : Int), rfl, by omega, by omega, ?_⟩
    refine ⟨_, rfl, _, rfl, a, n, gs, rfl, Gs.to s0 ⟨xs, hS, hA⟩, ho, hf, fun H1 s1 => ?_⟩
    refine ⟨_, rfl, _, rfl, x, C, dx, _, rfl, s1 _ _ hx, T.cl, T.nL, (by show 0 < 1000; decide), ?_⟩
    have s2 : Same H0 (upd H1 x (.ins C dx (putF "_lanes" (.int n) []))) := (s0.trans s1).mut x0
    refine ⟨_, rfl, a, rfl, ⟨_, s2.seq hS⟩, fun D hD => lc_pure (walk_list (xs := xs)) xs rfl hD ?_ (fun H' s => (s2.trans s).seq hS) (fun i v H' H2 Q' hi s y q => ?_) (fun H' s hd => ?_)⟩
    · rw [hA.1]
      omega
    · obtain ⟨rfl, hv⟩ := y
      obtain ⟨g, hg, t, rfl, ht⟩ := hA.get hv
      exact ⟨rfl, _, rfl, t, g.vals, rfl, .inr ⟨(s2.trans s).seqT ht, q _ _ hv (Same.refl _)⟩⟩
    · refine ⟨_, rfl, x, C, dx, _, rfl, s _ _ upd_same, T.cl, T.nG, (by show 1 < 1000; decide), ?_⟩
      have s3 := (s2.trans s).mut (p := x) (o := .ins C dx (pf D n)) x0
      have nD : D ≠ x := fun z => by
        rw [z, upd_same] at hD
        cases hD
      rw [pf_eq]
      refine k _ s3 ⟨⟨dx, D, xs, upd_same, by rw [upd_ne nD]; exact hd, hA.mono fun _ _ z => z.to s3⟩, h1, h12, ho, hf⟩
/-! ### lanes, is_plain, gates(), the call, == -/
def sp_Net_lanes (K : PySem.W.Frag) (C : Addr) : Sp := fun vs H Q _ => ∃ (p : Addr) (n : Nat) (gs : List Gt), vs = [V.ref p] ∧ NetAt K C H p n gs ∧ Q (.int n) H
theorem c_lanes (T : Txt K mg C) : ∃ p g fd, PropOf K C "lanes" p g ∧ FnOk P w K mg base CX0 1 g fd ["self"] (sp_Net_lanes K C) ∧ Binds K fd ["self"] [] := by
  obtain ⟨p, g, fd, F, Pr, b⟩ := T.i_lanes
  refine ⟨p, g, fd, Pr, C8.fn0 F sc_Net_lanes (fun vs H Q E h => ?_) (fun cdv A outer s H vs Q E hr h => ?_), b⟩
  · obtain ⟨p, n, gs, rfl, _⟩ := h
    rfl
  · obtain ⟨p, n, gs, rfl, N, k⟩ := h
    obtain ⟨dx, l, hp, _⟩ := N.old
    exact ⟨_, (pss_one (ps_ret (pe_fld (pv 0) rfl))), ⟨_, rfl, p, C, dx, _, _, rfl, hp, T.cl, T.nL, pf_lanes l n, k⟩⟩
def sp_Net_gates (K : PySem.W.Frag) (C : Addr) : Sp := fun vs H Q _ => ∃ (p dx l : Addr) (n : Nat) (xs : List V), vs = [V.ref p] ∧ H p = some (.ins C dx (pf l n)) ∧ SqL K H l xs ∧ ∀ q, H q = none → Q (.ref q) (upd H q (.lst xs))
theorem c_gates (T : Txt K mg C) : C8.Met P w K mg base 1 C "gates" (sp_Net_gates K C) [] := by
  obtain ⟨f, fd, F, M, b⟩ := T.i_gates
  refine C8.met0 T.cl M F b sc_Net_gates (fun vs H Q E h => ?_) (fun cdv A outer s H vs Q E hr h => ?_)
  · obtain ⟨p, dx, l, n, xs, rfl, _⟩ := h
    rfl
  · obtain ⟨p, dx, l, n, xs, rfl, hp, hS, k⟩ := h
    exact ⟨_, (pss_one (ps_ret (pe_callTy call_list_of (by rfl) T.b_list (by decide +kernel) (pa_cons (pe_fld (pv 0) rfl) pa_nil)))), ⟨_, rfl, p, C, dx, _, _, rfl, hp, T.cl, T.nG, pf_gates l n, l, _, rfl, .inl hS, k⟩⟩
def sp_Net_call (K : PySem.W.Frag) (C : Addr) : Sp := fun vs H Q _ => ∃ (p a : Addr) (n : Nat) (gs : List Gt) (ns : List Int), vs = [V.ref p, V.ref a] ∧ NetAt K C H p n gs ∧ Ct K H a ns ∧ ns.length = n ∧
  ∀ H' q, Same H H' → H q = none → H' q = some (.lst ((runs gs ns).map V.int)) → Q (.ref q) H'
theorem c_call (T : Txt K mg C) : ∃ g, StX.CallO K C g ∧ FnR P w K mg base CX0 5 g (sp_Net_call K C) := by
  obtain ⟨f, fd, F, M, b⟩ := T.i_call
  refine ⟨f, M, ((C8.fn0 F sc_Net_call (k := 4) (sp := sp_Net_call K C) (fun vs H Q E h => ?_) (fun cdv A outer s H vs Q E hr h => ?_)).raw b .nil).imp fun vs H Q E h => by rw [List.append_nil]; exact h⟩
  · obtain ⟨p, a, n, gs, ns, rfl, _⟩ := h
    rfl
  · obtain ⟨p, a, n, gs, ns, rfl, N, c, hn, k⟩ := h
    obtain ⟨dx, l, hp, xs, hS, hA⟩ := id N.old
    refine ⟨_, (pss_cons (ps_expr (C8.pe_c (c_check_content T) hr (by decide) rfl (pa_cons (pv 1) (pa_cons (pe_fld (pv 0) rfl) pa_nil))))
      (pss_cons (ps_set (i := 2) sc_Net_call.nd rfl (Or.inl rfl) (pe_callTy call_list_of (by rfl) T.b_list (by decide +kernel) (pa_cons (pv 1) pa_nil)))
      (pss_cons (ps_for PassesOwn.never rfl (pi_list (pe_fld (pv 0) rfl)) (pg_name (i := 3) sc_Net_call.nd rfl (Or.inl rfl))
       (pss_one (ps_set (i := 2) sc_Net_call.nd rfl (Or.inl rfl) (C8.pe_c (c_behind_gate T) hr (by decide) rfl (pa_cons (pv 3) (pa_cons (pv 2) pa_nil))))))
      (pss_one (ps_ret (pv 2)))))), ?_⟩
    refine ⟨_, rfl, _, rfl, p, C, dx, _, _, rfl, hp, T.cl, T.nL, pf_lanes l n, a, ns, _, rfl, c, by omega, fun H1 s1 => ?_⟩
    refine ⟨_, rfl, a, _, rfl, (c.to s1).1, fun q hq => ?_⟩
    have s2 : Same H (upd H1 q (.lst (ns.map V.int))) := s1.trans (Same.new hq)
    have q0 := s1.free hq
    refine ⟨_, rfl, p, C, dx, _, _, rfl, s2 _ _ hp, T.cl, T.nG, pf_gates l n, l, rfl, ⟨_, s2.seq hS⟩, ?_⟩
    refine for_it walk_list (fun i σ H' => Same H H' ∧ ∃ r v, H r = none ∧ H' r = some (.lst ((runs (gs.take i) ns).map V.int)) ∧ σ = [some (.ref p), some (.ref a), some (.ref r), v]) ⟨s2, q, none, q0, upd_same, rfl⟩ (fun i σ H' _ z => z.1.seq hS) (fun i x σ H2 H3 hi z y => ?_) (fun σ H2 z => ?_)
    · obtain ⟨s3, r, v, r0, hr', rfl⟩ := z
      obtain ⟨rfl, hx⟩ := y
      obtain ⟨g, hg, t, rfl, ht⟩ := hA.get hx
      refine ⟨_, rfl, _, rfl, t, r, g, _, rfl, s3.seqT ht, SqL.of hr', ?_, fun H4 q' s4 hq' h4 => ?_⟩
      · rw [runs_length, hn]
        exact N.ok g (List.mem_of_getElem? hg)
      · exact ⟨s3.trans s4, q', _, s3.free hq', by rw [runs_take_succ hg]; exact h4, rfl⟩
    · obtain ⟨s3, r, v, r0, hr', rfl⟩ := z
      rw [hA.1, List.take_length] at hr'
      exact ⟨_, rfl, k _ r s3 r0 hr'⟩
end
end LL

namespace LL
open PySem L2 PySem.Spec PyProof.Rows
def Gt.isAdd : Gt → Bool
  | .add _ _ => true
  | _ => false
def Gt.word : Gt → Str
  | .low _ _ => "low"
  | .high _ _ => "high"
  | .sort _ _ => "sort"
  | .copy _ _ => "copy"
  | .add _ _ => "add"
theorem vals_word (g : Gt) : g.vals[0]? = some (.str g.word) := by cases g <;> rfl
def plainL (gs : List Gt) : Bool := gs.all fun g => !g.isAdd
theorem inV_words : ∀ gs : List Gt, inV (.str "add") (gs.map fun g => V.str g.word) = !plainL gs
  | [] => rfl
  | g :: r => by
    have ih := inV_words r
    show (eqV (.str g.word) (.str "add") || inV (.str "add") (r.map fun g => V.str g.word)) = !((!g.isAdd) && plainL r)
    rw [ih]
    have e : eqV (.str g.word) (.str "add") = g.isAdd := by
      cases g
      · exact (by decide +kernel : eqV (.str "low") (.str "add") = false)
      · exact (by decide +kernel : eqV (.str "high") (.str "add") = false)
      · exact (by decide +kernel : eqV (.str "sort") (.str "add") = false)
      · exact (by decide +kernel : eqV (.str "copy") (.str "add") = false)
      · exact (by decide +kernel : eqV (.str "add") (.str "add") = true)
    rw [e]
    cases g.isAdd <;> simp
section
variable {P : Program} {w : World} {K : PySem.W.Frag} {mg : Str → Option Value} {base : Heap} {C : Addr}
def sp_Net_is_plain (K : PySem.W.Frag) (C : Addr) : Sp := fun vs H Q _ => ∃ (p : Addr) (n : Nat) (gs : List Gt), vs = [V.ref p] ∧ NetAt K C H p n gs ∧ ∀ H', Same H H' → Q (.bl (plainL gs)) H'
theorem c_is_plain (T : Txt K mg C) : ∃ p g fd, PropOf K C "is_plain" p g ∧ FnOk P w K mg base CX0 1 g fd ["self"] (sp_Net_is_plain K C) ∧ Binds K fd ["self"] [] := by
  obtain ⟨p, g, fd, F, Pr, b⟩ := T.i_plain
  refine ⟨p, g, fd, Pr, C8.fn0 F sc_Net_is_plain (fun vs H Q E h => ?_) (fun cdv A outer s H vs Q E hr h => ?_), b⟩
  · obtain ⟨p, n, gs, rfl, _⟩ := h
    rfl
  · obtain ⟨p, n, gs, rfl, N, k⟩ := h
    obtain ⟨dx, l, hp, xs, hS, hA⟩ := N.old
    refine ⟨_, (pss_one (ps_ret (pe_cmpR op_notIn_seq pe_str (pe_lc (own := [("gate", 1)]) (g := (gName 1)) (tt := tYes) rfl sc_Net_is_plain.nd (pi_list (pe_fld (pv 0) rfl)) (blkOk_by (N := N_Net_is_plain) (sc := C8.fnScope s_Net_is_plain) (by decide +kernel)) (fun _ _ _ _ _ => (pg_name (i := 1) sc_Net_is_plain.nd rfl (Or.inl rfl))) (fun _ _ _ _ _ => pts_nil) (fun _ _ _ _ _ => (pe_ix (r := rIxT K) ix_tup (pv 1) pe_int (fun _ _ => rfl)))) (by rfl)))), ?_⟩
    refine ⟨_, rfl, p, C, dx, _, _, rfl, hp, T.cl, T.nG, pf_gates l n, l, rfl, ⟨_, hS⟩, fun D hD => lc_pure (walk_list (xs := xs)) (gs.map fun g => V.str g.word) (by rw [List.length_map, hA.1]) hD ?_ (fun H' s => s.seq hS) (fun i v H' H2 Q' hi s y q => ?_) (fun H' s hd => ?_)⟩
    · rw [hA.1]
      have := N.few
      omega
    · obtain ⟨rfl, hv⟩ := y
      obtain ⟨g, hg, t, rfl, ht⟩ := hA.get hv
      refine ⟨rfl, _, rfl, t, _, 0, _, rfl, rfl, s.seqT ht, atI_nat (j := 0) (vals_word g), q _ _ ?_ (Same.refl _)⟩
      rw [List.getElem?_map, hg]
      rfl
    · refine ⟨D, _, rfl, .inl (SqL.of hd), rfl, ?_, ?_⟩
      · rw [List.all_map]
        exact List.all_eq_true.mpr fun _ _ => rfl
      · refine q_bl2 ?_ (k _ s)
        show (!inV (.str "add") (gs.map fun g => V.str g.word)) = plainL gs
        rw [inV_words, Bool.not_not]
/-! ### == -/
def Gt.py : Gt → PyData
  | .low i j => .tuple [.str "low", .int i, .int j]
  | .high i j => .tuple [.str "high", .int i, .int j]
  | .sort i j => .tuple [.str "sort", .int i, .int j]
  | .copy i j => .tuple [.str "copy", .int i, .int j]
  | .add i c => .tuple [.str "add", .int i, .int c]
theorem isG_dp {H : Hp} {v : V} {g : Gt} (h : IsG K H v g) : Dp K H v g.py := by
  obtain ⟨t, rfl, h⟩ := h
  cases g <;> exact .tup h (.cons (.str _) (.cons (.int _) (.cons (.int _) .nil)))
theorem dpAll_of {α : Type} {H : Hp} {f : α → PyData} : ∀ {xs : List V} {ys : List α}, All2 (fun v y => Dp K H v (f y)) xs ys → DpAll K H xs (ys.map f)
  | [], [], _ => .nil
  | [], _ :: _, h => by cases h.1
  | _ :: _, [], h => by cases h.1
  | x :: xs, y :: ys, h => .cons (h.2 0 x y rfl rfl) (dpAll_of ⟨Nat.succ.inj h.1, fun i u v h1 h2 => h.2 (i + 1) u v h1 h2⟩)
theorem gs_dp {H : Hp} {a : Addr} {gs : List Gt} (h : Gs K H a gs) : Dp K H (.ref a) (.list (gs.map Gt.py)) := by
  obtain ⟨xs, hS, hA⟩ := h
  exact .lst hS (dpAll_of (hA.mono fun _ _ z => isG_dp z))
theorem all_lay {α : Type} {f : α → PyData} (h : ∀ y, (f y).canLay0 = true) : ∀ ys : List α, PyData.canLayAll0 (ys.map f) = true
  | [] => rfl
  | y :: ys => by
    show ((f y).canLay0 && PyData.canLayAll0 (ys.map f)) = true
    rw [h y, all_lay h ys]
    rfl
theorem all_depth {α : Type} {f : α → PyData} {k : Nat} (h : ∀ y, (f y).depth ≤ k) : ∀ ys : List α, PyData.depthAll (ys.map f) ≤ k
  | [] => Nat.zero_le _
  | y :: ys => Nat.max_le.mpr ⟨h y, all_depth h ys⟩
theorem shaped_of {d : PyData} (h1 : d.canLay0 = true) (h2 : d.depth ≤ 64) : SeqAt.shaped d = true := by
  show (d.canLay0 && decide (d.depth ≤ 64)) = true
  rw [h1, decide_eq_true h2]
  rfl
theorem g_lay (g : Gt) : g.py.canLay0 = true := by
  cases g
  · exact (by decide +kernel : PyData.canLay0 (.str "low") && true = true)
  · exact (by decide +kernel : PyData.canLay0 (.str "high") && true = true)
  · exact (by decide +kernel : PyData.canLay0 (.str "sort") && true = true)
  · exact (by decide +kernel : PyData.canLay0 (.str "copy") && true = true)
  · exact (by decide +kernel : PyData.canLay0 (.str "add") && true = true)
theorem g_depth (g : Gt) : g.py.depth ≤ 1 := by cases g <;> exact Nat.le_refl 1
theorem gs_shaped (gs : List Gt) : SeqAt.shaped (.list (gs.map Gt.py)) = true := by
  refine shaped_of (all_lay g_lay gs) ?_
  have := all_depth (f := Gt.py) g_depth gs
  show PyData.depthAll (gs.map Gt.py) + 1 ≤ 64
  omega
theorem gs_same (gs : List Gt) : PyData.eqv (.list (gs.map Gt.py)) (.list (gs.map Gt.py)) = true := SeqAt.eqv_refl _ (all_lay g_lay gs)
def RNet (K : PySem.W.Frag) (C : Addr) : Addr → Addr → Hp → Prop := fun a b H => ∃ n gs, NetAt K C H a n gs ∧ NetAt K C H b n gs
theorem c_eq (T : Txt K mg C) : ∃ f fd, FnOk P w K mg base CX0 1 f fd ["self", "other"] (spEq (RNet K C)) ∧ PySem.W.findIn K (.ref C) "__eq__" = some (some (.ref f)) ∧ PySem.W.isFn K (.ref f) = true ∧ Binds K fd ["self", "other"] [] := by
  obtain ⟨f, fd, F, h1, h2, b⟩ := T.i_eq
  refine ⟨f, fd, C8.fn0 F sc_Net_eq (fun vs H Q E h => ?_) (fun cdv A outer s H vs Q E hr h => ?_), h1, h2, b⟩
  · obtain ⟨a, b, rfl, _⟩ := h
    rfl
  · obtain ⟨a, b, rfl, ⟨n, gs, Na, Nb⟩, k⟩ := h
    obtain ⟨dx, l, hp, hG⟩ := Na.old
    obtain ⟨dy, m, hq, hM⟩ := Nb.old
    refine ⟨_, (pss_one (ps_ret (pe_and (pe_callB call_isi (by rfl) T.b_isinstance (by decide +kernel) (pa_cons (pv 1) (pa_cons (C8.pe_gc (v := .ref C) rfl ⟨_, T.mgC, rfl⟩) pa_nil))) (pe_and (pe_cmpR op_eq (pe_fld (pv 0) rfl) (pe_fld (pv 1) rfl) (nomark _)) (pe_one (pe_cmpR (op_eqD hr.units) (pe_fld (pv 0) rfl) (pe_fld (pv 1) rfl) (nomark _))))))), ?_⟩
    refine ⟨_, rfl, _, _, _, _, true, rfl, .own C, .base (.ins hq T.cl T.q_ha T.q_hn T.q_ht T.q_hm), if_pos (by simp), true, rfl, iteT ?_⟩
    refine ⟨_, rfl, a, C, dx, _, _, rfl, hp, T.cl, T.nL, pf_lanes l n, _, rfl, b, C, dy, _, _, rfl, hq, T.cl, T.nL, pf_lanes m n, rfl, _, rfl, ?_⟩
    refine itT (decide_eq_true rfl) ?_
    refine ⟨_, rfl, a, C, dx, _, _, rfl, hp, T.cl, T.nG, pf_gates l n, _, rfl, b, C, dy, _, _, rfl, hq, T.cl, T.nG, pf_gates m n, _, _, gs_dp hG, gs_dp hM, gs_shaped gs, gs_shaped gs, ?_⟩
    exact q_bl (gs_same gs) (k _ (fun _ _ z => z))
/-! ### contents, passed, rounds -/
/-- a list that H did not know, of these ints -/
def IsN (H H' : Hp) (v : V) (ns : List Int) : Prop := ∃ b, v = .ref b ∧ H b = none ∧ H' b = some (.lst (ns.map V.int))
/-- a new list of new lists -/
def NewRows (H H' : Hp) (r : Addr) (rows : List (List Int)) : Prop := H r = none ∧ ∃ xs, H' r = some (.lst xs) ∧ All2 (IsN H H') xs rows
theorem NewRows.rws {H H' : Hp} {r : Addr} {rows : List (List Int)} (h : NewRows H H' r rows) : Rws K H' r rows := by
  obtain ⟨h0, xs, h1, h2⟩ := h
  exact ⟨xs, SqL.of h1, h2.mono fun v ns ⟨b, e, _, q⟩ => ⟨b, e, SqL.of q⟩⟩
/-- while it grows: its items, none of them itself, the last one at b -/
def Grow (H H' : Hp) (r b : Addr) (rows : List (List Int)) (last : List Int) : Prop := H r = none ∧ H b = none ∧ b ≠ r ∧ H' b = some (.lst (last.map V.int)) ∧ ∃ ys, H' r = some (.lst (ys ++ [.ref b])) ∧
  All2 (fun v ns => ∃ b, v = .ref b ∧ b ≠ r ∧ H b = none ∧ H' b = some (.lst (ns.map V.int))) (ys ++ [V.ref b]) (rows ++ [last])
theorem Grow.new {H H' : Hp} {r b : Addr} {rows : List (List Int)} {last : List Int} (h : Grow H H' r b rows last) : NewRows H H' r (rows ++ [last]) := by
  obtain ⟨h0, _, _, _, ys, h1, h2⟩ := h
  exact ⟨h0, _, h1, h2.mono fun v ns ⟨b, e, _, q, z⟩ => ⟨b, e, q, z⟩⟩
theorem Grow.start {H H1 : Hp} {r b : Addr} {ns : List Int} (s : Same H H1) (hb : H1 b = none) (hr : upd H1 b (.lst (ns.map V.int)) r = none) :
    Grow H (upd (upd H1 b (.lst (ns.map V.int))) r (.lst [.ref b])) r b [] ns := by
  have nbr : b ≠ r := fun z => by
    rw [← z, upd_same] at hr
    cases hr
  have hr1 : H1 r = none := by
    rw [upd_ne nbr.symm] at hr
    exact hr
  have e : upd (upd H1 b (.lst (ns.map V.int))) r (.lst [.ref b]) b = some (.lst (ns.map V.int)) := by rw [upd_ne nbr, upd_same]
  exact ⟨s.free hr1, s.free hb, nbr, e, [], upd_same, All2.nil.snoc ⟨b, rfl, nbr, s.free hb, e⟩⟩
theorem Grow.step {H H2 H4 : Hp} {r b q : Addr} {rows : List (List Int)} {last nxt : List Int} (g : Grow H H2 r b rows last) (s2 : Same H H2) (s : Same H2 H4) (hq : H2 q = none) (h4 : H4 q = some (.lst (nxt.map V.int))) :
    ∃ xs, H4 r = some (.lst xs) ∧ xs.length = rows.length + 1 ∧ Grow H (upd H4 r (.lst (xs ++ [.ref q]))) r q (rows ++ [last]) nxt := by
  obtain ⟨h0, hb0, nbr, hb, ys, hr, hA⟩ := g
  have nqr : q ≠ r := fun z => by
    rw [z, hr] at hq
    cases hq
  refine ⟨_, s _ _ hr, by rw [hA.1, List.length_append]; rfl, h0, s2.free hq, nqr, by rw [upd_ne nqr]; exact h4, ys ++ [.ref b], upd_same, ?_⟩
  refine All2.snoc (hA.mono fun v ns ⟨b', e, n', z, y⟩ => ⟨b', e, n', z, ?_⟩) ⟨q, rfl, nqr, s2.free hq, by rw [upd_ne nqr]; exact h4⟩
  rw [upd_ne n']
  exact s _ _ y
theorem Grow.more {H H2 H4 : Hp} {r b : Addr} {rows : List (List Int)} {last : List Int} (g : Grow H H2 r b rows last) (s : Same H2 H4) : Grow H H4 r b rows last := by
  obtain ⟨h0, hb0, nbr, hb, ys, hr, hA⟩ := g
  exact ⟨h0, hb0, nbr, s _ _ hb, ys, s _ _ hr, hA.mono fun v ns ⟨b', e, n', z, y⟩ => ⟨b', e, n', z, s _ _ y⟩⟩
theorem atI_end {α : Type} (xs : List α) (v : α) : atI (xs ++ [v]) (-1) = some v := atI_last xs v
theorem rows_snoc (f : Nat → List Int) (i : Nat) : (List.range (i + 1)).map f = (List.range i).map f ++ [f i] := by
  rw [List.range_succ, List.map_append]
  rfl
def sp_contents (K : PySem.W.Frag) (C : Addr) : Sp := fun vs H Q _ => ∃ (p a : Addr) (n : Nat) (gs : List Gt) (ns : List Int), vs = [V.ref p, V.ref a] ∧ NetAt K C H p n gs ∧ Ct K H a ns ∧ ns.length = n ∧
  ∀ H' r, Same H H' → NewRows H H' r (rowsOf gs ns) → Q (.ref r) H'
theorem c_contents (T : Txt K mg C) : C8.Cal P w K mg base 5 "contents" (sp_contents K C) [] := by
  refine T.d_contents.cal sc_contents (fun vs H Q E h => ?_) (fun f cdv A outer s H vs Q E hr h => ?_)
  · obtain ⟨p, a, n, gs, ns, rfl, _⟩ := h
    rfl
  · obtain ⟨p, a, n, gs, ns, rfl, N, c, hn, k⟩ := h
    obtain ⟨pp, pg, pfd, pP, pF, pB⟩ := c_lanes (P := P) (w := w) (base := base) T
    refine ⟨_, (pss_cons (ps_expr (C8.pe_c (c_check_content T) hr (by decide) rfl (pa_cons (pv 1) (pa_cons (pe_prop (pv 0) T.cl pP pF (hr.mono (by decide)) pB .nil pass0 rfl) pa_nil))))
      (pss_cons (ps_set (i := 2) sc_contents.nd rfl (Or.inl rfl) (pe_lst (pa_cons (pe_callTy call_list_of (by rfl) T.b_list (by decide +kernel) (pa_cons (pv 1) pa_nil)) pa_nil)))
      (pss_cons (ps_for PassesOwn.never rfl (pi_list (C8.pe_mt0 (c_gates T) hr (by decide) (pv 0))) (pg_name (i := 3) sc_contents.nd rfl (Or.inl rfl))
       (pss_one (ps_expr (pe_bm PySem.F.plainAttrs_list PySem.F.slot_list_append PySem.F.type_list_append mt_append (pv 2) (pa_cons (C8.pe_c (c_behind_gate T) hr (by decide) rfl (pa_cons (pv 3) (pa_cons (pe_ix ix_list (pv 2) (pe_un un_neg pe_int) (fun _ _ => rfl)) pa_nil))) pa_nil)))))
      (pss_one (ps_ret (pv 2)))))), ?_⟩
    obtain ⟨dx, l, hp, xs, hS, hA⟩ := id N.old
    refine ⟨_, rfl, _, rfl, p, dx, _, rfl, hp, p, n, gs, rfl, N, ?_⟩
    refine ⟨a, ns, _, rfl, c, by omega, fun H1 s1 => ?_⟩
    refine ⟨_, rfl, a, _, rfl, (c.to s1).1, fun b hb => ?_⟩
    refine ⟨by show 1 ≤ sizeLine; decide, fun r hrr => ?_⟩
    have g0 := Grow.start s1 hb hrr
    have s2 := (s1.trans (Same.new (o := .lst (ns.map V.int)) hb)).trans (Same.new (o := .lst [.ref b]) hrr)
    refine ⟨_, rfl, p, dx, _, rfl, s2 _ _ hp, rfl, p, dx, l, n, xs, rfl, s2 _ _ hp, s2.seq hS, fun q hq => ?_⟩
    have s3 := s2.trans (Same.new (o := .lst xs) hq)
    have nqr : q ≠ r := fun z => by
      rw [z, upd_same] at hq
      cases hq
    have nqb : b ≠ q := fun z => by
      rw [← z, g0.2.2.2.1] at hq
      cases hq
    refine ⟨q, rfl, ⟨_, SqL.of upd_same⟩, ?_⟩
    refine for_it walk_list (fun i σ H' => Same H H' ∧ H' q = some (.lst xs) ∧ ∃ b v, Grow H H' r b ((List.range i).map fun k => runs (gs.take k) ns) (runs (gs.take i) ns) ∧ σ = [some (.ref p), some (.ref a), some (.ref r), v]) ⟨s3, upd_same, b, none, g0.more (Same.new hq), rfl⟩ (fun i σ H' _ z => SqL.of z.2.1) (fun i x σ H2 H3 hi z y => ?_) (fun σ H2 z => ?_)
    · obtain ⟨s4, hq4, b4, v, G, rfl⟩ := z
      obtain ⟨rfl, hx⟩ := y
      obtain ⟨g, hg, t, rfl, ht⟩ := hA.get hx
      have hr4 := G.2.2.2.2
      obtain ⟨ys, hr4, _⟩ := hr4
      refine ⟨_, rfl, .inl ⟨rfl, _, SqL.of hr4⟩, ?_⟩
      refine ⟨_, rfl, _, rfl, _, rfl, r, _, _, _, rfl, rfl, SqL.of hr4, atI_end _ _, ?_⟩
      refine ⟨t, b4, g, _, rfl, s4.seqT ht, SqL.of G.2.2.2.1, ?_, fun H5 q5 s5 hq5 h5 => ?_⟩
      · rw [runs_length, hn]
        exact N.ok g (List.mem_of_getElem? hg)
      · obtain ⟨zs, hz, hzl, G5⟩ := G.step s4 s5 hq5 h5
        refine ⟨r, zs, _, rfl, rfl, hz, ?_, ?_⟩
        · rw [hzl, List.length_map, List.length_range]
          have := N.few
          rw [hA.1] at hi
          exact size100 (by omega)
        · refine ⟨(s4.trans s5).mut G.1, by rw [upd_ne nqr]; exact s5 _ _ hq4, q5, _, ?_, rfl⟩
          rw [rows_snoc, runs_take_succ hg]
          exact G5
    · obtain ⟨s4, hq4, b4, v, G, rfl⟩ := z
      refine ⟨_, rfl, k _ r s4 ?_⟩
      have e := G.new
      rw [← rows_snoc (fun k => runs (gs.take k) ns), hA.1] at e
      exact e
def rnds (gs : List Gt) : Nat → List Int → List Int
  | 0, ns => ns
  | k + 1, ns => runs gs (rnds gs k ns)
theorem rnds_length (gs : List Gt) (ns : List Int) : ∀ k, (rnds gs k ns).length = ns.length
  | 0 => rfl
  | k + 1 => by
    show (runs gs (rnds gs k ns)).length = _
    rw [runs_length, rnds_length gs ns k]
def roundsOf (gs : List Gt) (ns : List Int) (k : Nat) : List (List Int) := (List.range (k + 1)).map fun i => rnds gs i ns
end
end LL

namespace LL
open PySem L2 PySem.Spec PyProof.Rows
theorem All2.take {α β : Type} {R : α → β → Prop} {xs : List α} {ys : List β} (h : All2 R xs ys) (i : Nat) : All2 R (xs.take i) (ys.take i) := ⟨by rw [List.length_take, List.length_take, h.1], fun j x y h1 h2 => by
  rw [List.getElem?_take] at h1 h2
  split at h1
  · rw [if_pos ‹_›] at h2
    exact h.2 j x y h1 h2
  · cases h1⟩
theorem All2.drop {α β : Type} {R : α → β → Prop} {xs : List α} {ys : List β} (h : All2 R xs ys) (i : Nat) : All2 R (xs.drop i) (ys.drop i) := ⟨by rw [List.length_drop, List.length_drop, h.1], fun j x y h1 h2 => by
  rw [List.getElem?_drop] at h1 h2
  exact h.2 _ x y h1 h2⟩
theorem All2.app {α β : Type} {R : α → β → Prop} {xs xs' : List α} {ys ys' : List β} (h : All2 R xs ys) (h' : All2 R xs' ys') : All2 R (xs ++ xs') (ys ++ ys') := ⟨by rw [List.length_append, List.length_append, h.1, h'.1], fun j x y h1 h2 => by
  by_cases hj : j < xs.length
  · rw [List.getElem?_append_left hj] at h1
    rw [List.getElem?_append_left (h.1 ▸ hj)] at h2
    exact h.2 j x y h1 h2
  · rw [List.getElem?_append_right (by omega)] at h1
    rw [List.getElem?_append_right (by have := h.1; omega), ← h.1] at h2
    exact h'.2 _ x y h1 h2⟩
theorem All2.rep {α β : Type} {R : α → β → Prop} {xs : List α} {ys : List β} (h : All2 R xs ys) : ∀ k, All2 R (List.replicate k xs).flatten (List.replicate k ys).flatten
  | 0 => All2.nil
  | k + 1 => by
    rw [List.replicate_succ, List.replicate_succ, List.flatten_cons, List.flatten_cons]
    exact h.app (h.rep k)
theorem cut_take {xs : List V} {i : Nat} (h : i ≤ xs.length) : cutV xs none (some (i : Int)) = xs.take i := by
  unfold cutV
  rw [HT.sIx_none, HT.sIx_nat, List.drop_zero, Nat.min_eq_left h, Nat.sub_zero]
theorem cut_drop {xs : List V} {i : Nat} (h : i ≤ xs.length) : cutV xs (some (i : Int)) none = xs.drop i := by
  unfold cutV
  rw [HT.sIx_none, HT.sIx_nat, Nat.min_eq_left h]
  exact List.take_of_length_le (by rw [List.length_drop]; omega)
def repG (k : Nat) (gs : List Gt) : List Gt := (List.replicate k gs).flatten
theorem mem_rep {k : Nat} {gs : List Gt} {g : Gt} (h : g ∈ repG k gs) : g ∈ gs := by
  obtain ⟨l, h1, h2⟩ := List.mem_flatten.mp h
  rw [(List.mem_replicate.mp h1).2] at h2
  exact h2
theorem rep_succ (k : Nat) (gs : List Gt) : repG (k + 1) gs = gs ++ repG k gs := by
  unfold repG
  rw [List.replicate_succ, List.flatten_cons]
theorem len_rep : ∀ (k : Nat) (gs : List Gt), (repG k gs).length = k * gs.length
  | 0, gs => by
    rw [Nat.zero_mul]
    rfl
  | k + 1, gs => by
    rw [rep_succ, List.length_append, len_rep k gs, Nat.succ_mul]
    omega
section
variable {P : Program} {w : World} {K : PySem.W.Frag} {mg : Str → Option Value} {base : Heap} {C : Addr}
def sp_Net_add (K : PySem.W.Frag) (C : Addr) : Sp := fun vs H Q _ => ∃ (p q : Addr) (n : Nat) (gs hs : List Gt), vs = [V.ref p, V.ref q] ∧ NetAt K C H p n gs ∧ NetAt K C H q n hs ∧ gs.length + hs.length ≤ 400 ∧ ∀ H' x, Same H H' → NetAt K C H' x n (gs ++ hs) → Q (.ref x) H'
theorem c_add (T : Txt K mg C) : ∃ f fd, FnOk P w K mg base C8.CX0 8 f fd ["self", "other"] (sp_Net_add K C) ∧ PySem.W.findIn K (.ref C) (PySem.dunder Operator.Add.info.2) = some (some (.ref f)) ∧ PySem.W.isFn K (.ref f) = true ∧ Binds K fd ["self", "other"] [] := by
  obtain ⟨f, fd, F, h1, h2, b⟩ := T.i_add
  refine ⟨f, fd, C8.fn0 F sc_Net_add (fun vs H Q E h => ?_) (fun cdv A outer s H vs Q E hr h => ?_), h1, h2, b⟩
  · obtain ⟨p, q, n, gs, hs, rfl, _⟩ := h
    rfl
  · obtain ⟨p, q, n, gs, hs, rfl, N, M, hf, k⟩ := h
    obtain ⟨dx, l, xs, hp, hl, hA⟩ := N.at_
    obtain ⟨dy, m, ys, hq, hm, hB⟩ := M.at_
    refine ⟨_, (pss_cons (ps_if (PW.pt (pw_or (pt_not (pt_val (pe_callB call_isi (by rfl) T.b_isinstance (by decide +kernel) (pa_cons (pv 1) (pa_cons (C8.pe_gc (v := .ref C) rfl ⟨_, T.mgC, rfl⟩) pa_nil))))) (pw_or1 (pt_cmpR op_ne (pe_fld (pv 1) rfl) (pe_fld (pv 0) rfl) (nomark _)))))
       (pss_one ps_never)
       pss_nil)
      (pss_one (ps_ret (C8.pe_mk (c_Net T) hr (by decide) rfl (pa_cons (pe_fld (pv 0) rfl) (pa_cons (pe_op op_cat (pe_fld (pv 0) rfl) (pe_fld (pv 1) rfl)) pa_nil)))))), ?_⟩
    refine ⟨_, rfl, _, _, _, _, true, rfl, .own C, .base (.ins hq T.cl T.q_ha T.q_hn T.q_ht T.q_hm), if_pos (by simp), true, rfl, iteF ?_⟩
    refine ⟨_, rfl, q, C, dy, _, _, rfl, hq, T.cl, T.nL, pf_lanes m n, _, rfl, p, C, dx, _, _, rfl, hp, T.cl, T.nL, pf_lanes l n, rfl, _, rfl, ?_⟩
    refine iteNS rfl ?_
    refine ⟨_, rfl, p, C, dx, _, _, rfl, hp, T.cl, T.nL, pf_lanes l n, _, rfl, p, C, dx, _, _, rfl, hp, T.cl, T.nG, pf_gates l n, _, rfl, q, C, dy, _, _, rfl, hq, T.cl, T.nG, pf_gates m n, ?_⟩
    refine ⟨l, m, xs, ys, rfl, rfl, hl, hm, by rw [hA.1, hB.1]; exact Nat.le_trans hf (by decide), fun d hd x ex hx hex ne => ?_⟩
    have s1 : Same H (upd H d (.lst (xs ++ ys))) := Same.new hd
    refine ⟨upd H d (.lst (xs ++ ys)), x, ex, d, n, gs ++ hs, rfl, (Same.new hex).trans (Same.new (by rw [upd_ne ne.symm]; exact hx)), hx, upd_same, ⟨_, SqL.of upd_same, (hA.app hB).mono fun _ _ z => z.to s1⟩, N.low, N.high, fun g hg => (List.mem_append.mp hg).elim (N.ok g) (M.ok g), by rw [List.length_append]; exact hf, fun H2 s2 N2 => ⟨rfl, ?_⟩⟩
    exact k _ x (s1.trans s2) N2
end
end LL

namespace LL
open PySem L2 PySem.Spec PyProof.Rows
/-! ### rows as data -/
section
variable {K : PySem.W.Frag}
theorem ints_dpAll {H : Hp} : ∀ ns : List Int, DpAll K H (ns.map V.int) (ns.map PyData.int)
  | [] => .nil
  | n :: r => .cons (.int n) (ints_dpAll r)
abbrev rowPy (ns : List Int) : PyData := .list (ns.map PyData.int)
abbrev rowsPy (rows : List (List Int)) : PyData := .list (rows.map rowPy)
theorem ints_dp {H : Hp} {a : Addr} {ns : List Int} (h : SqL K H a (ns.map V.int)) : Dp K H (.ref a) (rowPy ns) := .lst h (ints_dpAll ns)
theorem rws_dp {H : Hp} {a : Addr} {rows : List (List Int)} (h : Rws K H a rows) : Dp K H (.ref a) (rowsPy rows) := by
  obtain ⟨xs, hS, hA⟩ := h
  exact .lst hS (dpAll_of (hA.mono fun v ns ⟨b, e, q⟩ => by rw [e]; exact ints_dp q))
theorem ints_lay : ∀ ns : List Int, PyData.canLayAll0 (ns.map PyData.int) = true := all_lay fun _ => rfl
theorem row_lay (ns : List Int) : (rowPy ns).canLay0 = true := ints_lay ns
theorem rows_lay (rows : List (List Int)) : (rowsPy rows).canLay0 = true := all_lay row_lay rows
theorem row_depth (ns : List Int) : (rowPy ns).depth ≤ 1 := by
  have : PyData.depthAll (ns.map PyData.int) ≤ 0 := all_depth (f := PyData.int) (fun _ => Nat.le_refl 0) ns
  show PyData.depthAll (ns.map PyData.int) + 1 ≤ 1
  omega
theorem rows_depth (rows : List (List Int)) : (rowsPy rows).depth ≤ 2 := by
  have : PyData.depthAll (rows.map rowPy) ≤ 1 := all_depth (f := rowPy) row_depth rows
  show PyData.depthAll (rows.map rowPy) + 1 ≤ 2
  omega
theorem row_shaped (ns : List Int) : SeqAt.shaped (rowPy ns) = true := shaped_of (row_lay ns) (Nat.le_trans (row_depth ns) (by decide))
theorem rows_shaped (rows : List (List Int)) : SeqAt.shaped (rowsPy rows) = true := shaped_of (rows_lay rows) (Nat.le_trans (rows_depth rows) (by decide))
theorem row_same {ns ms : List Int} (h : ns = ms) : PyData.eqv (rowPy ns) (rowPy ms) = true := by
  subst h
  exact SeqAt.eqv_refl _ (row_lay ns)
theorem rows_same {rs ts : List (List Int)} (h : rs = ts) : PyData.eqv (rowsPy rs) (rowsPy ts) = true := by
  subst h
  exact SeqAt.eqv_refl _ (rows_lay rs)
theorem row_tame : ∀ {ns : List Int}, (∀ x ∈ ns, x.natAbs < 10 ^ 40) → tameAll (ns.map PyData.int) = true ∧ wtAll (ns.map PyData.int) = 47 * ns.length
  | [], _ => ⟨rfl, rfl⟩
  | n :: r, h => by
    obtain ⟨a, b⟩ := row_tame (ns := r) fun x hx => h x (List.mem_cons_of_mem _ hx)
    refine ⟨?_, ?_⟩
    · show (decide (n.natAbs < 10 ^ 40) && tameAll (r.map PyData.int)) = true
      rw [a, decide_eq_true (h n List.mem_cons_self)]
      rfl
    · show 45 + 2 + wtAll (r.map PyData.int) = 47 * (r.length + 1)
      rw [b]
      omega
theorem rows_tame : ∀ {rows : List (List Int)}, (∀ ns ∈ rows, ns.length ≤ 12 ∧ ∀ x ∈ ns, x.natAbs < 10 ^ 40) → tameAll (rows.map rowPy) = true ∧ wtAll (rows.map rowPy) ≤ 600 * rows.length
  | [], _ => ⟨rfl, Nat.le_refl _⟩
  | ns :: r, h => by
    obtain ⟨a, b⟩ := rows_tame (rows := r) fun x hx => h x (List.mem_cons_of_mem _ hx)
    obtain ⟨c, d⟩ := row_tame (h ns List.mem_cons_self).2
    have l := (h ns List.mem_cons_self).1
    refine ⟨?_, ?_⟩
    · show (tameAll (ns.map PyData.int) && tameAll (r.map rowPy)) = true
      rw [a, c]
      rfl
    · show wtAll (ns.map PyData.int) + 2 + 2 + wtAll (r.map rowPy) ≤ 600 * (r.length + 1)
      rw [d]
      omega
end
end LL

namespace LL
open PySem L2 PySem.Spec PyProof.Rows
/-! ### orders -/
theorem srt_eq : ∀ {xs ys : List Int}, xs.Pairwise (· ≤ ·) → ys.Pairwise (· ≤ ·) → xs.Perm ys → xs = ys
  | [], ys, _, _, h => (List.nil_perm.mp h).symm
  | x :: xs, [], _, _, h => by
    have := h.length_eq
    simp at this
  | x :: xs, y :: ys, hx, hy, h => by
    have hx' := List.pairwise_cons.mp hx
    have hy' := List.pairwise_cons.mp hy
    have e : x = y := by
      have a : x ∈ y :: ys := h.mem_iff.mp List.mem_cons_self
      have b : y ∈ x :: xs := h.mem_iff.mpr List.mem_cons_self
      rcases List.mem_cons.mp a with q | q
      · exact q
      · rcases List.mem_cons.mp b with r | r
        · exact r.symm
        · exact Int.le_antisymm (hx'.1 _ r) (hy'.1 _ q)
    subst e
    rw [srt_eq hx'.2 hy'.2 (List.perm_cons x |>.mp h)]
abbrev intsN (os : List Nat) : List Int := os.map fun i : Nat => (i : Int)
def IsOrd (os : List Nat) (n : Nat) : Prop := os.Perm (List.range n)
theorem IsOrd.len {os : List Nat} {n : Nat} (h : IsOrd os n) : os.length = n := by rw [h.length_eq, List.length_range]
theorem IsOrd.lt {os : List Nat} {n : Nat} (h : IsOrd os n) {i : Nat} (hi : i ∈ os) : i < n := List.mem_range.mp (h.mem_iff.mp hi)
theorem range_srt : ∀ n, (intsN (List.range n)).Pairwise (· ≤ ·)
  | 0 => .nil
  | n + 1 => by
    unfold intsN
    rw [List.range_succ, List.map_append]
    refine List.pairwise_append.mpr ⟨range_srt n, List.pairwise_singleton _ _, fun a ha b hb => ?_⟩
    obtain ⟨i, hi, e⟩ := List.mem_map.mp ha
    have := List.mem_range.mp hi
    simp at hb
    omega
theorem rg_eq (n : Nat) : rgV 0 (n : Int) = (intsN (List.range n)).map V.int := by
  unfold rgV intsN
  rw [List.map_map, Int.sub_zero, Int.toNat_natCast]
  apply List.map_congr_left
  intro i _
  show V.int (0 + (i : Int)) = V.int (i : Int)
  rw [Int.zero_add]
def putAll (os : List Nat) (ns fs : List Int) : List Int := (os.zip ns).foldl (fun f p => f.set p.1 p.2) fs
/-- a content moved by an order -/
def movedL (os : List Nat) (ns : List Int) : List Int := putAll os ns ns
def putTo (os : List Nat) (ns : List Int) (i : Nat) : List Int := ((os.zip ns).take i).foldl (fun f p => f.set p.1 p.2) ns
theorem put_len (l : List (Nat × Int)) : ∀ fs : List Int, (l.foldl (fun f p => f.set p.1 p.2) fs).length = fs.length := by
  induction l with
  | nil => intro fs; rfl
  | cons p l ih =>
    intro fs
    show (l.foldl _ (fs.set p.1 p.2)).length = _
    rw [ih, List.length_set]
theorem put_next {os : List Nat} {ns : List Int} {i o : Nat} {x : Int} (h1 : os[i]? = some o) (h2 : ns[i]? = some x) : putTo os ns (i + 1) = (putTo os ns i).set o x := by
  unfold putTo
  have : (os.zip ns)[i]? = some (o, x) := by rw [List.getElem?_zip_eq_some]; exact ⟨h1, h2⟩
  rw [List.take_add_one, this, List.foldl_append]
  rfl
theorem put_end {os : List Nat} {ns : List Int} (h : os.length = ns.length) : putTo os ns ns.length = movedL os ns := by
  unfold putTo movedL putAll
  rw [List.take_of_length_le (by rw [List.length_zip]; omega)]
def turnedL (ns : List Int) : List Int := ns.map fun x => -x
def raisedL (ns : List Int) (z : Int) : List Int := ns.map fun x => x + z
section
variable {P : Program} {w : World} {K : PySem.W.Frag} {mg : Str → Option Value} {base : Heap} {C : Addr}
def sp_check_any_content (K : PySem.W.Frag) : Sp := fun vs H Q _ => ∃ a ns, vs = [V.ref a] ∧ Ct K H a ns ∧ ∀ H', Same H H' → Q .non H'
theorem c_check_any_content (T : Txt K mg C) : C8.Cal P w K mg base 4 "check_any_content" (sp_check_any_content K) [] := by
  refine T.d_check_any_content.cal sc_check_any_content (fun vs H Q E h => ?_) (fun f cdv A outer s H vs Q E hr h => ?_)
  · obtain ⟨a, ns, rfl, _⟩ := h
    rfl
  · obtain ⟨a, ns, rfl, c, k⟩ := h
    refine ⟨_, (pss_one (ps_if (pt_not (pt_val (C8.pe_c (c_is_content T) hr (by decide) rfl (pa_cons (pv 0) pa_nil))))
       (pss_one ps_never)
       pss_nil)), ?_⟩
    exact ⟨_, rfl, a, ns, rfl, c, fun H1 s1 => ⟨true, rfl, iteF (k _ s1)⟩⟩
def sp_check_number : Sp := fun vs H Q _ => ∃ i, vs = [V.int i] ∧ Q .non H
theorem c_check_number (T : Txt K mg C) : C8.Cal P w K mg base 2 "check_number" sp_check_number [] := by
  refine T.d_check_number.cal sc_check_number (fun vs H Q E h => ?_) (fun f cdv A outer s H vs Q E hr h => ?_)
  · obtain ⟨i, rfl, _⟩ := h
    rfl
  · obtain ⟨i, rfl, k⟩ := h
    refine ⟨_, (pss_one (ps_if (pt_not (pt_val (C8.pe_c (c_is_integer T) hr (by decide) rfl (pa_cons (pv 0) pa_nil))))
       (pss_one ps_never)
       pss_nil)), ?_⟩
    exact ⟨_, rfl, i, rfl, true, rfl, iteF k⟩
def sp_raised (K : PySem.W.Frag) : Sp := fun vs H Q _ => ∃ (a : Addr) (ns : List Int) (z : Int), vs = [V.ref a, V.int z] ∧ SqL K H a (ns.map V.int) ∧ 1 ≤ ns.length ∧ ns.length ≤ 12 ∧ ∀ H' p, Same H H' → H p = none → H' p = some (.lst ((raisedL ns z).map V.int)) → Q (.ref p) H'
theorem c_raised (T : Txt K mg C) : C8.Cal P w K mg base 5 "raised" (sp_raised K) [] := by
  refine T.d_raised.cal sc_raised (fun vs H Q E h => ?_) (fun f cdv A outer s H vs Q E hr h => ?_)
  · obtain ⟨a, ns, z, rfl, _⟩ := h
    rfl
  · obtain ⟨a, ns, z, rfl, c, l1, l2, k⟩ := h
    refine ⟨_, (pss_cons (ps_expr (C8.pe_c (c_check_any_content T) hr (by decide) rfl (pa_cons (pv 0) pa_nil)))
      (pss_cons (ps_expr (C8.pe_c (c_check_number T) hr (by decide) rfl (pa_cons (pv 1) pa_nil)))
      (pss_one (ps_ret (pe_lc (own := [("own", 2)]) (g := (gName 2)) (tt := tYes) rfl sc_raised.nd (pi_list (pv 0)) (blkOk_by (N := N_raised) (sc := C8.fnScope s_raised) (by decide +kernel)) (fun _ _ _ _ _ => (pg_name (i := 2) sc_raised.nd rfl (Or.inl rfl))) (fun _ _ _ _ _ => pts_nil) (fun _ _ _ _ _ => (pe_op op_add (pv 2) (pv 1)))))))), ?_⟩
    refine ⟨_, rfl, a, ns, rfl, ⟨.inl c, l1, l2⟩, fun H1 s1 => ?_⟩
    refine ⟨_, rfl, z, rfl, ?_⟩
    refine ⟨_, rfl, a, rfl, ⟨_, s1.seq c⟩, fun D hD => lc_pure (walk_list (xs := ns.map V.int)) ((raisedL ns z).map V.int) (by unfold raisedL; simp) hD (by rw [List.length_map]; omega) (fun H' s => (s1.trans s).seq c) (fun i x H H' Q' hi s y q => ?_) (fun H' s hd => k _ D (s1.trans s) (s1.free hD) hd)⟩
    obtain ⟨rfl, hx⟩ := y
    obtain ⟨n, rfl, hn⟩ := get_int hx
    refine ⟨rfl, _, rfl, _, rfl, _, _, rfl, rfl, q _ _ ?_ (Same.refl _)⟩
    unfold raisedL
    rw [List.getElem?_map, List.getElem?_map, hn]
    rfl
def sp_turned (K : PySem.W.Frag) : Sp := fun vs H Q _ => ∃ (a : Addr) (ns : List Int), vs = [V.ref a] ∧ SqL K H a (ns.map V.int) ∧ 1 ≤ ns.length ∧ ns.length ≤ 12 ∧ ∀ H' p, Same H H' → H p = none → H' p = some (.lst ((turnedL ns).map V.int)) → Q (.ref p) H'
theorem c_turned (T : Txt K mg C) : C8.Cal P w K mg base 5 "turned" (sp_turned K) [] := by
  refine T.d_turned.cal sc_turned (fun vs H Q E h => ?_) (fun f cdv A outer s H vs Q E hr h => ?_)
  · obtain ⟨a, ns, rfl, _⟩ := h
    rfl
  · obtain ⟨a, ns, rfl, c, l1, l2, k⟩ := h
    refine ⟨_, (pss_cons (ps_expr (C8.pe_c (c_check_any_content T) hr (by decide) rfl (pa_cons (pv 0) pa_nil)))
      (pss_one (ps_ret (pe_lc (own := [("number", 1)]) (g := (gName 1)) (tt := tYes) rfl sc_turned.nd (pi_list (pv 0)) (blkOk_by (N := N_turned) (sc := C8.fnScope s_turned) (by decide +kernel)) (fun _ _ _ _ _ => (pg_name (i := 1) sc_turned.nd rfl (Or.inl rfl))) (fun _ _ _ _ _ => pts_nil) (fun _ _ _ _ _ => (pe_un un_neg (pv 1))))))), ?_⟩
    refine ⟨_, rfl, a, ns, rfl, ⟨.inl c, l1, l2⟩, fun H1 s1 => ?_⟩
    refine ⟨_, rfl, a, rfl, ⟨_, s1.seq c⟩, fun D hD => lc_pure (walk_list (xs := ns.map V.int)) ((turnedL ns).map V.int) (by unfold turnedL; simp) hD (by rw [List.length_map]; omega) (fun H' s => (s1.trans s).seq c) (fun i x H H' Q' hi s y q => ?_) (fun H' s hd => k _ D (s1.trans s) (s1.free hD) hd)⟩
    obtain ⟨rfl, hx⟩ := y
    obtain ⟨n, rfl, hn⟩ := get_int hx
    refine ⟨rfl, _, rfl, _, rfl, q _ _ ?_ (Same.refl _)⟩
    unfold turnedL
    rw [List.getElem?_map, List.getElem?_map, hn]
    rfl
def sp_is_order (K : PySem.W.Frag) : Sp := fun vs H Q _ => ∃ (a : Addr) (os : List Nat) (n : Nat), vs = [V.ref a, V.int n] ∧ SqL K H a ((intsN os).map V.int) ∧ IsOrd os n ∧ n ≤ 12 ∧ ∀ H', Same H H' → Q (.bl true) H'
theorem c_is_order (T : Txt K mg C) : C8.Cal P w K mg base 3 "is_order" (sp_is_order K) [] := by
  refine T.d_is_order.cal sc_is_order (fun vs H Q E h => ?_) (fun f cdv A outer s H vs Q E hr h => ?_)
  · obtain ⟨a, os, n, rfl, _⟩ := h
    rfl
  · obtain ⟨a, os, n, rfl, c, ho, hn, k⟩ := h
    refine ⟨_, (pss_cons (ps_if (PW.pt (pw_or (pt_not (pt_val (C8.pe_c (c_is_list T) hr (by decide) rfl (pa_cons (pv 0) pa_nil)))) (pw_or1 (pt_not (pt_val (pe_callB (cr_all rfl) (by rfl) T.b_all (by decide +kernel) (pa_cons (pe_lc (own := [("lane", 2)]) (g := (gName 2)) (tt := tYes) rfl sc_is_order.nd (pi_list (pv 0)) (blkOk_by (N := N_is_order) (sc := C8.fnScope s_is_order) (by decide +kernel)) (fun _ _ _ _ _ => (pg_name (i := 2) sc_is_order.nd rfl (Or.inl rfl))) (fun _ _ _ _ _ => pts_nil) (fun _ _ _ _ _ => (C8.pe_c (c_is_integer T) hr (by decide) rfl (pa_cons (pv 2) pa_nil)))) pa_nil)))))))
       (pss_one (ps_ret pe_bl))
       pss_nil)
      (pss_one (ps_ret (pe_cmpR (op_eqD hr.units) (pe_callB cr_sorted (by rfl) T.b_sorted (by decide +kernel) (pa_cons (pv 0) pa_nil)) (pe_listRg rfl (by rfl) T.b_list (prg_1 (by rfl) T.b_range (pv 1))) (nomark _))))), ?_⟩
    have hl := ho.len
    refine ⟨_, rfl, a, _, rfl, .inl c, fun H1 s1 => ⟨true, rfl, iteF ?_⟩⟩
    have few : ((intsN os).map V.int).length ≤ 12 := by rw [List.length_map, List.length_map, hl]; exact hn
    refine ⟨_, rfl, a, rfl, ⟨_, s1.seq c⟩, fun D hD => lc_pure (walk_list (xs := (intsN os).map V.int)) ((List.replicate ((intsN os).map V.int).length true).map V.bl) (by simp) hD (by omega) (fun H' s => (s1.trans s).seq c) (fun i x H H' Q' hi s y q => ?_) (fun H' s hd => ?_)⟩
    · obtain ⟨rfl, hx⟩ := y
      obtain ⟨x, rfl, hx2⟩ := get_int hx
      exact ⟨rfl, _, rfl, x, rfl, q _ _ (by rw [List.getElem?_map, List.getElem?_replicate, if_pos hi]; rfl) (Same.refl _)⟩
    · have t := s1.trans s
      refine ⟨D, _, rfl, SqL.of hd, _, rfl, itF (by simp) ?_⟩
      refine ⟨_, rfl, a, intsN os, rfl, t.seq c, by rw [List.length_map, hl]; omega, fun ns' p hp hs hp0 => ?_⟩
      have e : ns' = intsN (List.range n) := srt_eq hs (range_srt n) (hp.trans (ho.map _))
      subst e
      have n1 := Same.new (o := .lst ((intsN (List.range n)).map V.int)) hp0
      refine ⟨_, rfl, (n : Int), rfl, RgOk.of_le (by omega) (by omega) (by omega) (by omega), fun q hq => ?_⟩
      rw [rg_eq]
      have n2 := Same.new (o := .lst ((intsN (List.range n)).map V.int)) hq
      exact ⟨_, _, ints_dp (SqL.of (n2 _ _ upd_same)), ints_dp (SqL.of upd_same), row_shaped _, row_shaped _, q_bl (row_same rfl) (k _ ((t.trans n1).trans n2))⟩
def sp_check_order (K : PySem.W.Frag) : Sp := fun vs H Q _ => ∃ (a : Addr) (os : List Nat) (n : Nat), vs = [V.ref a, V.int n] ∧ SqL K H a ((intsN os).map V.int) ∧ IsOrd os n ∧ n ≤ 12 ∧ ∀ H', Same H H' → Q .non H'
theorem c_check_order (T : Txt K mg C) : C8.Cal P w K mg base 4 "check_order" (sp_check_order K) [] := by
  refine T.d_check_order.cal sc_check_order (fun vs H Q E h => ?_) (fun f cdv A outer s H vs Q E hr h => ?_)
  · obtain ⟨a, os, n, rfl, _⟩ := h
    rfl
  · obtain ⟨a, os, n, rfl, c, ho, hn, k⟩ := h
    refine ⟨_, (pss_one (ps_if (pt_not (pt_val (C8.pe_c (c_is_order T) hr (by decide) rfl (pa_cons (pv 0) (pa_cons (pv 1) pa_nil)))))
       (pss_one ps_never)
       pss_nil)), ?_⟩
    exact ⟨_, rfl, _, rfl, a, os, n, rfl, c, ho, hn, fun H1 s1 => ⟨true, rfl, iteF (k _ s1)⟩⟩
def sp_moved (K : PySem.W.Frag) : Sp := fun vs H Q _ => ∃ (c o : Addr) (ns : List Int) (os : List Nat), vs = [V.ref c, V.ref o] ∧ SqL K H c (ns.map V.int) ∧ 1 ≤ ns.length ∧ ns.length ≤ 12 ∧ SqL K H o ((intsN os).map V.int) ∧ IsOrd os ns.length ∧ ∀ H' p, Same H H' → H p = none → H' p = some (.lst ((movedL os ns).map V.int)) → Q (.ref p) H'
theorem c_moved (T : Txt K mg C) : C8.Cal P w K mg base 5 "moved" (sp_moved K) [] := by
  refine T.d_moved.cal sc_moved (fun vs H Q E h => ?_) (fun f cdv A outer s H vs Q E hr h => ?_)
  · obtain ⟨c, o, ns, os, rfl, _⟩ := h
    rfl
  · obtain ⟨c, o, ns, os, rfl, hc, l1, l2, hO, ho, k⟩ := h
    refine ⟨_, (pss_cons (ps_expr (C8.pe_c (c_check_any_content T) hr (by decide) rfl (pa_cons (pv 0) pa_nil)))
      (pss_cons (ps_expr (C8.pe_c (c_check_order T) hr (by decide) rfl (pa_cons (pv 1) (pa_cons (pe_callB call_len_seq (by rfl) T.b_len (by decide +kernel) (pa_cons (pv 0) pa_nil)) pa_nil))))
      (pss_cons (ps_set (i := 2) sc_moved.nd rfl (Or.inl rfl) (pe_callTy call_list_of (by rfl) T.b_list (by decide +kernel) (pa_cons (pv 0) pa_nil)))
      (pss_cons (ps_for PassesOwn.never rfl (pi_zip (by rfl) T.b_zip (pa_cons (pv 1) (pa_cons (pv 0) pa_nil))) (pg_tup (n := 2) rfl (pgs_cons (pg_name (i := 3) sc_moved.nd rfl (Or.inl rfl)) (pgs_cons (pg_name (i := 4) sc_moved.nd rfl (Or.inl rfl)) pgs_nil)))
       (pss_one (ps_asg (pv 4) (pg_sub (pv 2) (pv 3) set_list))))
      (pss_one (ps_ret (pv 2))))))), ?_⟩
    have hl := ho.len
    refine ⟨_, rfl, c, ns, rfl, ⟨.inl hc, l1, l2⟩, fun H1 s1 => ?_⟩
    refine ⟨_, rfl, _, rfl, c, _, rfl, .inl (s1.seq hc), o, os, ns.length, by rw [List.length_map]; rfl, s1.seq hO, ho, l2, fun H2 s2 => ?_⟩
    have t2 := s1.trans s2
    refine ⟨_, rfl, c, _, rfl, .inl (t2.seq hc), fun p hp => ?_⟩
    have t3 : Same H (upd H2 p (.lst (ns.map V.int))) := t2.trans (Same.new hp)
    have p0 := t2.free hp
    refine ⟨_, rfl, _, rfl, o, c, _, _, rfl, t3.seq hO, t3.seq hc, for_it (walk_zip (xs := (intsN os).map V.int) (ys := ns.map V.int) (n := ns.length) (by simp [hl])) (fun i σ H' => Same H H' ∧ H' p = some (.lst ((putTo os ns i).map V.int)) ∧ ∃ v1 v2, σ = [some (.ref c), some (.ref o), some (.ref p), v1, v2]) ⟨t3, by rw [upd_same]; rfl, none, none, rfl⟩ (fun i σ H' _ z => ⟨z.1.seq hO, z.1.seq hc⟩) (fun i x σ H3 H4 hi z y => ?_) (fun σ H3 z => ?_)⟩
    · obtain ⟨s3, h3, v1, v2, rfl⟩ := z
      obtain ⟨T', x1, x2, rfl, hT, rfl, h1, h2⟩ := y
      obtain ⟨z1, rfl, hz1⟩ := get_int h1
      obtain ⟨z2, rfl, hz2⟩ := get_int h2
      obtain ⟨o1, ho1, rfl⟩ : ∃ o1 : Nat, os[i]? = some o1 ∧ z1 = (o1 : Int) := by
        rw [List.getElem?_map] at hz1
        cases e : os[i]? with
        | none => rw [e] at hz1; cases hz1
        | some o1 => rw [e] at hz1; exact ⟨o1, rfl, (Option.some.inj hz1).symm⟩
      have n4 : Same H3 (upd H3 T' (.tup [V.int o1, V.int z2])) := Same.new hT
      refine ⟨T', _, rfl, SqT.of upd_same, rfl, _, _, rfl, _, _, rfl, rfl, ?_⟩
      refine ⟨_, rfl, _, rfl, _, rfl, p, _, _, o1, rfl, rfl, n4 _ _ h3, ixN_nat (by rw [List.length_map]; unfold putTo; rw [put_len]; exact ho.lt (List.mem_of_getElem? ho1)), ?_⟩
      refine ⟨(s3.trans n4).mut p0, ?_, _, _, rfl⟩
      rw [upd_same, map_set_int, put_next ho1 hz2]
    · obtain ⟨s3, h3, v1, v2, rfl⟩ := z
      rw [put_end hl] at h3
      exact ⟨_, rfl, k _ p s3 p0 h3⟩
end
end LL

namespace LL
open PySem L2 PySem.Spec PyProof.Rows
/-! ### the pot, and what stands beside it -/
def Pot (H : Hp) (a : Addr) : Prop := ∃ p0 p1 : Int, H a = some (.lst [.int p0, .int p1]) ∧ 0 ≤ p0 ∧ 0 ≤ p1 ∧ p1 < 2147483648
/-- H0: all that is known beside the pot at a -/
structure Wd (a : Addr) (H0 H : Hp) : Prop where
  same : Same H0 H
  off : H0 a = none
  pot : Pot H a
theorem Wd.ne {a b : Addr} {H0 H : Hp} (w : Wd a H0 H) (h : H b = none) : b ≠ a := fun z => by
  obtain ⟨p0, p1, e, _⟩ := w.pot
  rw [z, e] at h
  cases h
theorem Wd.ext {a p : Addr} {H0 H : Hp} {o : HO} (w : Wd a H0 H) (h : H p = none) : Wd a (upd H0 p o) (upd H p o) := by
  have n := w.ne h
  refine ⟨fun b u e => ?_, by rw [upd_ne n.symm]; exact w.off, ?_⟩
  · by_cases z : b = p
    · subst z
      rw [upd_same] at e ⊢
      exact e
    · rw [upd_ne z] at e ⊢
      exact w.same _ _ e
  · obtain ⟨p0, p1, e, q⟩ := w.pot
    exact ⟨p0, p1, by rw [upd_ne n.symm]; exact e, q⟩
theorem Wd.back {a : Addr} {H0 H1 H : Hp} (s : Same H0 H1) (w : Wd a H1 H) : Wd a H0 H := ⟨s.trans w.same, s.free w.off, w.pot⟩
theorem Wd.pure {a : Addr} {H0 H H' : Hp} (w : Wd a H0 H) (s : Same H H') : Wd a H0 H' := by
  obtain ⟨p0, p1, e, q⟩ := w.pot
  exact ⟨w.same.trans s, w.off, p0, p1, s _ _ e, q⟩
theorem Wd.new {a p : Addr} {H0 H : Hp} {o : HO} (w : Wd a H0 H) (h : H p = none) : Wd a H0 (upd H p o) := w.pure (Same.new h)
theorem Wd.fresh {a p : Addr} {H0 H : Hp} (w : Wd a H0 H) (h : H p = none) : H0 p = none := w.same.free h
/-- a new object becomes one of the known ones -/
theorem Wd.know {a r : Addr} {H0 H : Hp} {o : HO} (w : Wd a H0 H) (h0 : H0 r = none) (n : r ≠ a) (h : H r = some o) : Wd a (upd H0 r o) H := by
  refine ⟨fun b u e => ?_, by rw [upd_ne n.symm]; exact w.off, w.pot⟩
  by_cases z : b = r
  · subst z
    rw [upd_same] at e
    rw [h, ← Option.some.inj e]
  · rw [upd_ne z] at e
    exact w.same _ _ e
section
variable {P : Program} {w : World} {K : PySem.W.Frag} {mg : Str → Option Value} {base : Heap} {C : Addr}
def sp_law_draw : Sp := fun vs H Q _ => ∃ (H0 : Hp) (a : Addr) (n : Int), vs = [V.ref a, V.int n] ∧ Wd a H0 H ∧ 1 ≤ n ∧ n < 1073741824 ∧ ∀ H' d, Wd a H0 H' → 0 ≤ d → d < n → Q (.int d) H'
theorem c_law_draw (T : Txt K mg C) : C8.Cal P w K mg base 1 "_law_draw" sp_law_draw [] := by
  refine T.d_law_draw.cal sc_law_draw (fun vs H Q E h => ?_) (fun f cdv A outer s H vs Q E hr h => ?_)
  · obtain ⟨H0, a, n, rfl, _⟩ := h
    rfl
  · obtain ⟨H0, a, n, rfl, W, h1, h2, k⟩ := h
    obtain ⟨p0, p1, ha, g0, g1, g2⟩ := W.pot
    refine ⟨_, (pss_cons (ps_if (pt_cmpR op_gt (pe_ix ix_list (pv 0) pe_int (fun _ _ => rfl)) pe_int (nomark _))
       (pss_cons (ps_asg (pe_callB call_divmod (by rfl) T.b_divmod (by decide +kernel) (pa_cons (pe_ix ix_list (pv 0) pe_int (fun _ _ => rfl)) (pa_cons (pv 1) pa_nil))) (pg_tup (n := 2) rfl (pgs_cons (pg_sub (pv 0) pe_int set_list) (pgs_cons (pg_name (i := 2) sc_law_draw.nd rfl (Or.inl rfl)) pgs_nil))))
        (pss_one (ps_ret (pv 2))))
       pss_nil)
      (pss_cons (ps_asg (pe_op op_mod (pe_callTy call_int1 (by rfl) T.b_int (by decide +kernel) (pa_cons (pe_op op_add (pe_op op_mul (pe_ix ix_list (pv 0) pe_int (fun _ _ => rfl)) pe_int) pe_int) pa_nil)) pe_int) (pg_sub (pv 0) pe_int set_list))
      (pss_one (ps_ret (pe_op op_mod (pe_callTy call_int1 (by rfl) T.b_int (by decide +kernel) (pa_cons (pe_op op_fdiv (pe_op op_mod (pe_callTy call_int1 (by rfl) T.b_int (by decide +kernel) (pa_cons (pe_op op_mul (pe_ix ix_list (pv 0) pe_int (fun _ _ => rfl)) (pe_ix ix_list (pv 0) pe_int (fun _ _ => rfl))) pa_nil)) pe_int) pe_int) pa_nil)) (pv 1)))))), ?_⟩
    refine ⟨_, rfl, a, _, _, _, rfl, rfl, SqL.of ha, atI_nat (j := 0) rfl, _, _, rfl, rfl, _, rfl, ?_⟩
    refine ite2 (fun c => ?_) (fun c => ?_)
    · refine ⟨_, rfl, a, _, _, _, rfl, rfl, SqL.of ha, atI_nat (j := 0) rfl, _, rfl, p0, n, rfl, ⟨h1, h2⟩, fun t ht => ?_⟩
      have nat : a ≠ t := (W.ne ht).symm
      refine ⟨t, _, rfl, SqT.of upd_same, rfl, _, _, rfl, _, rfl, a, [V.int p0, V.int p1], _, 0, rfl, rfl, (by rw [upd_ne nat]; exact ha), ixN_nat (n := 2) (i := 0) (by decide), ?_⟩
      refine ⟨_, _, rfl, rfl, _, rfl, k _ _ ⟨((W.same.trans (Same.new ht)).mut W.off), W.off, p0 / n, p1, by rw [upd_same]; rfl, Int.ediv_nonneg g0 (by omega), g1, g2⟩ (Int.emod_nonneg _ (by omega)) (Int.emod_lt_of_pos _ (by omega))⟩
    · refine ⟨_, rfl, a, _, _, _, rfl, rfl, SqL.of ha, atI_nat (j := 1) rfl, _, _, rfl, rfl, .inl ⟨by omega, by omega⟩, _, _, rfl, rfl, .inl ⟨_, rfl, _, _, rfl, rfl, by show (0 : Int) < 2147483529; decide, ?_⟩⟩
      refine ⟨_, rfl, a, _, _, 1, rfl, rfl, ha, ixN_nat (n := 2) (i := 1) (by decide), ?_⟩
      have hm0 : 0 ≤ (p1 * 39405 + 30043) % 2147483529 := Int.emod_nonneg _ (by decide)
      have hm1 : (p1 * 39405 + 30043) % 2147483529 < 2147483529 := Int.emod_lt_of_pos _ (by decide)
      have W2 : Wd a H0 (upd H a (.lst ([V.int p0, V.int p1].set 1 (.int ((p1 * 39405 + 30043) % 2147483529))))) := ⟨W.same.mut W.off, W.off, p0, _, by rw [upd_same]; rfl, g0, hm0, by omega⟩
      refine ⟨_, rfl, a, _, _, V.int ((p1 * 39405 + 30043) % 2147483529), rfl, rfl, SqL.of upd_same, atI_nat (j := 1) rfl, _, rfl, a, _, _, V.int ((p1 * 39405 + 30043) % 2147483529), rfl, rfl, SqL.of upd_same, atI_nat (j := 1) rfl, _, _, rfl, rfl, .inl ⟨by omega, by omega⟩, .inl ⟨_, rfl, ?_⟩⟩
      refine ⟨_, _, rfl, rfl, by show (0 : Int) < 2147483497; decide, _, _, rfl, rfl, ⟨by decide, by decide⟩, .inl ⟨_, rfl, _, rfl, _, _, rfl, rfl, by omega, ?_⟩⟩
      exact k _ _ W2 (Int.emod_nonneg _ (by omega)) (Int.emod_lt_of_pos _ (by omega))
def sp_law_pick (K : PySem.W.Frag) : Sp := fun vs H Q _ => ∃ (H0 : Hp) (a b : Addr) (xs : List V), vs = [V.ref a, V.ref b] ∧ Wd a H0 H ∧ SqL K H0 b xs ∧ 1 ≤ xs.length ∧ xs.length ≤ 1000 ∧ ∀ H' v, Wd a H0 H' → v ∈ xs → Q v H'
theorem c_law_pick (T : Txt K mg C) : C8.Cal P w K mg base 2 "_law_pick" (sp_law_pick K) [] := by
  refine T.d_law_pick.cal sc_law_pick (fun vs H Q E h => ?_) (fun f cdv A outer s H vs Q E hr h => ?_)
  · obtain ⟨H0, a, b, xs, rfl, _⟩ := h
    rfl
  · obtain ⟨H0, a, b, xs, rfl, W, hb, h1, h2, k⟩ := h
    refine ⟨_, (pss_one (ps_ret (pe_ix ix_list (pv 1) (C8.pe_c (c_law_draw T) hr (by decide) rfl (pa_cons (pv 0) (pa_cons (pe_callB call_len_seq (by rfl) T.b_len (by decide +kernel) (pa_cons (pv 1) pa_nil)) pa_nil))) (fun _ _ => rfl)))), ?_⟩
    refine ⟨_, rfl, _, rfl, _, rfl, b, _, rfl, .inl (W.same.seq hb), H0, a, (xs.length : Int), rfl, W, by omega, by omega, fun H' d W' d0 d1 => ?_⟩
    have hd : d.toNat < xs.length := by omega
    refine ⟨b, xs, d, xs[d.toNat], rfl, rfl, W'.same.seq hb, at_of (by omega) (List.getElem?_eq_getElem hd), k _ _ W' (List.getElem_mem hd)⟩
end
end LL

namespace LL
open PySem L2 PySem.Spec PyProof.Rows
theorem mod_ne {d e n : Int} (d0 : 0 ≤ d) (d1 : d < n) (e0 : 0 ≤ e) (e1 : e < n - 1) : 0 ≤ (d + 1 + e) % n ∧ (d + 1 + e) % n < n ∧ (d + 1 + e) % n ≠ d := by
  have hp : 0 < n := by omega
  refine ⟨Int.emod_nonneg _ (by omega), Int.emod_lt_of_pos _ hp, ?_⟩
  by_cases h : d + 1 + e < n
  · rw [Int.emod_eq_of_lt (by omega) h]
    omega
  · have q : (d + 1 + e) % n = d + 1 + e - n := by
      have h1 : d + 1 + e = (d + 1 + e - n) + n * 1 := by omega
      rw [h1, Int.add_mul_emod_self_left, Int.emod_eq_of_lt (by omega) (by omega)]
      omega
    rw [q]
    omega
def Gt.mild : Gt → Bool
  | .add _ c => decide (c.natAbs ≤ 10 ^ 20)
  | _ => true
section
variable {P : Program} {w : World} {K : PySem.W.Frag} {mg : Str → Option Value} {base : Heap} {C : Addr}
def sp_law_gate (K : PySem.W.Frag) : Sp := fun vs H Q _ => ∃ (H0 : Hp) (a : Addr) (n : Nat), vs = [V.ref a, V.int n] ∧ Wd a H0 H ∧ 1 ≤ n ∧ n ≤ 12 ∧
  ∀ H0' H' t (g : Gt), Same H0 H0' → Wd a H0' H' → g.ok n → g.mild = true → SqT K H0' t g.vals → Q (.ref t) H'
theorem c_law_gate (T : Txt K mg C) : C8.Cal P w K mg base 3 "_law_gate" (sp_law_gate K) [] := by
  refine T.d_law_gate.cal sc_law_gate (fun vs H Q E h => ?_) (fun f cdv A outer s H vs Q E hr h => ?_)
  · obtain ⟨H0, a, n, rfl, _⟩ := h
    rfl
  · obtain ⟨H0, a, n, rfl, W, h1, h2, k⟩ := h
    refine ⟨_, (pss_cons (ps_set (i := 2) sc_law_gate.nd rfl (Or.inl rfl) (pe_ifExp (pt_cmpR op_gt (pv 1) pe_int (nomark _)) (C8.pe_c (c_law_pick T) hr (by decide) rfl (pa_cons (pv 0) (pa_cons (pe_lst (pa_cons pe_str (pa_cons pe_str (pa_cons pe_str (pa_cons pe_str (pa_cons pe_str pa_nil)))))) pa_nil))) pe_str))
      (pss_cons (ps_set (i := 3) sc_law_gate.nd rfl (Or.inl rfl) (C8.pe_c (c_law_draw T) hr (by decide) rfl (pa_cons (pv 0) (pa_cons (pv 1) pa_nil))))
      (pss_cons (ps_if (pt_cmpR op_eq (pv 2) pe_str (nomark _))
       (pss_one (ps_ret (pe_tup (pa_cons pe_str (pa_cons (pv 3) (pa_cons (C8.pe_c (c_law_pick T) hr (by decide) rfl (pa_cons (pv 0) (pa_cons (pe_lst (pa_cons pe_int (pa_cons pe_int (pa_cons (pe_un un_neg pe_int) (pa_cons pe_int (pa_cons (pe_un un_neg pe_int) (pa_cons pe_int (pa_cons (pe_op op_pow pe_int pe_int) pa_nil)))))))) pa_nil))) pa_nil))))))
       pss_nil)
      (pss_one (ps_ret (pe_tup (pa_cons (pv 2) (pa_cons (pv 3) (pa_cons (pe_op op_mod (pe_callTy call_int1 (by rfl) T.b_int (by decide +kernel) (pa_cons (pe_op op_add (pe_op op_add (pv 3) pe_int) (C8.pe_c (c_law_draw T) hr (by decide) rfl (pa_cons (pv 0) (pa_cons (pe_op op_sub (pv 1) pe_int) pa_nil)))) pa_nil)) (pv 1)) pa_nil))))))))), ?_⟩
    refine ⟨_, rfl, _, _, rfl, rfl, _, rfl, ?_⟩
    refine ite2 (fun c => ?_) (fun c => ?_)
    · have hn := of_decide_eq_true c
      refine ⟨_, rfl, by show 5 ≤ sizeLine; decide, fun b hb => ?_⟩
      refine ⟨upd H0 b _, a, b, _, rfl, W.ext hb, SqL.of upd_same, by show 1 ≤ 5; decide, by show 5 ≤ 1000; decide, fun H1' v W0 hv => ?_⟩
      have W1 := W0.back (Same.new (W.fresh hb))
      simp only [List.mem_cons, List.not_mem_nil, or_false] at hv
      rcases hv with rfl | rfl | rfl | rfl | rfl
      · -- low
        refine ⟨_, rfl, _, rfl, H0, a, (n : Int), rfl, W1, by omega, by omega, fun H2 d W2 d0 d1 => ?_⟩
        refine ⟨_, rfl, rfl, _, rfl, itF (by decide +kernel) ?_⟩
        refine ⟨_, rfl, _, rfl, _, rfl, _, _, rfl, rfl, _, rfl, _, rfl, _, _, rfl, rfl, H0, a, (n : Int) - 1, rfl, W2, by omega, by omega, fun H3 e W3 e0 e1 => ?_⟩
        refine ⟨_, _, rfl, rfl, .inl ⟨_, rfl, _, rfl, _, _, rfl, rfl, by omega, ?_⟩⟩
        refine ⟨by show 3 ≤ sizeLine; decide, fun t ht => ?_⟩
        obtain ⟨m0, m1, mne⟩ := mod_ne d0 d1 e0 (by omega : e < (n : Int) - 1)
        refine k _ _ t (.low d.toNat ((d + 1 + e) % n).toNat) (Same.new (W3.fresh ht)) (W3.ext ht) ⟨by omega, by omega, by omega⟩ rfl (SqT.of ?_)
        rw [upd_same]
        show some (HO.tup [V.str "low", V.int d, V.int ((d + 1 + e) % n)]) = some (HO.tup [V.str "low", V.int (d.toNat : Int), V.int (((d + 1 + e) % n).toNat : Int)])
        rw [Int.toNat_of_nonneg d0, Int.toNat_of_nonneg m0]
      · -- high
        refine ⟨_, rfl, _, rfl, H0, a, (n : Int), rfl, W1, by omega, by omega, fun H2 d W2 d0 d1 => ?_⟩
        refine ⟨_, rfl, rfl, _, rfl, itF (by decide +kernel) ?_⟩
        refine ⟨_, rfl, _, rfl, _, rfl, _, _, rfl, rfl, _, rfl, _, rfl, _, _, rfl, rfl, H0, a, (n : Int) - 1, rfl, W2, by omega, by omega, fun H3 e W3 e0 e1 => ?_⟩
        refine ⟨_, _, rfl, rfl, .inl ⟨_, rfl, _, rfl, _, _, rfl, rfl, by omega, ?_⟩⟩
        refine ⟨by show 3 ≤ sizeLine; decide, fun t ht => ?_⟩
        obtain ⟨m0, m1, mne⟩ := mod_ne d0 d1 e0 (by omega : e < (n : Int) - 1)
        refine k _ _ t (.high d.toNat ((d + 1 + e) % n).toNat) (Same.new (W3.fresh ht)) (W3.ext ht) ⟨by omega, by omega, by omega⟩ rfl (SqT.of ?_)
        rw [upd_same]
        show some (HO.tup [V.str "high", V.int d, V.int ((d + 1 + e) % n)]) = some (HO.tup [V.str "high", V.int (d.toNat : Int), V.int (((d + 1 + e) % n).toNat : Int)])
        rw [Int.toNat_of_nonneg d0, Int.toNat_of_nonneg m0]
      · -- sort
        refine ⟨_, rfl, _, rfl, H0, a, (n : Int), rfl, W1, by omega, by omega, fun H2 d W2 d0 d1 => ?_⟩
        refine ⟨_, rfl, rfl, _, rfl, itF (by decide +kernel) ?_⟩
        refine ⟨_, rfl, _, rfl, _, rfl, _, _, rfl, rfl, _, rfl, _, rfl, _, _, rfl, rfl, H0, a, (n : Int) - 1, rfl, W2, by omega, by omega, fun H3 e W3 e0 e1 => ?_⟩
        refine ⟨_, _, rfl, rfl, .inl ⟨_, rfl, _, rfl, _, _, rfl, rfl, by omega, ?_⟩⟩
        refine ⟨by show 3 ≤ sizeLine; decide, fun t ht => ?_⟩
        obtain ⟨m0, m1, mne⟩ := mod_ne d0 d1 e0 (by omega : e < (n : Int) - 1)
        refine k _ _ t (.sort d.toNat ((d + 1 + e) % n).toNat) (Same.new (W3.fresh ht)) (W3.ext ht) ⟨by omega, by omega, by omega⟩ rfl (SqT.of ?_)
        rw [upd_same]
        show some (HO.tup [V.str "sort", V.int d, V.int ((d + 1 + e) % n)]) = some (HO.tup [V.str "sort", V.int (d.toNat : Int), V.int (((d + 1 + e) % n).toNat : Int)])
        rw [Int.toNat_of_nonneg d0, Int.toNat_of_nonneg m0]
      · -- copy
        refine ⟨_, rfl, _, rfl, H0, a, (n : Int), rfl, W1, by omega, by omega, fun H2 d W2 d0 d1 => ?_⟩
        refine ⟨_, rfl, rfl, _, rfl, itF (by decide +kernel) ?_⟩
        refine ⟨_, rfl, _, rfl, _, rfl, _, _, rfl, rfl, _, rfl, _, rfl, _, _, rfl, rfl, H0, a, (n : Int) - 1, rfl, W2, by omega, by omega, fun H3 e W3 e0 e1 => ?_⟩
        refine ⟨_, _, rfl, rfl, .inl ⟨_, rfl, _, rfl, _, _, rfl, rfl, by omega, ?_⟩⟩
        refine ⟨by show 3 ≤ sizeLine; decide, fun t ht => ?_⟩
        obtain ⟨m0, m1, mne⟩ := mod_ne d0 d1 e0 (by omega : e < (n : Int) - 1)
        refine k _ _ t (.copy d.toNat ((d + 1 + e) % n).toNat) (Same.new (W3.fresh ht)) (W3.ext ht) ⟨by omega, by omega, by omega⟩ rfl (SqT.of ?_)
        rw [upd_same]
        show some (HO.tup [V.str "copy", V.int d, V.int ((d + 1 + e) % n)]) = some (HO.tup [V.str "copy", V.int (d.toNat : Int), V.int (((d + 1 + e) % n).toNat : Int)])
        rw [Int.toNat_of_nonneg d0, Int.toNat_of_nonneg m0]
      · -- add
        refine ⟨_, rfl, _, rfl, H0, a, (n : Int), rfl, W1, by omega, by omega, fun H2 d W2 d0 d1 => ?_⟩
        refine ⟨_, rfl, rfl, _, rfl, itT (by decide +kernel) ?_⟩
        refine ⟨_, rfl, _, rfl, _, rfl, _, rfl, _, _, rfl, rfl, ⟨by decide, by decide, by decide⟩, by show 7 ≤ sizeLine; decide, fun b hb => ?_⟩
        refine ⟨upd H0 b _, a, b, _, rfl, W2.ext hb, SqL.of upd_same, by show 1 ≤ 7; decide, by show 7 ≤ 1000; decide, fun H3 v W3 hv => ?_⟩
        have W4 := W3.back (Same.new (W2.fresh hb))
        obtain ⟨c, rfl, hc⟩ : ∃ c : Int, v = V.int c ∧ c.natAbs ≤ 10 ^ 20 := by
          simp only [List.mem_cons, List.not_mem_nil, or_false] at hv
          rcases hv with rfl | rfl | rfl | rfl | rfl | rfl | rfl <;> exact ⟨_, rfl, by decide +kernel⟩
        refine ⟨by show 3 ≤ sizeLine; decide, fun t ht => ?_⟩
        refine k _ _ t (.add d.toNat c) (Same.new (W4.fresh ht)) (W4.ext ht) (by show d.toNat < n; omega) (decide_eq_true hc) (SqT.of ?_)
        rw [upd_same]
        show some (HO.tup [V.str "add", V.int d, V.int c]) = some (HO.tup [V.str "add", V.int (d.toNat : Int), V.int c])
        rw [Int.toNat_of_nonneg d0]
    · have W1 := W
      refine ⟨_, rfl, _, rfl, H0, a, (n : Int), rfl, W1, by omega, by omega, fun H2 d W2 d0 d1 => ?_⟩
      refine ⟨_, rfl, rfl, _, rfl, itT (by decide +kernel) ?_⟩
      refine ⟨_, rfl, _, rfl, _, rfl, _, rfl, _, _, rfl, rfl, ⟨by decide, by decide, by decide⟩, by show 7 ≤ sizeLine; decide, fun b hb => ?_⟩
      refine ⟨upd H0 b _, a, b, _, rfl, W2.ext hb, SqL.of upd_same, by show 1 ≤ 7; decide, by show 7 ≤ 1000; decide, fun H3 v W3 hv => ?_⟩
      have W4 := W3.back (Same.new (W2.fresh hb))
      obtain ⟨c, rfl, hc⟩ : ∃ c : Int, v = V.int c ∧ c.natAbs ≤ 10 ^ 20 := by
        simp only [List.mem_cons, List.not_mem_nil, or_false] at hv
        rcases hv with rfl | rfl | rfl | rfl | rfl | rfl | rfl <;> exact ⟨_, rfl, by decide +kernel⟩
      refine ⟨by show 3 ≤ sizeLine; decide, fun t ht => ?_⟩
      refine k _ _ t (.add d.toNat c) (Same.new (W4.fresh ht)) (W4.ext ht) (by show d.toNat < n; omega) (decide_eq_true hc) (SqT.of ?_)
      rw [upd_same]
      show some (HO.tup [V.str "add", V.int d, V.int c]) = some (HO.tup [V.str "add", V.int (d.toNat : Int), V.int c])
      rw [Int.toNat_of_nonneg d0]
end
end LL

namespace LL
open PySem L2 PySem.Spec PyProof.Rows
def del (H : Hp) (D : Addr) : Hp := fun b => if b = D then none else H b
theorem del_ne {H : Hp} {b D : Addr} (n : b ≠ D) : del H D b = H b := if_neg n
theorem del_at {H : Hp} {D : Addr} : del H D D = none := if_pos rfl
theorem same_del {H0 H1 : Hp} {D : Addr} (s : Same H0 H1) (h : H0 D = none) : Same H0 (del H1 D) := fun b o e => by
  rw [del_ne (ne_of_none e h)]
  exact s _ _ e
theorem sqT_del {K : PySem.W.Frag} {H : Hp} {t D : Addr} {xs ys : List V} (h : SqT K H t xs) (hD : H D = some (.lst ys)) : SqT K (del H D) t xs := by
  rcases h with (h | ⟨o, h⟩) | h
  · exact .inl (.inl (by rw [del_ne (ne_of h hD (by intro z; cases z))]; exact h))
  · exact .inl (.inr ⟨o, by rw [del_ne (ne_of h hD (by intro z; cases z))]; exact h⟩)
  · exact .inr h
theorem wd_del {a D : Addr} {H1 H : Hp} {o : HO} (w : Wd a H1 H) (n : D ≠ a) : Wd a (del H1 D) (upd H D o) := by
  obtain ⟨p0, p1, e, q⟩ := w.pot
  refine ⟨fun b u h => ?_, by rw [del_ne n.symm]; exact w.off, p0, p1, by rw [upd_ne n.symm]; exact e, q⟩
  have nb : b ≠ D := fun z => by
    rw [z, del_at] at h
    cases h
  rw [del_ne nb] at h
  rw [upd_ne nb]
  exact w.same _ _ h
/-- a comprehension whose elements draw from the pot -/
theorem lc_pot {α : Type} {a : Addr} {R : Hp → V → α → Prop} {ok : Nat → α → Prop} (hR : ∀ H H' v y, Same H H' → R H v y → R H' v y) (hRd : ∀ H D ys v y, H D = some (.lst ys) → R H v y → R (del H D) v y)
    {J : It} {n : Nat} {G : Hp → Prop} {Y : Nat → Hp → V → Hp → Prop} (w : Walk J n G Y) {g : TG} {te : TE} {vs : List Nat} {σ : L2.St} {H0 H1 : Hp} {D : Addr} {Qd : Hp → Prop} (W : Wd a H0 H1) (hD : H1 D = none) (hsz : n ≤ 100000)
    (hG : ∀ H0' H, Same H0 H0' → Wd a H0' H → G H)
    (hs : ∀ i x H H' H0' (Q : VK), i < n → Same H0 H0' → Wd a H0' H → Y i H x H' → (∀ H0'' H3 y z, Same H0' H0'' → Wd a H0'' H3 → ok i z → R H0'' y z → Q y H3) → g x (wipe σ vs) H' fun σ2 H2 => wipe σ2 vs = wipe σ vs ∧ te σ2 H2 Q)
    (hd : ∀ H0' H zs xs, Same H0 H0' → Wd a H0' H → zs.length = n → (∀ (i : Nat) z, zs[i]? = some z → ok i z) → H0' D = some (.lst xs) → All2 (R H0') xs zs → Qd H) :
    ∃ W : Nat → Nat → Hp → Prop, (∃ m, W 0 m (upd H1 D (.lst []))) ∧ ∀ i m H, W i m H →
      (J.stop i H ∧ Qd H) ∨ (J.go i H ∧ ∃ Nx : Hp → Prop, (∀ H', Nx H' → ∃ m', m' < m ∧ W (i + 1) m' H') ∧ ∀ x H', J.yld i H x H' → g x (wipe σ vs) H' fun σ2 H2 => wipe σ2 vs = wipe σ vs ∧ tYes σ2 H2 fun b H3 =>
        if b = true then te σ2 H3 fun y H4 => ∃ acc, H4 D = some (.lst acc) ∧ acc.length < sizeLine ∧ Nx (upd H4 D (.lst (acc ++ [y]))) else Nx H3) := by
  have nDa := W.ne hD
  have D0 := W.fresh hD
  refine lc_it w (tt := tYes) (fun i H => ∃ H0' zs xs, Same H0 H0' ∧ Wd a H0' H ∧ H0' D = none ∧ H D = some (.lst xs) ∧ zs.length = i ∧ (∀ (i : Nat) z, zs[i]? = some z → ok i z) ∧ All2 (R H0') xs zs)
    ⟨H0, [], [], Same.refl _, W.new hD, D0, upd_same, rfl, fun i z h => by simp at h, All2.nil⟩ (fun i H _ ⟨H0', zs, xs, s, W', _⟩ => hG H0' H s W') (fun i x H H' hi p y => ?_) (fun H p => ?_)
  · obtain ⟨H0', zs, xs, s, W', d0, hx, hl, ho, hA⟩ := p
    have W2 := W'.know d0 nDa hx
    have q := hs i x H H' _ (fun y H4 => ∃ acc, H4 D = some (.lst acc) ∧ acc.length < sizeLine ∧ (∃ H0' zs xs, Same H0 H0' ∧ Wd a H0' (upd H4 D (.lst (acc ++ [y]))) ∧ H0' D = none ∧ upd H4 D (.lst (acc ++ [y])) D = some (.lst xs) ∧ zs.length = i + 1 ∧ (∀ (i : Nat) z, zs[i]? = some z → ok i z) ∧ All2 (R H0') xs zs)) hi (s.trans (Same.new d0)) W2 y
      (fun H0'' H3 y z s2 W3 hz hr => by
        have hD2 : H0'' D = some (.lst xs) := s2 _ _ upd_same
        refine ⟨xs, W3.same _ _ hD2, ?_, del H0'' D, zs ++ [z], _, ?_, wd_del W3 nDa, del_at, upd_same, by rw [List.length_append, hl]; rfl, fun j u hj => ?_, ?_⟩
        · rw [hA.1, hl]
          exact size100 (by omega)
        · exact same_del ((s.trans (Same.new d0)).trans s2) D0
        · rcases Nat.lt_trichotomy j zs.length with h | h | h
          · rw [List.getElem?_append_left h] at hj
            exact ho j u hj
          · subst h
            rw [List.getElem?_concat_length] at hj
            rw [← Option.some.inj hj, hl]
            exact hz
          · rw [List.getElem?_eq_none (by rw [List.length_append, List.length_singleton]; omega)] at hj
            cases hj
        · refine All2.snoc (hA.mono fun v u r => ?_) (hRd _ _ _ _ _ hD2 hr)
          exact hRd _ _ _ _ _ hD2 (hR _ _ _ _ ((Same.new d0).trans s2) r))
    exact q
  · obtain ⟨H0', zs, xs, s, W', d0, hx, hl, ho, hA⟩ := p
    exact hd _ H zs xs (s.trans (Same.new d0)) (W'.know d0 nDa hx) hl ho upd_same (hA.mono fun v u r => hR _ _ _ _ (Same.new d0) r)
theorem isG_del {K : PySem.W.Frag} {H : Hp} {D : Addr} {ys : List V} {v : V} {g : Gt} (hD : H D = some (.lst ys)) (h : IsG K H v g) : IsG K (del H D) v g := let ⟨t, e, q⟩ := h; ⟨t, e, sqT_del q hD⟩
section
variable {P : Program} {w : World} {K : PySem.W.Frag} {mg : Str → Option Value} {base : Heap} {C : Addr}
def sp_law_gates (K : PySem.W.Frag) : Sp := fun vs H Q _ => ∃ (H0 : Hp) (a : Addr) (n m : Nat), vs = [V.ref a, V.int n, V.int m] ∧ Wd a H0 H ∧ 1 ≤ n ∧ n ≤ 12 ∧ m ≤ 400 ∧
  ∀ H0' H' l (gs : List Gt), Same H0 H0' → Wd a H0' H' → (∀ g ∈ gs, g.ok n) → (∀ g ∈ gs, g.mild = true) → gs.length ≤ m → Gs K H0' l gs → Q (.ref l) H'
theorem c_law_gates (T : Txt K mg C) : C8.Cal P w K mg base 4 "_law_gates" (sp_law_gates K) [] := by
  refine T.d_law_gates.cal sc_law_gates (fun vs H Q E h => ?_) (fun f cdv A outer s H vs Q E hr h => ?_)
  · obtain ⟨H0, a, n, m, rfl, _⟩ := h
    rfl
  · obtain ⟨H0, a, n, m, rfl, W, h1, h2, hm, k⟩ := h
    refine ⟨_, (pss_one (ps_ret (pe_lc (own := [("_law_turn", 3)]) (g := (gName 3)) (tt := tYes) rfl sc_law_gates.nd (pi_range1 rfl T.b_range (pa_cons (C8.pe_c (c_law_draw T) hr (by decide) rfl (pa_cons (pv 0) (pa_cons (pe_op op_add (pv 2) pe_int) pa_nil))) pa_nil)) (blkOk_by (N := N_law_gates) (sc := C8.fnScope s_law_gates) (by decide +kernel)) (fun _ _ _ _ _ => (pg_name (i := 3) sc_law_gates.nd rfl (Or.inl rfl))) (fun _ _ _ _ _ => pts_nil) (fun _ _ _ _ _ => (C8.pe_c (c_law_gate T) hr (by decide) rfl (pa_cons (pv 0) (pa_cons (pv 1) pa_nil))))))), ?_⟩
    refine ⟨_, rfl, _, rfl, _, _, rfl, rfl, H0, a, (m : Int) + 1, rfl, W, by omega, by omega, fun H1 d W1 d0 d1 => ?_⟩
    refine ⟨d, rfl, by omega, by omega, fun D hD => lc_pot (R := IsG K) (ok := fun _ g => g.ok n ∧ g.mild = true) (fun _ _ _ _ s r => r.to s) (fun _ _ _ _ _ h r => isG_del h r) (n := d.toNat) (walk_range (lo := 0)) W1 hD (by omega) (fun _ _ _ _ => trivial) (fun i x H H' H0' Q' hi s W' y q => ?_) (fun H0' H' gs xs s W' hl ho hx hA => ?_)⟩
    · obtain ⟨rfl, rfl⟩ := y
      refine ⟨rfl, _, rfl, _, rfl, H0', a, n, rfl, W', h1, h2, fun H0'' H3 t g s2 W3 hg hm ht => q _ _ _ g s2 W3 ⟨hg, hm⟩ ⟨t, rfl, ht⟩⟩
    · have all : ∀ g ∈ gs, g.ok n ∧ g.mild = true := fun g hg => let ⟨i, hi⟩ := List.mem_iff_getElem?.mp hg; ho i g hi
      exact k _ _ D gs s W' (fun g hg => (all g hg).1) (fun g hg => (all g hg).2) (by omega) ⟨xs, SqL.of hx, hA⟩
end
end LL

namespace LL
open PySem L2 PySem.Spec PyProof.Rows
theorem ints_of_all2 : ∀ {xs : List V} {zs : List Int}, All2 (fun v z => v = V.int z) xs zs → xs = zs.map V.int
  | [], [], _ => rfl
  | [], _ :: _, h => by cases h.1
  | _ :: _, [], h => by cases h.1
  | x :: xs, z :: zs, h => by
    have e : x = V.int z := h.2 0 x z rfl rfl
    rw [e, ints_of_all2 (xs := xs) (zs := zs) ⟨Nat.succ.inj h.1, fun i u v h1 h2 => h.2 (i + 1) u v h1 h2⟩]
    rfl
section
variable {P : Program} {w : World} {K : PySem.W.Frag} {mg : Str → Option Value} {base : Heap} {C : Addr}
def sp_law_content (K : PySem.W.Frag) : Sp := fun vs H Q _ => ∃ (H0 : Hp) (a : Addr) (n : Nat), vs = [V.ref a, V.int n] ∧ Wd a H0 H ∧ n ≤ 12 ∧
  ∀ H0' H' l (ns : List Int), Same H0 H0' → Wd a H0' H' → ns.length = n → (∀ z ∈ ns, z.natAbs ≤ 10 ^ 30) → SqL K H0' l (ns.map V.int) → Q (.ref l) H'
theorem c_law_content (T : Txt K mg C) : C8.Cal P w K mg base 3 "_law_content" (sp_law_content K) [] := by
  refine T.d_law_content.cal sc_law_content (fun vs H Q E h => ?_) (fun f cdv A outer s H vs Q E hr h => ?_)
  · obtain ⟨H0, a, n, rfl, _⟩ := h
    rfl
  · obtain ⟨H0, a, n, rfl, W, hn, k⟩ := h
    refine ⟨_, (pss_cons (ps_set (i := 2) sc_law_content.nd rfl (Or.inr rfl) (C8.pe_c (c_law_pick T) hr (by decide) rfl (pa_cons (pv 0) (pa_cons (pe_lst (pa_cons pe_int (pa_cons pe_int (pa_cons pe_int (pa_cons pe_int (pa_cons (pe_op op_pow pe_int pe_int) pa_nil)))))) pa_nil))))
      (pss_cons (ps_if (pt_cmpR op_gt (pv 2) pe_int (nomark _))
       (pss_one (ps_ret (pe_lc (own := [("_law_lane", 3)]) (g := (gName 3)) (tt := tYes) rfl sc_law_content.nd (pi_range1 rfl T.b_range (pa_cons (pv 1) pa_nil)) (blkOk_by (N := N_law_content) (sc := C8.fnScope s_law_content) (by decide +kernel)) (fun _ _ _ _ _ => (pg_name (i := 3) sc_law_content.nd rfl (Or.inl rfl))) (fun _ _ _ _ _ => pts_nil) (fun _ _ _ _ _ => (pe_op op_sub (pe_op op_add (pe_op op_mul (pe_op op_sub (C8.pe_c (c_law_draw T) hr (by decide) rfl (pa_cons (pv 0) (pa_cons pe_int pa_nil))) pe_int) (pv 2)) (C8.pe_c (c_law_draw T) hr (by decide) rfl (pa_cons (pv 0) (pa_cons pe_int pa_nil)))) pe_int)))))
       pss_nil)
      (pss_one (ps_ret (pe_lc (own := [("_law_lane", 3)]) (g := (gName 3)) (tt := tYes) rfl sc_law_content.nd (pi_range1 rfl T.b_range (pa_cons (pv 1) pa_nil)) (blkOk_by (N := N_law_content) (sc := C8.fnScope s_law_content) (by decide +kernel)) (fun _ _ _ _ _ => (pg_name (i := 3) sc_law_content.nd rfl (Or.inl rfl))) (fun _ _ _ _ _ => pts_nil) (fun _ _ _ _ _ => (pe_op op_sub (C8.pe_c (c_law_draw T) hr (by decide) rfl (pa_cons (pv 0) (pa_cons (pe_op op_mul pe_int (pv 2)) pa_nil))) (pv 2)))))))), ?_⟩
    refine ⟨_, rfl, _, _, rfl, rfl, ⟨by decide, by decide, by decide⟩, by show 5 ≤ sizeLine; decide, fun b hb => ?_⟩
    refine ⟨upd H0 b _, a, b, _, rfl, W.ext hb, SqL.of upd_same, by show 1 ≤ 5; decide, by show 5 ≤ 1000; decide, fun H1 v W0 hv => ?_⟩
    have W1 := W0.back (Same.new (W.fresh hb))
    obtain ⟨z, rfl, hz, hzb⟩ : ∃ z : Int, v = V.int z ∧ (z ≤ 30 → 2 ≤ z) ∧ 0 ≤ z ∧ z ≤ 10 ^ 29 := by
      simp only [List.mem_cons, List.not_mem_nil, or_false] at hv
      rcases hv with rfl | rfl | rfl | rfl | rfl
      · exact ⟨_, rfl, by omega, by omega, by decide +kernel⟩
      · exact ⟨_, rfl, by omega, by omega, by decide +kernel⟩
      · exact ⟨_, rfl, by omega, by omega, by decide +kernel⟩
      · exact ⟨_, rfl, by omega, by omega, by decide +kernel⟩
      · exact ⟨_, rfl, fun h => absurd h (by decide +kernel), by decide +kernel, by decide +kernel⟩
    refine ⟨_, rfl, _, _, rfl, rfl, _, rfl, ?_⟩
    refine ite2 (fun c => ?_) (fun c => ?_)
    · refine ⟨_, rfl, (n : Int), rfl, by omega, by omega, fun D hD => lc_pot (R := fun _ v z => v = V.int z) (ok := fun _ z => z.natAbs ≤ 10 ^ 30) (fun _ _ _ _ _ r => r) (fun _ _ _ _ _ _ r => r) (n := n) (walk_range (lo := 0)) W1 hD (by omega) (fun _ _ _ _ => trivial) (fun i x H H' H0' Q' hi s W' y q => ?_) (fun H0' H' zs xs s W' hl ho hx hA => ?_)⟩
      · obtain ⟨rfl, rfl⟩ := y
        refine ⟨rfl, _, rfl, H0', a, 3, rfl, W', by decide, by decide, fun H2 d W2 d0 d1 => ?_⟩
        refine ⟨_, _, rfl, rfl, _, rfl, _, _, rfl, rfl, .inl ⟨by omega, by omega⟩, ?_⟩
        refine ⟨_, rfl, H0', a, 9, rfl, W2, by decide, by decide, fun H3 e W3 e0 e1 => ?_⟩
        exact ⟨_, _, rfl, rfl, _, _, rfl, rfl, q _ _ _ _ (Same.refl _) W3 (by rcases (show d = 0 ∨ d = 1 ∨ d = 2 by omega) with rfl | rfl | rfl <;> omega) rfl⟩
      · rw [ints_of_all2 hA] at hx
        exact k _ _ D zs s W' hl (fun z hz => let ⟨i, hi⟩ := List.mem_iff_getElem?.mp hz; ho i z hi) (SqL.of hx)
    · have hz2 : z ≤ 30 := by
        rw [decide_eq_true_eq] at c
        omega
      refine ⟨_, rfl, (n : Int), rfl, by omega, by omega, fun D hD => lc_pot (R := fun _ v z => v = V.int z) (ok := fun _ z => z.natAbs ≤ 10 ^ 30) (fun _ _ _ _ _ r => r) (fun _ _ _ _ _ _ r => r) (n := n) (walk_range (lo := 0)) W1 hD (by omega) (fun _ _ _ _ => trivial) (fun i x H H' H0' Q' hi s W' y q => ?_) (fun H0' H' zs xs s W' hl ho hx hA => ?_)⟩
      · obtain ⟨rfl, rfl⟩ := y
        have := hz hz2
        refine ⟨rfl, _, rfl, _, rfl, _, _, rfl, rfl, .inl ⟨by decide, by decide⟩, H0', a, 2 * z, rfl, W', by omega, by omega, fun H2 d W2 d0 d1 => ?_⟩
        exact ⟨_, rfl, _, _, rfl, rfl, q _ _ _ _ (Same.refl _) W2 (by omega) rfl⟩
      · rw [ints_of_all2 hA] at hx
        exact k _ _ D zs s W' hl (fun z hz => let ⟨i, hi⟩ := List.mem_iff_getElem?.mp hz; ho i z hi) (SqL.of hx)
end
end LL

namespace LL
open PySem L2 PySem.Spec PyProof.Rows
section
variable {P : Program} {w : World} {K : PySem.W.Frag} {mg : Str → Option Value} {base : Heap} {C : Addr}
def sp_law_pot (K : PySem.W.Frag) : Sp := fun vs H Q _ => ∃ (s : Addr) (is : List Int) (k : Nat), vs = [V.ref s, V.int k] ∧ SqL K H s (is.map V.int) ∧ k ≤ 2 ∧ ∀ H' a, Same H H' → H a = none → Pot H' a → Q (.ref a) H'
theorem c_law_pot (T : Txt K mg C) : C8.Cal P w K mg base 1 "_law_pot" (sp_law_pot K) [] := by
  refine T.d_law_pot.cal sc_law_pot (fun vs H Q E h => ?_) (fun f cdv A outer s H vs Q E hr h => ?_)
  · obtain ⟨s, is, k, rfl, _⟩ := h
    rfl
  · obtain ⟨sc, is, k, rfl, hs, hk, q⟩ := h
    refine ⟨_, (pss_cons (ps_set (i := 2) sc_law_pot.nd rfl (Or.inl rfl) (pe_ifExp (pt_cmpR op_lt (pv 1) (pe_callB call_len_seq (by rfl) T.b_len (by decide +kernel) (pa_cons (pv 0) pa_nil)) (nomark _)) (pe_callB call_abs (by rfl) T.b_abs (by decide +kernel) (pa_cons (pe_ix ix_list (pv 0) (pv 1) (fun _ _ => rfl)) pa_nil)) (pe_op op_add (pe_op op_mul pe_int (pv 1)) pe_int)))
      (pss_one (ps_ret (pe_lst (pa_cons (pe_callB (call_max2 rfl) (by rfl) T.b_max (by decide +kernel) (pa_cons pe_int (pa_cons (pe_op op_sub (pv 2) (pe_op op_pow pe_int pe_int)) pa_nil))) (pa_cons (pe_op op_add (pe_op op_mod (pe_callTy call_int1 (by rfl) T.b_int (by decide +kernel) (pa_cons (pe_op op_add (pe_op op_add (pe_op op_mul (pe_op op_mod (pe_callTy call_int1 (by rfl) T.b_int (by decide +kernel) (pa_cons (pv 2) pa_nil)) pe_int) pe_int) (pe_op op_mul pe_int (pv 1))) pe_int) pa_nil)) pe_int) pe_int) pa_nil)))))), ?_⟩
    refine ⟨_, rfl, _, rfl, sc, _, rfl, .inl hs, _, _, rfl, rfl, _, rfl, ?_⟩
    refine ite2 (fun c => ?_) (fun c => ?_)
    · have hk2 : k < is.length := by
        have := of_decide_eq_true c
        rw [List.length_map] at this
        omega
      refine ⟨_, rfl, _, rfl, sc, _, _, _, rfl, rfl, hs, int_atI hk2, _, rfl, ?_⟩
      refine ⟨_, rfl, _, _, rfl, rfl, ⟨by decide, by decide, by decide⟩, _, _, rfl, rfl, _, _, rfl, ?_⟩
      refine ⟨_, rfl, .inl ⟨_, rfl, _, _, rfl, rfl, by show (0 : Int) < 2147483497; decide, _, _, rfl, rfl, .inl ⟨?_, ?_⟩, _, rfl, _, _, rfl, rfl, .inl ⟨by decide, by decide⟩, _, _, rfl, rfl, _, _, rfl, rfl, .inl ⟨_, rfl, _, _, rfl, rfl, by show (0 : Int) < 2147483529; decide, _, _, rfl, rfl, ?_⟩⟩⟩
      · have := Int.emod_nonneg (if at0 is k < 0 then -at0 is k else at0 is k) (show (2147483497 : Int) ≠ 0 by decide)
        omega
      · have := Int.emod_lt_of_pos (if at0 is k < 0 then -at0 is k else at0 is k) (show (0 : Int) < 2147483497 by decide)
        omega
      refine ⟨by show 2 ≤ sizeLine; decide, fun a ha => q _ a (Same.new ha) ha ⟨_, _, upd_same, ?_, ?_, ?_⟩⟩
      · split <;> omega
      · have := Int.emod_nonneg (((if at0 is k < 0 then -at0 is k else at0 is k) % 2147483497 * 40039 + 6043 * (k : Int) + 47)) (show (2147483529 : Int) ≠ 0 by decide)
        omega
      · have := Int.emod_lt_of_pos (((if at0 is k < 0 then -at0 is k else at0 is k) % 2147483497 * 40039 + 6043 * (k : Int) + 47)) (show (0 : Int) < 2147483529 by decide)
        omega
    · refine ⟨_, rfl, _, _, rfl, rfl, .inl ⟨by decide, by decide⟩, _, _, rfl, rfl, ?_⟩
      refine ⟨_, rfl, _, _, rfl, rfl, ⟨by decide, by decide, by decide⟩, _, _, rfl, rfl, _, _, rfl, ?_⟩
      refine ⟨_, rfl, .inl ⟨_, rfl, _, _, rfl, rfl, by show (0 : Int) < 2147483497; decide, _, _, rfl, rfl, .inl ⟨?_, ?_⟩, _, rfl, _, _, rfl, rfl, .inl ⟨by decide, by decide⟩, _, _, rfl, rfl, _, _, rfl, rfl, .inl ⟨_, rfl, _, _, rfl, rfl, by show (0 : Int) < 2147483529; decide, _, _, rfl, rfl, ?_⟩⟩⟩
      · have := Int.emod_nonneg (181 * (k : Int) + 89) (show (2147483497 : Int) ≠ 0 by decide)
        omega
      · have := Int.emod_lt_of_pos (181 * (k : Int) + 89) (show (0 : Int) < 2147483497 by decide)
        omega
      refine ⟨by show 2 ≤ sizeLine; decide, fun a ha => q _ a (Same.new ha) ha ⟨_, _, upd_same, ?_, ?_, ?_⟩⟩
      · split <;> omega
      · have := Int.emod_nonneg (((181 * (k : Int) + 89) % 2147483497 * 40039 + 6043 * (k : Int) + 47)) (show (2147483529 : Int) ≠ 0 by decide)
        omega
      · have := Int.emod_lt_of_pos (((181 * (k : Int) + 89) % 2147483497 * 40039 + 6043 * (k : Int) + 47)) (show (0 : Int) < 2147483529 by decide)
        omega
end
end LL

namespace LL
open PySem L2 PySem.Spec PyProof.Rows
section
variable {P : Program} {w : World} {K : PySem.W.Frag} {mg : Str → Option Value} {base : Heap} {C : Addr}
def sp_law_done (K : PySem.W.Frag) : Sp := fun vs H Q _ => ∃ (t a : Addr) (g : Gt) (ns : List Int), vs = [V.ref t, V.ref a] ∧ SqT K H t g.vals ∧ SqL K H a (ns.map V.int) ∧ g.ok ns.length ∧ ∀ H' p, Same H H' → H p = none → H' p = some (.lst ((g.done ns).map V.int)) → Q (.ref p) H'
theorem c_law_done (T : Txt K mg C) : C8.Cal P w K mg base 1 "_law_done" (sp_law_done K) [] := by
  refine T.d_law_done.cal sc_law_done (fun vs H Q E h => ?_) (fun f cdv A outer s H vs Q E hr h => ?_)
  · obtain ⟨t, a, g, ns, rfl, _⟩ := h
    rfl
  · obtain ⟨t, a, g, ns, rfl, hg, ha, ho, k⟩ := h
    refine ⟨_, (pss_cons (ps_asg (pv 0) (pg_tup (n := 3) rfl (pgs_cons (pg_name (i := 2) sc_law_done.nd rfl (Or.inl rfl)) (pgs_cons (pg_name (i := 3) sc_law_done.nd rfl (Or.inl rfl)) (pgs_cons (pg_name (i := 4) sc_law_done.nd rfl (Or.inl rfl)) pgs_nil)))))
      (pss_cons (ps_set (i := 5) sc_law_done.nd rfl (Or.inl rfl) (pe_callTy call_list_of (by rfl) T.b_list (by decide +kernel) (pa_cons (pv 1) pa_nil)))
      (pss_cons (ps_if (pt_cmpR op_eq (pv 2) pe_str (nomark _))
       (pss_one (ps_asg (pe_op op_add (pe_ix ix_list (pv 1) (pv 3) (fun _ _ => rfl)) (pv 4)) (pg_sub (pv 5) (pv 3) set_list)))
       pss_nil)
      (pss_cons (ps_if (pt_cmpR op_eq (pv 2) pe_str (nomark _))
       (pss_one (ps_asg (pe_ix ix_list (pv 1) (pv 4) (fun _ _ => rfl)) (pg_sub (pv 5) (pv 3) set_list)))
       pss_nil)
      (pss_cons (ps_if (pt_cmpR op_in_seq (pv 2) (pe_lst (pa_cons pe_str (pa_cons pe_str pa_nil))) (by rfl))
       (pss_one (ps_asg (pe_callB (call_min2 rfl) (by rfl) T.b_min (by decide +kernel) (pa_cons (pe_ix ix_list (pv 1) (pv 3) (fun _ _ => rfl)) (pa_cons (pe_ix ix_list (pv 1) (pv 4) (fun _ _ => rfl)) pa_nil))) (pg_sub (pv 5) (pv 3) set_list)))
       pss_nil)
      (pss_cons (ps_if (pt_cmpR op_eq (pv 2) pe_str (nomark _))
       (pss_one (ps_asg (pe_callB (call_max2 rfl) (by rfl) T.b_max (by decide +kernel) (pa_cons (pe_ix ix_list (pv 1) (pv 3) (fun _ _ => rfl)) (pa_cons (pe_ix ix_list (pv 1) (pv 4) (fun _ _ => rfl)) pa_nil))) (pg_sub (pv 5) (pv 3) set_list)))
       pss_nil)
      (pss_cons (ps_if (pt_cmpR op_eq (pv 2) pe_str (nomark _))
       (pss_one (ps_asg (pe_callB (call_max2 rfl) (by rfl) T.b_max (by decide +kernel) (pa_cons (pe_ix ix_list (pv 1) (pv 3) (fun _ _ => rfl)) (pa_cons (pe_ix ix_list (pv 1) (pv 4) (fun _ _ => rfl)) pa_nil))) (pg_sub (pv 5) (pv 4) set_list)))
       pss_nil)
      (pss_one (ps_ret (pv 5)))))))))), ?_⟩
    cases g with
    | add i c =>
      have hi : i < ns.length := ho
      refine ⟨_, rfl, t, _, rfl, hg, rfl, _, _, rfl, _, _, rfl, _, _, rfl, rfl, ?_⟩
      refine ⟨_, rfl, a, _, rfl, .inl ha, fun p hp => ?_⟩
      have s1 : Same H (upd H p (.lst (ns.map V.int))) := Same.new hp
      refine ⟨_, rfl, rfl, _, rfl, ?_⟩
      refine itT (by decide +kernel) ?_
      refine ⟨_, rfl, _, rfl, a, _, _, _, rfl, rfl, s1.seq ha, int_atI hi, _, rfl, _, _, rfl, rfl, ?_⟩
      refine ⟨_, rfl, _, rfl, p, _, _, i, rfl, rfl, upd_same, ixN_nat (by rw [List.length_map]; exact hi), ?_⟩
      have s2 := s1.mut (p := p) (o := .lst ((ns.map V.int).set i (.int (at0 ns i + c)))) hp
      refine ⟨_, rfl, rfl, _, rfl, ?_⟩
      refine itF (by decide +kernel) ?_
      refine ⟨_, rfl, by show 2 ≤ sizeLine; decide, fun b hb => ?_⟩
      refine ⟨b, _, rfl, .inl (SqL.of upd_same), rfl, rfl, _, rfl, ?_⟩
      refine itF (by decide +kernel) ?_
      refine ⟨_, rfl, rfl, _, rfl, ?_⟩
      refine itF (by decide +kernel) ?_
      refine ⟨_, rfl, rfl, _, rfl, ?_⟩
      refine itF (by decide +kernel) ?_
      refine ⟨_, rfl, k _ p (s2.trans (Same.new hb)) hp ?_⟩
      rw [upd_ne (ne_of_none upd_same hb), upd_same, map_set_int]
      rfl
    | copy i j =>
      obtain ⟨hi, hj, hij⟩ := ho
      refine ⟨_, rfl, t, _, rfl, hg, rfl, _, _, rfl, _, _, rfl, _, _, rfl, rfl, ?_⟩
      refine ⟨_, rfl, a, _, rfl, .inl ha, fun p hp => ?_⟩
      have s1 : Same H (upd H p (.lst (ns.map V.int))) := Same.new hp
      refine ⟨_, rfl, rfl, _, rfl, ?_⟩
      refine itF (by decide +kernel) ?_
      refine ⟨_, rfl, rfl, _, rfl, ?_⟩
      refine itT (by decide +kernel) ?_
      refine ⟨_, rfl, _, rfl, a, _, _, _, rfl, rfl, s1.seq ha, int_atI hj, ?_⟩
      refine ⟨_, rfl, _, rfl, p, _, _, i, rfl, rfl, upd_same, ixN_nat (by rw [List.length_map]; exact hi), ?_⟩
      have s2 := s1.mut (p := p) (o := .lst ((ns.map V.int).set i (.int (at0 ns j)))) hp
      refine ⟨_, rfl, by show 2 ≤ sizeLine; decide, fun b hb => ?_⟩
      refine ⟨b, _, rfl, .inl (SqL.of upd_same), rfl, rfl, _, rfl, ?_⟩
      refine itF (by decide +kernel) ?_
      refine ⟨_, rfl, rfl, _, rfl, ?_⟩
      refine itF (by decide +kernel) ?_
      refine ⟨_, rfl, rfl, _, rfl, ?_⟩
      refine itF (by decide +kernel) ?_
      refine ⟨_, rfl, k _ p (s2.trans (Same.new hb)) hp ?_⟩
      rw [upd_ne (ne_of_none upd_same hb), upd_same, map_set_int]
      rfl
    | low i j =>
      obtain ⟨hi, hj, hij⟩ := ho
      refine ⟨_, rfl, t, _, rfl, hg, rfl, _, _, rfl, _, _, rfl, _, _, rfl, rfl, ?_⟩
      refine ⟨_, rfl, a, _, rfl, .inl ha, fun p hp => ?_⟩
      have s1 : Same H (upd H p (.lst (ns.map V.int))) := Same.new hp
      refine ⟨_, rfl, rfl, _, rfl, ?_⟩
      refine itF (by decide +kernel) ?_
      refine ⟨_, rfl, rfl, _, rfl, ?_⟩
      refine itF (by decide +kernel) ?_
      refine ⟨_, rfl, by show 2 ≤ sizeLine; decide, fun b hb => ?_⟩
      refine ⟨b, _, rfl, .inl (SqL.of upd_same), rfl, rfl, _, rfl, ?_⟩
      refine itT (by decide +kernel) ?_
      have npb := ne_of_none upd_same hb
      have s2 := s1.trans (Same.new (o := .lst [.str "low", .str "sort"]) hb)
      refine ⟨_, rfl, _, rfl, a, _, _, _, rfl, rfl, s2.seq ha, int_atI hi, _, rfl, _, rfl, a, _, _, _, rfl, rfl, s2.seq ha, int_atI hj, _, _, rfl, ?_⟩
      refine ⟨_, rfl, _, rfl, p, _, _, i, rfl, rfl, (by rw [upd_ne npb]; exact upd_same), ixN_nat (by rw [List.length_map]; exact hi), ?_⟩
      refine ⟨_, rfl, rfl, _, rfl, ?_⟩
      refine itF (by decide +kernel) ?_
      refine ⟨_, rfl, rfl, _, rfl, ?_⟩
      refine itF (by decide +kernel) ?_
      refine ⟨_, rfl, k _ p (s2.mut hp) hp ?_⟩
      rw [upd_same, map_set_int]
      rfl
    | high i j =>
      obtain ⟨hi, hj, hij⟩ := ho
      refine ⟨_, rfl, t, _, rfl, hg, rfl, _, _, rfl, _, _, rfl, _, _, rfl, rfl, ?_⟩
      refine ⟨_, rfl, a, _, rfl, .inl ha, fun p hp => ?_⟩
      have s1 : Same H (upd H p (.lst (ns.map V.int))) := Same.new hp
      refine ⟨_, rfl, rfl, _, rfl, ?_⟩
      refine itF (by decide +kernel) ?_
      refine ⟨_, rfl, rfl, _, rfl, ?_⟩
      refine itF (by decide +kernel) ?_
      refine ⟨_, rfl, by show 2 ≤ sizeLine; decide, fun b hb => ?_⟩
      refine ⟨b, _, rfl, .inl (SqL.of upd_same), rfl, rfl, _, rfl, ?_⟩
      refine itF (by decide +kernel) ?_
      have npb := ne_of_none upd_same hb
      have s2 := s1.trans (Same.new (o := .lst [.str "low", .str "sort"]) hb)
      refine ⟨_, rfl, rfl, _, rfl, ?_⟩
      refine itT (by decide +kernel) ?_
      refine ⟨_, rfl, _, rfl, a, _, _, _, rfl, rfl, s2.seq ha, int_atI hi, _, rfl, _, rfl, a, _, _, _, rfl, rfl, s2.seq ha, int_atI hj, _, _, rfl, ?_⟩
      refine ⟨_, rfl, _, rfl, p, _, _, i, rfl, rfl, (by rw [upd_ne npb]; exact upd_same), ixN_nat (by rw [List.length_map]; exact hi), ?_⟩
      refine ⟨_, rfl, rfl, _, rfl, ?_⟩
      refine itF (by decide +kernel) ?_
      refine ⟨_, rfl, k _ p (s2.mut hp) hp ?_⟩
      rw [upd_same, map_set_int]
      rfl
    | sort i j =>
      obtain ⟨hi, hj, hij⟩ := ho
      refine ⟨_, rfl, t, _, rfl, hg, rfl, _, _, rfl, _, _, rfl, _, _, rfl, rfl, ?_⟩
      refine ⟨_, rfl, a, _, rfl, .inl ha, fun p hp => ?_⟩
      have s1 : Same H (upd H p (.lst (ns.map V.int))) := Same.new hp
      refine ⟨_, rfl, rfl, _, rfl, ?_⟩
      refine itF (by decide +kernel) ?_
      refine ⟨_, rfl, rfl, _, rfl, ?_⟩
      refine itF (by decide +kernel) ?_
      refine ⟨_, rfl, by show 2 ≤ sizeLine; decide, fun b hb => ?_⟩
      refine ⟨b, _, rfl, .inl (SqL.of upd_same), rfl, rfl, _, rfl, ?_⟩
      refine itT (by decide +kernel) ?_
      have npb := ne_of_none upd_same hb
      have s2 := s1.trans (Same.new (o := .lst [.str "low", .str "sort"]) hb)
      refine ⟨_, rfl, _, rfl, a, _, _, _, rfl, rfl, s2.seq ha, int_atI hi, _, rfl, _, rfl, a, _, _, _, rfl, rfl, s2.seq ha, int_atI hj, _, _, rfl, ?_⟩
      refine ⟨_, rfl, _, rfl, p, _, _, i, rfl, rfl, (by rw [upd_ne npb]; exact upd_same), ixN_nat (by rw [List.length_map]; exact hi), ?_⟩
      have s3 := s2.mut (p := p) (o := .lst ((ns.map V.int).set i (.int (mn (at0 ns i) (at0 ns j))))) hp
      refine ⟨_, rfl, rfl, _, rfl, ?_⟩
      refine itF (by decide +kernel) ?_
      refine ⟨_, rfl, rfl, _, rfl, ?_⟩
      refine itT (by decide +kernel) ?_
      refine ⟨_, rfl, _, rfl, a, _, _, _, rfl, rfl, s3.seq ha, int_atI hi, _, rfl, _, rfl, a, _, _, _, rfl, rfl, s3.seq ha, int_atI hj, _, _, rfl, ?_⟩
      refine ⟨_, rfl, _, rfl, p, _, _, j, rfl, rfl, upd_same, ixN_nat (by rw [List.length_set, List.length_map]; exact hj), ?_⟩
      refine ⟨_, rfl, k _ p (s3.mut hp) hp ?_⟩
      rw [upd_same, map_set_int, map_set_int]
      rfl
end
end LL

namespace LL
open PySem L2 PySem.Spec PyProof.Rows
section
variable {P : Program} {w : World} {K : PySem.W.Frag} {mg : Str → Option Value} {base : Heap} {C : Addr}
def sp_law_run (K : PySem.W.Frag) : Sp := fun vs H Q _ => ∃ (l a : Addr) (gs : List Gt) (ns : List Int), vs = [V.ref l, V.ref a] ∧ Gs K H l gs ∧ SqL K H a (ns.map V.int) ∧ (∀ g ∈ gs, g.ok ns.length) ∧ gs.length ≤ 400 ∧ ∀ H' r, Same H H' → NewRows H H' r (rowsOf gs ns) → Q (.ref r) H'
theorem c_law_run (T : Txt K mg C) : C8.Cal P w K mg base 2 "_law_run" (sp_law_run K) [] := by
  refine T.d_law_run.cal sc_law_run (fun vs H Q E h => ?_) (fun f cdv A outer s H vs Q E hr h => ?_)
  · obtain ⟨l, a, gs, ns, rfl, _⟩ := h
    rfl
  · obtain ⟨l, a, gs, ns, rfl, ⟨xs, hS, hA⟩, ha, ho, hf, k⟩ := h
    refine ⟨_, (pss_cons (ps_set (i := 2) sc_law_run.nd rfl (Or.inl rfl) (pe_lst (pa_cons (pe_callTy call_list_of (by rfl) T.b_list (by decide +kernel) (pa_cons (pv 1) pa_nil)) pa_nil)))
      (pss_cons (ps_for PassesOwn.never rfl (pi_list (pv 0)) (pg_name (i := 3) sc_law_run.nd rfl (Or.inl rfl))
       (pss_one (ps_expr (pe_bm PySem.F.plainAttrs_list PySem.F.slot_list_append PySem.F.type_list_append mt_append (pv 2) (pa_cons (C8.pe_c (c_law_done T) hr (by decide) rfl (pa_cons (pv 3) (pa_cons (pe_ix ix_list (pv 2) (pe_un un_neg pe_int) (fun _ _ => rfl)) pa_nil))) pa_nil)))))
      (pss_one (ps_ret (pv 2))))), ?_⟩
    refine ⟨_, rfl, a, _, rfl, .inl ha, fun b hb => ?_⟩
    refine ⟨by show 1 ≤ sizeLine; decide, fun r hrr => ?_⟩
    have g0 := Grow.start (Same.refl H) hb hrr
    have s2 : Same H (upd (upd H b (.lst (ns.map V.int))) r (.lst [.ref b])) := (Same.new (o := .lst (ns.map V.int)) hb).trans (Same.new (o := .lst [.ref b]) hrr)
    refine ⟨_, rfl, l, rfl, ⟨_, s2.seq hS⟩, ?_⟩
    refine for_it walk_list (fun i σ H' => Same H H' ∧ ∃ b v, Grow H H' r b ((List.range i).map fun k => runs (gs.take k) ns) (runs (gs.take i) ns) ∧ σ = [some (.ref l), some (.ref a), some (.ref r), v]) ⟨s2, b, none, g0, rfl⟩ (fun i σ H' _ z => z.1.seq hS) (fun i x σ H2 H3 hi z y => ?_) (fun σ H2 z => ?_)
    · obtain ⟨s4, b4, v, G, rfl⟩ := z
      obtain ⟨rfl, hx⟩ := y
      obtain ⟨g, hg, t, rfl, ht⟩ := hA.get hx
      obtain ⟨ys, hr4, _⟩ := G.2.2.2.2
      refine ⟨_, rfl, .inl ⟨rfl, _, SqL.of hr4⟩, ?_⟩
      refine ⟨_, rfl, _, rfl, _, rfl, r, _, _, _, rfl, rfl, SqL.of hr4, atI_end _ _, ?_⟩
      refine ⟨t, b4, g, _, rfl, s4.seqT ht, SqL.of G.2.2.2.1, (by rw [runs_length]; exact ho g (List.mem_of_getElem? hg)), fun H5 q5 s5 hq5 h5 => ?_⟩
      obtain ⟨zs, hz, hzl, G5⟩ := G.step s4 s5 hq5 h5
      refine ⟨r, zs, _, rfl, rfl, hz, ?_, ?_⟩
      · rw [hzl, List.length_map, List.length_range]
        rw [hA.1] at hi
        exact size100 (by omega)
      · refine ⟨(s4.trans s5).mut G.1, q5, _, ?_, rfl⟩
        rw [rows_snoc, runs_take_succ hg]
        exact G5
    · obtain ⟨s4, b4, v, G, rfl⟩ := z
      refine ⟨_, rfl, k _ r s4 ?_⟩
      have e := G.new
      rw [← rows_snoc (fun k => runs (gs.take k) ns), hA.1] at e
      exact e
theorem rows_last {gs : List Gt} {ns : List Int} {xs : List V} {H H' : Hp} (hA : All2 (IsN H H') xs (rowsOf gs ns)) : ∃ b, atI xs (-1) = some (.ref b) ∧ H b = none ∧ H' b = some (.lst ((runs gs ns).map V.int)) := by
  have hl : xs.length = gs.length + 1 := by
    rw [hA.1]
    unfold rowsOf
    rw [List.length_map, List.length_range]
  have hv : xs[gs.length]? = some xs[gs.length] := List.getElem?_eq_getElem (by omega)
  obtain ⟨b, e, b0, b1⟩ := hA.2 gs.length _ (runs gs ns) hv (by unfold rowsOf; rw [List.getElem?_map, List.getElem?_range (by omega)]; show some (runs (gs.take gs.length) ns) = _; rw [List.take_length])
  refine ⟨b, ?_, b0, b1⟩
  unfold atI ixN
  rw [if_neg (by decide), if_pos (by omega)]
  show xs[((-1 : Int) + (xs.length : Int)).toNat]? = _
  rw [show ((-1 : Int) + (xs.length : Int)).toNat = gs.length by omega, hv, e]
end
end LL

namespace LL
open PySem L2 PySem.Spec PyProof.Rows
/-- a comprehension of new things -/
theorem lc_rel {α : Type} {R : Hp → V → α → Prop} (hR : ∀ H H' v y, Same H H' → R H v y → R H' v y) {J : It} {n : Nat} {G : Hp → Prop} {Y : Nat → Hp → V → Hp → Prop} (w : Walk J n G Y) {g : TG} {te : TE} {vs : List Nat} {σ : L2.St} {H1 : Hp} {D : Addr} {Qd : Hp → Prop}
    (zs : List α) (hn : zs.length = n) (hD : H1 D = none) (hsz : n ≤ 100000) (hG : ∀ H, Same H1 H → G H)
    (hs : ∀ i x H H' (Q : VK), i < n → Same H1 H → (∃ ys, H D = some (.lst ys)) → Y i H x H' → (∀ y z H3, zs[i]? = some z → Same H H3 → R (del H3 D) y z → Q y H3) → g x (wipe σ vs) H' fun σ2 H2 => wipe σ2 vs = wipe σ vs ∧ te σ2 H2 Q)
    (hd : ∀ H xs, Same H1 H → H D = some (.lst xs) → All2 (R H) xs zs → Qd H) :
    ∃ W : Nat → Nat → Hp → Prop, (∃ m, W 0 m (upd H1 D (.lst []))) ∧ ∀ i m H, W i m H →
      (J.stop i H ∧ Qd H) ∨ (J.go i H ∧ ∃ Nx : Hp → Prop, (∀ H', Nx H' → ∃ m', m' < m ∧ W (i + 1) m' H') ∧ ∀ x H', J.yld i H x H' → g x (wipe σ vs) H' fun σ2 H2 => wipe σ2 vs = wipe σ vs ∧ tYes σ2 H2 fun b H3 =>
        if b = true then te σ2 H3 fun y H4 => ∃ acc, H4 D = some (.lst acc) ∧ acc.length < sizeLine ∧ Nx (upd H4 D (.lst (acc ++ [y]))) else Nx H3) := by
  refine lc_it w (tt := tYes) (fun i H => Same H1 H ∧ ∃ xs, H D = some (.lst xs) ∧ All2 (R (del H D)) xs (zs.take i)) ⟨Same.new hD, [], upd_same, by rw [List.take_zero]; exact All2.nil⟩ (fun i H _ p => hG H p.1) (fun i x H H' hi p y => ?_) (fun H p => ?_)
  · obtain ⟨s, xs, hx, hA⟩ := p
    have q := hs i x H H' (fun y H4 => ∃ acc, H4 D = some (.lst acc) ∧ acc.length < sizeLine ∧ (Same H1 (upd H4 D (.lst (acc ++ [y]))) ∧ ∃ xs, upd H4 D (.lst (acc ++ [y])) D = some (.lst xs) ∧ All2 (R (del (upd H4 D (.lst (acc ++ [y]))) D)) xs (zs.take (i + 1)))) hi s ⟨xs, hx⟩ y
      (fun y z H3 hz s3 hr => by
        have e : del (upd H3 D (.lst (xs ++ [y]))) D = del H3 D := by
          funext b
          by_cases hb : b = D
          · rw [hb, del_at, del_at]
          · rw [del_ne hb, del_ne hb, upd_ne hb]
        have sd : Same (del H D) (del H3 D) := fun b o h => by
          have hb : b ≠ D := fun z => by
            rw [z, del_at] at h
            cases h
          rw [del_ne hb] at h ⊢
          exact s3 _ _ h
        refine ⟨xs, s3 _ _ hx, size100 ?_, (s.trans s3).mut hD, _, upd_same, ?_⟩
        · rw [hA.1, List.length_take]
          omega
        · rw [e, List.take_add_one, hz]
          exact (hA.mono fun v u r => hR _ _ _ _ sd r).snoc hr)
    exact q
  · obtain ⟨s, xs, hx, hA⟩ := p
    have sd : Same (del H D) H := fun b o h => by
      have hb : b ≠ D := fun z => by
        rw [z, del_at] at h
        cases h
      rw [del_ne hb] at h
      exact h
    rw [← hn, List.take_length] at hA
    exact hd H xs s hx (hA.mono fun v u r => hR _ _ _ _ sd r)
end LL

namespace LL
open PySem L2 PySem.Spec PyProof.Rows
theorem del_keep {H : Hp} {a b : Addr} {o : HO} (h : H b = some o) (n : b ≠ a) : del H a b = some o := by rw [del_ne n]; exact h
/-! ### gates turned about, renumbered -/
def ord (os : List Nat) (i : Nat) : Nat := os.getD i 0
def Gt.tn : Gt → Gt
  | .low i j => .high i j
  | .high i j => .low i j
  | .sort i j => .sort j i
  | .copy i j => .copy i j
  | .add i c => .add i (-c)
def Gt.mv (os : List Nat) : Gt → Gt
  | .low i j => .low (ord os i) (ord os j)
  | .high i j => .high (ord os i) (ord os j)
  | .sort i j => .sort (ord os i) (ord os j)
  | .copy i j => .copy (ord os i) (ord os j)
  | .add i c => .add (ord os i) c
theorem tn_ok {g : Gt} {n : Nat} (h : g.ok n) : g.tn.ok n := by
  cases g with
  | add i c => exact h
  | sort i j => exact ⟨h.2.1, h.1, h.2.2.symm⟩
  | low i j => exact h
  | high i j => exact h
  | copy i j => exact h
theorem ord_at {os : List Nat} {i : Nat} (h : i < os.length) : ((intsN os).map V.int)[i]? = some (.int (ord os i : Nat)) := by
  unfold ord
  rw [List.getElem?_map, List.getElem?_map, List.getElem?_eq_getElem h, List.getD_eq_getElem?_getD, List.getElem?_eq_getElem h]
  rfl
theorem ord_mem {os : List Nat} {i : Nat} (h : i < os.length) : ord os i ∈ os := by
  unfold ord
  rw [List.getD_eq_getElem?_getD, List.getElem?_eq_getElem h]
  exact List.getElem_mem h
theorem ord_inj {os : List Nat} {n : Nat} (ho : IsOrd os n) {i j : Nat} (hi : i < n) (hj : j < n) (e : ord os i = ord os j) : i = j := by
  have nd : os.Nodup := ho.nodup_iff.mpr List.nodup_range
  have hl := ho.len
  unfold ord at e
  rw [List.getD_eq_getElem?_getD, List.getD_eq_getElem?_getD, List.getElem?_eq_getElem (show i < os.length by omega), List.getElem?_eq_getElem (show j < os.length by omega)] at e
  have e : os[i]'(by omega) = os[j]'(by omega) := e
  have nd' := List.pairwise_iff_getElem.mp nd
  rcases Nat.lt_trichotomy i j with h | h | h
  · exact absurd e (nd' i j (by omega) (by omega) h)
  · exact h
  · exact absurd e.symm (nd' j i (by omega) (by omega) h)
theorem mv_ok {g : Gt} {n : Nat} {os : List Nat} (ho : IsOrd os n) (h : g.ok n) : (g.mv os).ok n := by
  have lt : ∀ {i}, i < n → ord os i < n := fun hi => ho.lt (ord_mem (by rw [ho.len]; exact hi))
  have two : ∀ {i j}, (i < n ∧ j < n ∧ i ≠ j) → ord os i < n ∧ ord os j < n ∧ ord os i ≠ ord os j := fun ⟨a, b, c⟩ => ⟨lt a, lt b, fun e => c (ord_inj ho a b e)⟩
  cases g with
  | add i c => exact lt h
  | sort i j => exact two h
  | low i j => exact two h
  | high i j => exact two h
  | copy i j => exact two h
section
variable {P : Program} {w : World} {K : PySem.W.Frag} {mg : Str → Option Value} {base : Heap} {C : Addr}
def sp_turned_gate (K : PySem.W.Frag) : Sp := fun vs H Q _ => ∃ (t : Addr) (g : Gt), vs = [V.ref t] ∧ SqT K H t g.vals ∧ ∀ H' t', Same H H' → (∀ D xs, H D = some (.lst xs) → SqT K (del H' D) t' g.tn.vals) → Q (.ref t') H'
theorem c_turned_gate (T : Txt K mg C) : C8.Cal P w K mg base 1 "turned_gate" (sp_turned_gate K) [] := by
  refine T.d_turned_gate.cal sc_turned_gate (fun vs H Q E h => ?_) (fun f cdv A outer s H vs Q E hr h => ?_)
  · obtain ⟨t, g, rfl, _⟩ := h
    rfl
  · obtain ⟨t, g, rfl, hg, k⟩ := h
    refine ⟨_, (pss_cons (ps_asg (pv 0) (pg_tup (n := 3) rfl (pgs_cons (pg_name (i := 1) sc_turned_gate.nd rfl (Or.inl rfl)) (pgs_cons (pg_name (i := 2) sc_turned_gate.nd rfl (Or.inl rfl)) (pgs_cons (pg_name (i := 3) sc_turned_gate.nd rfl (Or.inl rfl)) pgs_nil)))))
      (pss_cons (ps_if (pt_cmpR op_eq (pv 1) pe_str (nomark _))
       (pss_one (ps_ret (pe_tup (pa_cons pe_str (pa_cons (pv 2) (pa_cons (pv 3) pa_nil))))))
       pss_nil)
      (pss_cons (ps_if (pt_cmpR op_eq (pv 1) pe_str (nomark _))
       (pss_one (ps_ret (pe_tup (pa_cons pe_str (pa_cons (pv 2) (pa_cons (pv 3) pa_nil))))))
       pss_nil)
      (pss_cons (ps_if (pt_cmpR op_eq (pv 1) pe_str (nomark _))
       (pss_one (ps_ret (pe_tup (pa_cons pe_str (pa_cons (pv 3) (pa_cons (pv 2) pa_nil))))))
       pss_nil)
      (pss_cons (ps_if (pt_cmpR op_eq (pv 1) pe_str (nomark _))
       (pss_one (ps_ret (pe_tup (pa_cons pe_str (pa_cons (pv 2) (pa_cons (pe_un un_neg (pv 3)) pa_nil))))))
       pss_nil)
      (pss_one (ps_ret (pv 0)))))))), ?_⟩
    have new : ∀ {p : Addr} {ys : List V}, H p = none → ∀ D xs, H D = some (.lst xs) → SqT K (del (upd H p (.tup ys)) D) p ys := fun {p ys} hp D xs hD => SqT.of (del_keep (by rw [upd_same]) (ne_of_none hD hp).symm)
    cases g with
    | low i j =>
      refine ⟨_, rfl, t, _, rfl, hg, rfl, _, _, rfl, _, _, rfl, _, _, rfl, rfl, ?_⟩
      refine ⟨_, rfl, rfl, _, rfl, itT (by decide +kernel) ?_⟩
      exact ⟨_, rfl, _, rfl, by show 3 ≤ sizeLine; decide, fun p hp => k _ p (Same.new hp) (new hp)⟩
    | high i j =>
      refine ⟨_, rfl, t, _, rfl, hg, rfl, _, _, rfl, _, _, rfl, _, _, rfl, rfl, ?_⟩
      refine ⟨_, rfl, rfl, _, rfl, itF (by decide +kernel) ?_⟩
      refine ⟨_, rfl, rfl, _, rfl, itT (by decide +kernel) ?_⟩
      exact ⟨_, rfl, _, rfl, by show 3 ≤ sizeLine; decide, fun p hp => k _ p (Same.new hp) (new hp)⟩
    | sort i j =>
      refine ⟨_, rfl, t, _, rfl, hg, rfl, _, _, rfl, _, _, rfl, _, _, rfl, rfl, ?_⟩
      refine ⟨_, rfl, rfl, _, rfl, itF (by decide +kernel) ?_⟩
      refine ⟨_, rfl, rfl, _, rfl, itF (by decide +kernel) ?_⟩
      refine ⟨_, rfl, rfl, _, rfl, itT (by decide +kernel) ?_⟩
      exact ⟨_, rfl, _, rfl, by show 3 ≤ sizeLine; decide, fun p hp => k _ p (Same.new hp) (new hp)⟩
    | add i c =>
      refine ⟨_, rfl, t, _, rfl, hg, rfl, _, _, rfl, _, _, rfl, _, _, rfl, rfl, ?_⟩
      refine ⟨_, rfl, rfl, _, rfl, itF (by decide +kernel) ?_⟩
      refine ⟨_, rfl, rfl, _, rfl, itF (by decide +kernel) ?_⟩
      refine ⟨_, rfl, rfl, _, rfl, itF (by decide +kernel) ?_⟩
      refine ⟨_, rfl, rfl, _, rfl, itT (by decide +kernel) ?_⟩
      exact ⟨_, rfl, _, rfl, _, rfl, by show 3 ≤ sizeLine; decide, fun p hp => k _ p (Same.new hp) (new hp)⟩
    | copy i j =>
      refine ⟨_, rfl, t, _, rfl, hg, rfl, _, _, rfl, _, _, rfl, _, _, rfl, rfl, ?_⟩
      refine ⟨_, rfl, rfl, _, rfl, itF (by decide +kernel) ?_⟩
      refine ⟨_, rfl, rfl, _, rfl, itF (by decide +kernel) ?_⟩
      refine ⟨_, rfl, rfl, _, rfl, itF (by decide +kernel) ?_⟩
      refine ⟨_, rfl, rfl, _, rfl, itF (by decide +kernel) ?_⟩
      exact ⟨_, rfl, k _ t (Same.refl _) fun D xs hD => sqT_del hg hD⟩
def sp_gate_moved (K : PySem.W.Frag) : Sp := fun vs H Q _ => ∃ (t o : Addr) (g : Gt) (os : List Nat), vs = [V.ref t, V.ref o] ∧ SqT K H t g.vals ∧ SqL K H o ((intsN os).map V.int) ∧ g.ok os.length ∧ ∀ H' t', Same H H' → (∀ D xs, H D = some (.lst xs) → SqT K (del H' D) t' (g.mv os).vals) → Q (.ref t') H'
theorem c_gate_moved (T : Txt K mg C) : C8.Cal P w K mg base 1 "gate_moved" (sp_gate_moved K) [] := by
  refine T.d_gate_moved.cal sc_gate_moved (fun vs H Q E h => ?_) (fun f cdv A outer s H vs Q E hr h => ?_)
  · obtain ⟨t, o, g, os, rfl, _⟩ := h
    rfl
  · obtain ⟨t, o, g, os, rfl, hg, hO, ho, k⟩ := h
    refine ⟨_, (pss_cons (ps_asg (pv 0) (pg_tup (n := 3) rfl (pgs_cons (pg_name (i := 2) sc_gate_moved.nd rfl (Or.inl rfl)) (pgs_cons (pg_name (i := 3) sc_gate_moved.nd rfl (Or.inl rfl)) (pgs_cons (pg_name (i := 4) sc_gate_moved.nd rfl (Or.inl rfl)) pgs_nil)))))
      (pss_cons (ps_if (pt_cmpR op_eq (pv 2) pe_str (nomark _))
       (pss_one (ps_ret (pe_tup (pa_cons pe_str (pa_cons (pe_ix ix_list (pv 1) (pv 3) (fun _ _ => rfl)) (pa_cons (pv 4) pa_nil))))))
       pss_nil)
      (pss_one (ps_ret (pe_tup (pa_cons (pv 2) (pa_cons (pe_ix ix_list (pv 1) (pv 3) (fun _ _ => rfl)) (pa_cons (pe_ix ix_list (pv 1) (pv 4) (fun _ _ => rfl)) pa_nil)))))))), ?_⟩
    have new : ∀ {p : Addr} {ys : List V}, H p = none → ∀ D xs, H D = some (.lst xs) → SqT K (del (upd H p (.tup ys)) D) p ys := fun {p ys} hp D xs hD => SqT.of (del_keep (by rw [upd_same]) (ne_of_none hD hp).symm)
    cases g with
    | add i c =>
      have hi : i < os.length := ho
      refine ⟨_, rfl, t, _, rfl, hg, rfl, _, _, rfl, _, _, rfl, _, _, rfl, rfl, ?_⟩
      refine ⟨_, rfl, rfl, _, rfl, itT (by decide +kernel) ?_⟩
      exact ⟨_, rfl, _, rfl, o, _, _, _, rfl, rfl, hO, atI_nat (ord_at hi), _, rfl, by show 3 ≤ sizeLine; decide, fun p hp => k _ p (Same.new hp) (new hp)⟩
    | low i j =>
      obtain ⟨hi, hj, hij⟩ := ho
      refine ⟨_, rfl, t, _, rfl, hg, rfl, _, _, rfl, _, _, rfl, _, _, rfl, rfl, ?_⟩
      refine ⟨_, rfl, rfl, _, rfl, itF (by decide +kernel) ?_⟩
      exact ⟨_, rfl, _, rfl, _, rfl, o, _, _, _, rfl, rfl, hO, atI_nat (ord_at hi), _, rfl, _, rfl, o, _, _, _, rfl, rfl, hO, atI_nat (ord_at hj), by show 3 ≤ sizeLine; decide, fun p hp => k _ p (Same.new hp) (new hp)⟩
    | high i j =>
      obtain ⟨hi, hj, hij⟩ := ho
      refine ⟨_, rfl, t, _, rfl, hg, rfl, _, _, rfl, _, _, rfl, _, _, rfl, rfl, ?_⟩
      refine ⟨_, rfl, rfl, _, rfl, itF (by decide +kernel) ?_⟩
      exact ⟨_, rfl, _, rfl, _, rfl, o, _, _, _, rfl, rfl, hO, atI_nat (ord_at hi), _, rfl, _, rfl, o, _, _, _, rfl, rfl, hO, atI_nat (ord_at hj), by show 3 ≤ sizeLine; decide, fun p hp => k _ p (Same.new hp) (new hp)⟩
    | sort i j =>
      obtain ⟨hi, hj, hij⟩ := ho
      refine ⟨_, rfl, t, _, rfl, hg, rfl, _, _, rfl, _, _, rfl, _, _, rfl, rfl, ?_⟩
      refine ⟨_, rfl, rfl, _, rfl, itF (by decide +kernel) ?_⟩
      exact ⟨_, rfl, _, rfl, _, rfl, o, _, _, _, rfl, rfl, hO, atI_nat (ord_at hi), _, rfl, _, rfl, o, _, _, _, rfl, rfl, hO, atI_nat (ord_at hj), by show 3 ≤ sizeLine; decide, fun p hp => k _ p (Same.new hp) (new hp)⟩
    | copy i j =>
      obtain ⟨hi, hj, hij⟩ := ho
      refine ⟨_, rfl, t, _, rfl, hg, rfl, _, _, rfl, _, _, rfl, _, _, rfl, rfl, ?_⟩
      refine ⟨_, rfl, rfl, _, rfl, itF (by decide +kernel) ?_⟩
      exact ⟨_, rfl, _, rfl, _, rfl, o, _, _, _, rfl, rfl, hO, atI_nat (ord_at hi), _, rfl, _, rfl, o, _, _, _, rfl, rfl, hO, atI_nat (ord_at hj), by show 3 ≤ sizeLine; decide, fun p hp => k _ p (Same.new hp) (new hp)⟩
end
end LL

namespace LL
open PySem L2 PySem.Spec PyProof.Rows
section
variable {P : Program} {w : World} {K : PySem.W.Frag} {mg : Str → Option Value} {base : Heap} {C : Addr}
def sp_Net_neg (K : PySem.W.Frag) (C : Addr) : Sp := fun vs H Q _ => ∃ (p : Addr) (n : Nat) (gs : List Gt), vs = [V.ref p] ∧ NetAt K C H p n gs ∧ ∀ H' x, Same H H' → NetAt K C H' x n (gs.map Gt.tn) → Q (.ref x) H'
theorem c_neg (T : Txt K mg C) : ∃ f fd, FnOk P w K mg base C8.CX0 8 f fd ["self"] (sp_Net_neg K C) ∧ PySem.W.findIn K (.ref C) "__neg__" = some (some (.ref f)) ∧ PySem.W.isFn K (.ref f) = true ∧ Binds K fd ["self"] [] := by
  obtain ⟨f, fd, F, h1, h2, b⟩ := T.i_neg
  refine ⟨f, fd, C8.fn0 F sc_Net_neg (fun vs H Q E h => ?_) (fun cdv A outer s H vs Q E hr h => ?_), h1, h2, b⟩
  · obtain ⟨p, n, gs, rfl, _⟩ := h
    rfl
  · obtain ⟨p, n, gs, rfl, N, k⟩ := h
    obtain ⟨dx, l, xs, hp, hl, hA⟩ := N.at_
    refine ⟨_, (pss_one (ps_ret (C8.pe_mk (c_Net T) hr (by decide) rfl (pa_cons (pe_fld (pv 0) rfl) (pa_cons (pe_lc (own := [("gate", 1)]) (g := (gName 1)) (tt := tYes) rfl sc_Net_neg.nd (pi_list (pe_fld (pv 0) rfl)) (blkOk_by (N := N_Net_neg) (sc := C8.fnScope s_Net_neg) (by decide +kernel)) (fun _ _ _ _ _ => (pg_name (i := 1) sc_Net_neg.nd rfl (Or.inl rfl))) (fun _ _ _ _ _ => pts_nil) (fun _ _ _ _ _ => (C8.pe_c (c_turned_gate T) hr (by decide) rfl (pa_cons (pv 1) pa_nil)))) pa_nil))))), ?_⟩
    have few := N.few
    refine ⟨_, rfl, p, C, dx, _, _, rfl, hp, T.cl, T.nL, pf_lanes l n, _, rfl, p, C, dx, _, _, rfl, hp, T.cl, T.nG, pf_gates l n, l, rfl, ⟨_, SqL.of hl⟩, fun D hD => lc_rel (R := IsG K) (fun _ _ _ _ s r => r.to s) (walk_list (xs := xs)) (gs.map Gt.tn) (by rw [List.length_map, hA.1]) hD (by rw [hA.1]; omega) (fun H' s => SqL.of (s _ _ hl)) (fun i v H' H2 Q' hi s ey y q => ?_) (fun H' ys s hd hY => ?_)⟩
    · obtain ⟨rfl, hv⟩ := y
      obtain ⟨g, hg, t, rfl, ht⟩ := hA.get hv
      obtain ⟨zs, hzs⟩ := ey
      exact ⟨rfl, _, rfl, t, g, rfl, s.seqT ht, fun H3 t' s3 hk => q _ g.tn H3 (by rw [List.getElem?_map, hg]; rfl) s3 ⟨t', rfl, hk D _ hzs⟩⟩
    · refine fun x ex hx hex ne => ⟨H', x, ex, D, n, gs.map Gt.tn, rfl, (Same.new hex).trans (Same.new (by rw [upd_ne ne.symm]; exact hx)), hx, upd_same, ⟨ys, SqL.of hd, hY⟩, N.low, N.high, fun g hg => ?_, by rw [List.length_map]; exact few, fun H2 s2 N2 => ⟨rfl, k _ x (s.trans s2) N2⟩⟩
      obtain ⟨g', hg', e⟩ := List.mem_map.mp hg
      subst e
      exact tn_ok (N.ok g' hg')
def sp_Net_renumbered (K : PySem.W.Frag) (C : Addr) : Sp := fun vs H Q _ => ∃ (p o : Addr) (n : Nat) (gs : List Gt) (os : List Nat), vs = [V.ref p, V.ref o] ∧ NetAt K C H p n gs ∧ SqL K H o ((intsN os).map V.int) ∧ IsOrd os n ∧ ∀ H' x, Same H H' → NetAt K C H' x n (gs.map (Gt.mv os)) → Q (.ref x) H'
theorem m_renumbered (T : Txt K mg C) : C8.Met P w K mg base 8 C "renumbered" (sp_Net_renumbered K C) [] := by
  obtain ⟨f, fd, F, M, b⟩ := T.i_ren
  refine C8.met0 T.cl M F b sc_Net_renumbered (fun vs H Q E h => ?_) (fun cdv A outer s H vs Q E hr h => ?_)
  · obtain ⟨p, o, n, gs, os, rfl, _⟩ := h
    rfl
  · obtain ⟨p, o, n, gs, os, rfl, N, hO, ho, k⟩ := h
    obtain ⟨dx, l, xs, hp, hl, hA⟩ := N.at_
    refine ⟨_, (pss_cons (ps_expr (C8.pe_c (c_check_order T) hr (by decide) rfl (pa_cons (pv 1) (pa_cons (pe_fld (pv 0) rfl) pa_nil))))
      (pss_one (ps_ret (C8.pe_mk (c_Net T) hr (by decide) rfl (pa_cons (pe_fld (pv 0) rfl) (pa_cons (pe_lc (own := [("gate", 2)]) (g := (gName 2)) (tt := tYes) rfl sc_Net_renumbered.nd (pi_list (pe_fld (pv 0) rfl)) (blkOk_by (N := N_Net_renumbered) (sc := C8.fnScope s_Net_renumbered) (by decide +kernel)) (fun _ _ _ _ _ => (pg_name (i := 2) sc_Net_renumbered.nd rfl (Or.inl rfl))) (fun _ _ _ _ _ => pts_nil) (fun _ _ _ _ _ => (C8.pe_c (c_gate_moved T) hr (by decide) rfl (pa_cons (pv 2) (pa_cons (pv 1) pa_nil))))) pa_nil)))))), ?_⟩
    have few := N.few
    refine ⟨_, rfl, _, rfl, p, C, dx, _, _, rfl, hp, T.cl, T.nL, pf_lanes l n, o, os, n, rfl, hO, ho, N.high, fun H1 s1 => ?_⟩
    refine ⟨_, rfl, p, C, dx, _, _, rfl, s1 _ _ hp, T.cl, T.nL, pf_lanes l n, _, rfl, p, C, dx, _, _, rfl, s1 _ _ hp, T.cl, T.nG, pf_gates l n, l, rfl, ⟨_, SqL.of (s1 _ _ hl)⟩, fun D hD => lc_rel (R := IsG K) (fun _ _ _ _ s r => r.to s) (walk_list (xs := xs)) (gs.map (Gt.mv os)) (by rw [List.length_map, hA.1]) hD (by rw [hA.1]; omega) (fun H' s => SqL.of (s _ _ (s1 _ _ hl))) (fun i v H' H2 Q' hi s ey y q => ?_) (fun H' ys s hd hY => ?_)⟩
    · obtain ⟨rfl, hv⟩ := y
      obtain ⟨g, hg, t, rfl, ht⟩ := hA.get hv
      obtain ⟨zs, hzs⟩ := ey
      exact ⟨rfl, _, rfl, _, rfl, t, o, g, os, rfl, (s1.trans s).seqT ht, (s1.trans s).seq hO, by rw [ho.len]; exact N.ok g (List.mem_of_getElem? hg), fun H3 t' s3 hk => q _ (g.mv os) H3 (by rw [List.getElem?_map, hg]; rfl) s3 ⟨t', rfl, hk D _ hzs⟩⟩
    · refine fun x ex hx hex ne => ⟨H', x, ex, D, n, gs.map (Gt.mv os), rfl, (Same.new hex).trans (Same.new (by rw [upd_ne ne.symm]; exact hx)), hx, upd_same, ⟨ys, SqL.of hd, hY⟩, N.low, N.high, fun g hg => ?_, by rw [List.length_map]; exact few, fun H2 s2 N2 => ⟨rfl, k _ x ((s1.trans s).trans s2) N2⟩⟩
      obtain ⟨g', hg', e⟩ := List.mem_map.mp hg
      subst e
      exact mv_ok ho (N.ok g' hg')
/-! ### origins -/
abbrev Og := Nat × Int
def oat (os : List Og) (i : Nat) : Og := os.getD i (0, 0)
def Gt.led (ns : List Int) (os : List Og) : Gt → List Og
  | .add i c => os.set i ((oat os i).1, (oat os i).2 + c)
  | .copy i j => os.set i (oat os j)
  | .low i j => if at0 ns j < at0 ns i then os.set i (oat os j) else os
  | .high i j => if at0 ns i < at0 ns j then os.set i (oat os j) else os
  | .sort i j => if at0 ns j < at0 ns i then (os.set i (oat os j)).set j (oat os i) else os
theorem led_len (ns : List Int) (os : List Og) (g : Gt) : (g.led ns os).length = os.length := by
  cases g with
  | add i c => exact List.length_set ..
  | copy i j => exact List.length_set ..
  | low i j =>
    show (if _ then _ else _ : List Og).length = _
    split
    · exact List.length_set ..
    · rfl
  | high i j =>
    show (if _ then _ else _ : List Og).length = _
    split
    · exact List.length_set ..
    · rfl
  | sort i j =>
    show (if _ then _ else _ : List Og).length = _
    split
    · rw [List.length_set, List.length_set]
    · rfl
def IsO (K : PySem.W.Frag) (H : Hp) (v : V) (o : Og) : Prop := ∃ t, v = .ref t ∧ SqT K H t [.int o.1, .int o.2]
theorem IsO.to {H H' : Hp} (s : Same H H') {v : V} {o : Og} (h : IsO K H v o) : IsO K H' v o := let ⟨t, e, q⟩ := h; ⟨t, e, s.seqT q⟩
theorem All2.set {α β : Type} {R : α → β → Prop} {xs : List α} {ys : List β} {x : α} {y : β} (h : All2 R xs ys) (i : Nat) (r : R x y) : All2 R (xs.set i x) (ys.set i y) := ⟨by rw [List.length_set, List.length_set, h.1], fun j u v h1 h2 => by
  rw [List.getElem?_set] at h1 h2
  by_cases e : i = j
  · subst e
    rw [if_pos rfl] at h1 h2
    by_cases hi : i < xs.length
    · rw [if_pos hi] at h1
      rw [if_pos (h.1 ▸ hi)] at h2
      cases h1
      cases h2
      exact r
    · rw [if_neg hi] at h1
      cases h1
  · rw [if_neg e] at h1 h2
    exact h.2 j u v h1 h2⟩
theorem o_at {H : Hp} {xs : List V} {os : List Og} (h : All2 (IsO K H) xs os) {i : Nat} (hi : i < os.length) : ∃ t, xs[i]? = some (.ref t) ∧ SqT K H t [.int (oat os i).1, .int (oat os i).2] := by
  obtain ⟨v, hv, t, e, q⟩ := h.get' (List.getElem?_eq_getElem hi)
  subst e
  refine ⟨t, hv, ?_⟩
  unfold oat
  rw [List.getD_eq_getElem?_getD, List.getElem?_eq_getElem hi]
  exact q
def sp_origins_behind (K : PySem.W.Frag) : Sp := fun vs H Q _ => ∃ (t a b : Addr) (g : Gt) (ns : List Int) (xs : List V) (os : List Og), vs = [V.ref t, V.ref a, V.ref b] ∧ SqT K H t g.vals ∧ SqL K H a (ns.map V.int) ∧ SqL K H b xs ∧ All2 (IsO K H) xs os ∧ g.ok ns.length ∧ os.length = ns.length ∧
  ∀ H' p ys, Same H H' → H p = none → H' p = some (.lst ys) → All2 (IsO K H') ys (g.led ns os) → Q (.ref p) H'
theorem c_origins_behind (T : Txt K mg C) : C8.Cal P w K mg base 1 "_origins_behind" (sp_origins_behind K) [] := by
  refine T.d_origins_behind.cal sc_origins_behind (fun vs H Q E h => ?_) (fun f cdv A outer s H vs Q E hr h => ?_)
  · obtain ⟨t, a, b, g, ns, xs, os, rfl, _⟩ := h
    rfl
  · obtain ⟨t, a, b, g, ns, xs, os, rfl, hg, ha, hb, hA, ho, hl, k⟩ := h
    have hxl := hA.1
    refine ⟨_, (pss_cons (ps_asg (pv 0) (pg_tup (n := 3) rfl (pgs_cons (pg_name (i := 3) sc_origins_behind.nd rfl (Or.inl rfl)) (pgs_cons (pg_name (i := 4) sc_origins_behind.nd rfl (Or.inl rfl)) (pgs_cons (pg_name (i := 5) sc_origins_behind.nd rfl (Or.inl rfl)) pgs_nil)))))
      (pss_cons (ps_set (i := 6) sc_origins_behind.nd rfl (Or.inl rfl) (pe_callTy call_list_of (by rfl) T.b_list (by decide +kernel) (pa_cons (pv 2) pa_nil)))
      (pss_cons (ps_if (pt_cmpR op_eq (pv 3) pe_str (nomark _))
       (pss_cons (ps_asg (pe_ix ix_list (pv 2) (pv 4) (fun _ _ => rfl)) (pg_tup (n := 2) rfl (pgs_cons (pg_name (i := 7) sc_origins_behind.nd rfl (Or.inl rfl)) (pgs_cons (pg_name (i := 8) sc_origins_behind.nd rfl (Or.inl rfl)) pgs_nil))))
        (pss_one (ps_asg (pe_tup (pa_cons (pv 7) (pa_cons (pe_op op_add (pv 8) (pv 5)) pa_nil))) (pg_sub (pv 6) (pv 4) set_list))))
       (pss_one (ps_if (pt_cmpR op_eq (pv 3) pe_str (nomark _))
         (pss_one (ps_asg (pe_ix ix_list (pv 2) (pv 5) (fun _ _ => rfl)) (pg_sub (pv 6) (pv 4) set_list)))
         (pss_one (ps_if (PW.pt (pw_and (pt_cmpR op_eq (pv 3) pe_str (nomark _)) (pw_and1 (pt_cmpR op_lt (pe_ix ix_list (pv 1) (pv 5) (fun _ _ => rfl)) (pe_ix ix_list (pv 1) (pv 4) (fun _ _ => rfl)) (nomark _)))))
           (pss_one (ps_asg (pe_ix ix_list (pv 2) (pv 5) (fun _ _ => rfl)) (pg_sub (pv 6) (pv 4) set_list)))
           (pss_one (ps_if (PW.pt (pw_and (pt_cmpR op_eq (pv 3) pe_str (nomark _)) (pw_and1 (pt_cmpR op_gt (pe_ix ix_list (pv 1) (pv 5) (fun _ _ => rfl)) (pe_ix ix_list (pv 1) (pv 4) (fun _ _ => rfl)) (nomark _)))))
             (pss_one (ps_asg (pe_ix ix_list (pv 2) (pv 5) (fun _ _ => rfl)) (pg_sub (pv 6) (pv 4) set_list)))
             (pss_one (ps_if (PW.pt (pw_and (pt_cmpR op_eq (pv 3) pe_str (nomark _)) (pw_and1 (pt_cmpR op_gt (pe_ix ix_list (pv 1) (pv 4) (fun _ _ => rfl)) (pe_ix ix_list (pv 1) (pv 5) (fun _ _ => rfl)) (nomark _)))))
               (pss_one (ps_asg (pe_tup (pa_cons (pe_ix ix_list (pv 2) (pv 5) (fun _ _ => rfl)) (pa_cons (pe_ix ix_list (pv 2) (pv 4) (fun _ _ => rfl)) pa_nil))) (pg_tup (n := 2) rfl (pgs_cons (pg_sub (pv 6) (pv 4) set_list) (pgs_cons (pg_sub (pv 6) (pv 5) set_list) pgs_nil)))))
               pss_nil)))))))))
      (pss_one (ps_ret (pv 6)))))), ?_⟩
    cases g with
    | add i c =>
      have hi : i < ns.length := ho
      obtain ⟨u, hu, hu2⟩ := o_at hA (i := i) (by omega)
      refine ⟨_, rfl, t, _, rfl, hg, rfl, _, _, rfl, _, _, rfl, _, _, rfl, rfl, ?_⟩
      refine ⟨_, rfl, b, _, rfl, .inl hb, fun p hp => ?_⟩
      have s1 : Same H (upd H p (.lst xs)) := Same.new hp
      refine ⟨_, rfl, rfl, _, rfl, ?_⟩
      refine itT (by decide +kernel) ?_
      refine ⟨_, rfl, _, rfl, b, _, _, _, rfl, rfl, s1.seq hb, atI_nat hu, ?_⟩
      refine ⟨u, _, rfl, s1.seqT hu2, rfl, _, _, rfl, _, _, rfl, rfl, ?_⟩
      refine ⟨_, rfl, _, rfl, _, rfl, _, _, rfl, rfl, by show 2 ≤ sizeLine; decide, fun q hq => ?_⟩
      have n1 := Same.new (o := .tup [.int (oat os i).1, .int ((oat os i).2 + c)]) hq
      have npq : p ≠ q := ne_of_none upd_same hq
      refine ⟨_, rfl, _, rfl, p, _, _, i, rfl, rfl, n1 _ _ upd_same, ixN_nat (by omega), ?_⟩
      have s2 := (s1.trans n1).mut (o := .lst (xs.set i (.ref q))) hp
      refine ⟨_, rfl, k _ p _ s2 hp upd_same ?_⟩
      exact (hA.mono fun _ _ z => z.to s2).set i ⟨q, rfl, SqT.of (by rw [upd_ne npq.symm, upd_same])⟩
    | low i j =>
      obtain ⟨hi, hj, hij⟩ := ho
      obtain ⟨ui, hui, hui2⟩ := o_at hA (i := i) (by omega)
      obtain ⟨uj, huj, huj2⟩ := o_at hA (i := j) (by omega)
      refine ⟨_, rfl, t, _, rfl, hg, rfl, _, _, rfl, _, _, rfl, _, _, rfl, rfl, ?_⟩
      refine ⟨_, rfl, b, _, rfl, .inl hb, fun p hp => ?_⟩
      have s1 : Same H (upd H p (.lst xs)) := Same.new hp
      refine ⟨_, rfl, rfl, _, rfl, ?_⟩
      refine itF (by decide +kernel) ?_
      refine ⟨_, rfl, rfl, _, rfl, ?_⟩
      refine itF (by decide +kernel) ?_
      refine ⟨_, rfl, rfl, _, rfl, ?_⟩
      refine itT (by decide +kernel) ?_
      refine ⟨_, rfl, _, rfl, a, _, _, _, rfl, rfl, s1.seq ha, int_atI hj, _, rfl, _, rfl, a, _, _, _, rfl, rfl, s1.seq ha, int_atI hi, _, _, rfl, rfl, _, rfl, ?_⟩
      refine ite2 (fun c => ?_) (fun c => ?_)
      · have c' := of_decide_eq_true c
        refine ⟨_, rfl, _, rfl, b, _, _, _, rfl, rfl, s1.seq hb, atI_nat huj, ?_⟩
        refine ⟨_, rfl, _, rfl, p, _, _, i, rfl, rfl, upd_same, ixN_nat (by omega), ?_⟩
        refine ⟨_, rfl, k _ p _ (s1.mut hp) hp upd_same ?_⟩
        show All2 _ _ (if _ then _ else _)
        rw [if_pos c']
        exact (hA.mono fun _ _ z => z.to (s1.mut hp)).set i ⟨uj, rfl, (s1.mut hp).seqT huj2⟩
      · have c' : ¬ at0 ns j < at0 ns i := by simpa using c
        refine ⟨_, rfl, rfl, _, rfl, ?_⟩
        refine itF (by decide +kernel) ?_
        refine ⟨_, rfl, rfl, _, rfl, ?_⟩
        refine itF (by decide +kernel) ?_
        refine ⟨_, rfl, k _ p _ s1 hp upd_same ?_⟩
        show All2 _ _ (if _ then _ else _)
        rw [if_neg c']
        exact hA.mono fun _ _ z => z.to s1
    | high i j =>
      obtain ⟨hi, hj, hij⟩ := ho
      obtain ⟨ui, hui, hui2⟩ := o_at hA (i := i) (by omega)
      obtain ⟨uj, huj, huj2⟩ := o_at hA (i := j) (by omega)
      refine ⟨_, rfl, t, _, rfl, hg, rfl, _, _, rfl, _, _, rfl, _, _, rfl, rfl, ?_⟩
      refine ⟨_, rfl, b, _, rfl, .inl hb, fun p hp => ?_⟩
      have s1 : Same H (upd H p (.lst xs)) := Same.new hp
      refine ⟨_, rfl, rfl, _, rfl, ?_⟩
      refine itF (by decide +kernel) ?_
      refine ⟨_, rfl, rfl, _, rfl, ?_⟩
      refine itF (by decide +kernel) ?_
      refine ⟨_, rfl, rfl, _, rfl, ?_⟩
      refine itF (by decide +kernel) ?_
      refine ⟨_, rfl, rfl, _, rfl, ?_⟩
      refine itT (by decide +kernel) ?_
      refine ⟨_, rfl, _, rfl, a, _, _, _, rfl, rfl, s1.seq ha, int_atI hj, _, rfl, _, rfl, a, _, _, _, rfl, rfl, s1.seq ha, int_atI hi, _, _, rfl, rfl, _, rfl, ?_⟩
      refine ite2 (fun c => ?_) (fun c => ?_)
      · have c' := of_decide_eq_true c
        refine ⟨_, rfl, _, rfl, b, _, _, _, rfl, rfl, s1.seq hb, atI_nat huj, ?_⟩
        refine ⟨_, rfl, _, rfl, p, _, _, i, rfl, rfl, upd_same, ixN_nat (by omega), ?_⟩
        refine ⟨_, rfl, k _ p _ (s1.mut hp) hp upd_same ?_⟩
        show All2 _ _ (if _ then _ else _)
        rw [if_pos c']
        exact (hA.mono fun _ _ z => z.to (s1.mut hp)).set i ⟨uj, rfl, (s1.mut hp).seqT huj2⟩
      · have c' : ¬ at0 ns i < at0 ns j := by simpa using c
        refine ⟨_, rfl, rfl, _, rfl, ?_⟩
        refine itF (by decide +kernel) ?_
        refine ⟨_, rfl, k _ p _ s1 hp upd_same ?_⟩
        show All2 _ _ (if _ then _ else _)
        rw [if_neg c']
        exact hA.mono fun _ _ z => z.to s1
    | sort i j =>
      obtain ⟨hi, hj, hij⟩ := ho
      obtain ⟨ui, hui, hui2⟩ := o_at hA (i := i) (by omega)
      obtain ⟨uj, huj, huj2⟩ := o_at hA (i := j) (by omega)
      refine ⟨_, rfl, t, _, rfl, hg, rfl, _, _, rfl, _, _, rfl, _, _, rfl, rfl, ?_⟩
      refine ⟨_, rfl, b, _, rfl, .inl hb, fun p hp => ?_⟩
      have s1 : Same H (upd H p (.lst xs)) := Same.new hp
      refine ⟨_, rfl, rfl, _, rfl, ?_⟩
      refine itF (by decide +kernel) ?_
      refine ⟨_, rfl, rfl, _, rfl, ?_⟩
      refine itF (by decide +kernel) ?_
      refine ⟨_, rfl, rfl, _, rfl, ?_⟩
      refine itF (by decide +kernel) ?_
      refine ⟨_, rfl, rfl, _, rfl, ?_⟩
      refine itF (by decide +kernel) ?_
      refine ⟨_, rfl, rfl, _, rfl, ?_⟩
      refine itT (by decide +kernel) ?_
      refine ⟨_, rfl, _, rfl, a, _, _, _, rfl, rfl, s1.seq ha, int_atI hi, _, rfl, _, rfl, a, _, _, _, rfl, rfl, s1.seq ha, int_atI hj, _, _, rfl, rfl, _, rfl, ?_⟩
      refine ite2 (fun c => ?_) (fun c => ?_)
      · have c' := of_decide_eq_true c
        refine ⟨_, rfl, _, rfl, b, _, _, _, rfl, rfl, s1.seq hb, atI_nat huj, _, rfl, _, rfl, b, _, _, _, rfl, rfl, s1.seq hb, atI_nat hui, by show 2 ≤ sizeLine; decide, fun q hq => ?_⟩
        have n1 := Same.new (o := .tup [.ref uj, .ref ui]) hq
        have s2 := s1.trans n1
        refine ⟨q, _, rfl, SqT.of upd_same, rfl, _, _, rfl, _, rfl, _, rfl, p, _, _, i, rfl, rfl, n1 _ _ upd_same, ixN_nat (by omega), ?_⟩
        refine ⟨_, _, rfl, _, rfl, _, rfl, p, _, _, j, rfl, rfl, upd_same, ixN_nat (by rw [List.length_set]; omega), rfl, ?_⟩
        have s3 := (s2.mut (o := .lst (xs.set i (.ref uj))) hp).mut (o := .lst ((xs.set i (.ref uj)).set j (.ref ui))) hp
        refine ⟨_, rfl, k _ p _ s3 hp upd_same ?_⟩
        show All2 _ _ (if _ then _ else _)
        rw [if_pos c']
        exact ((hA.mono fun _ _ z => z.to s3).set i ⟨uj, rfl, s3.seqT huj2⟩).set j ⟨ui, rfl, s3.seqT hui2⟩
      · have c' : ¬ at0 ns j < at0 ns i := by simpa using c
        refine ⟨_, rfl, k _ p _ s1 hp upd_same ?_⟩
        show All2 _ _ (if _ then _ else _)
        rw [if_neg c']
        exact hA.mono fun _ _ z => z.to s1
    | copy i j =>
      obtain ⟨hi, hj, hij⟩ := ho
      obtain ⟨ui, hui, hui2⟩ := o_at hA (i := i) (by omega)
      obtain ⟨uj, huj, huj2⟩ := o_at hA (i := j) (by omega)
      refine ⟨_, rfl, t, _, rfl, hg, rfl, _, _, rfl, _, _, rfl, _, _, rfl, rfl, ?_⟩
      refine ⟨_, rfl, b, _, rfl, .inl hb, fun p hp => ?_⟩
      have s1 : Same H (upd H p (.lst xs)) := Same.new hp
      refine ⟨_, rfl, rfl, _, rfl, ?_⟩
      refine itF (by decide +kernel) ?_
      refine ⟨_, rfl, rfl, _, rfl, ?_⟩
      refine itT (by decide +kernel) ?_
      refine ⟨_, rfl, _, rfl, b, _, _, _, rfl, rfl, s1.seq hb, atI_nat huj, ?_⟩
      refine ⟨_, rfl, _, rfl, p, _, _, i, rfl, rfl, upd_same, ixN_nat (by omega), ?_⟩
      refine ⟨_, rfl, k _ p _ (s1.mut hp) hp upd_same ?_⟩
      exact (hA.mono fun _ _ z => z.to (s1.mut hp)).set i ⟨uj, rfl, (s1.mut hp).seqT huj2⟩
end
end LL

namespace LL
open PySem L2 PySem.Spec PyProof.Rows
def orgF : List Gt → List Int → List Og → List Og
  | [], _, os => os
  | g :: r, ns, os => orgF r (g.done ns) (g.led ns os)
def org0 (n : Nat) : List Og := (List.range n).map fun i => (i, 0)
def orgs (gs : List Gt) (ns : List Int) : List Og := orgF gs ns (org0 ns.length)
theorem org0_len (n : Nat) : (org0 n).length = n := by
  unfold org0
  rw [List.length_map, List.length_range]
theorem orgF_len : ∀ (gs : List Gt) (ns : List Int) (os : List Og), (orgF gs ns os).length = os.length
  | [], _, _ => rfl
  | g :: r, ns, os => by
    show (orgF r _ _).length = _
    rw [orgF_len r, led_len]
theorem orgs_len (gs : List Gt) (ns : List Int) : (orgs gs ns).length = ns.length := by
  unfold orgs
  rw [orgF_len, org0_len]
section
variable {P : Program} {w : World} {K : PySem.W.Frag} {mg : Str → Option Value} {base : Heap} {C : Addr}
theorem m_gates (T : Txt K mg C) : C8.Met P w K mg base 1 C "gates" (sp_Net_gates K C) [] := c_gates T
/-- the first origins, made anew -/
theorem lc_org0 {H1 : Hp} {D : Addr} {n : Nat} {g : TG} {te : TE} {vs : List Nat} {σ : L2.St} {Qd : Hp → Prop} (hD : H1 D = none) (hn : n ≤ 12)
    (hs : ∀ (i : Nat) (H : Hp) (Q : VK), (∀ t : Addr, H t = none → Q (.ref t) (upd H t (.tup [.int (0 + (i : Int)), .int 0]))) → g (.int (0 + (i : Int))) (wipe σ vs) H fun σ2 H2 => wipe σ2 vs = wipe σ vs ∧ te σ2 H2 Q)
    (hd : ∀ H xs, Same H1 H → H D = some (.lst xs) → All2 (IsO K H) xs (org0 n) → Qd H) :
    ∃ W : Nat → Nat → Hp → Prop, (∃ m, W 0 m (upd H1 D (.lst []))) ∧ ∀ i m H, W i m H →
      ((Itr 0 n).stop i H ∧ Qd H) ∨ ((Itr 0 n).go i H ∧ ∃ Nx : Hp → Prop, (∀ H', Nx H' → ∃ m', m' < m ∧ W (i + 1) m' H') ∧ ∀ x H', (Itr 0 n).yld i H x H' → g x (wipe σ vs) H' fun σ2 H2 => wipe σ2 vs = wipe σ vs ∧ tYes σ2 H2 fun b H3 =>
        if b = true then te σ2 H3 fun y H4 => ∃ acc, H4 D = some (.lst acc) ∧ acc.length < sizeLine ∧ Nx (upd H4 D (.lst (acc ++ [y]))) else Nx H3) := by
  refine lc_rel (R := IsO K) (fun _ _ _ _ s r => r.to s) (walk_range (lo := 0)) (org0 n) (org0_len n) hD (by omega) (fun _ _ => trivial) (fun i x H H' Q' hi s ey y q => ?_) hd
  obtain ⟨rfl, rfl⟩ := y
  obtain ⟨zs, hzs⟩ := ey
  refine hs i _ Q' fun t ht => q _ ((i : Nat), (0 : Int)) _ (by unfold org0; rw [List.getElem?_map, List.getElem?_range hi]; rfl) (Same.new ht) ⟨t, rfl, SqT.of (del_keep ?_ (ne_of_none hzs ht).symm)⟩
  rw [upd_same, Int.zero_add]
def sp_origins (K : PySem.W.Frag) (C : Addr) : Sp := fun vs H Q _ => ∃ (p a : Addr) (n : Nat) (gs : List Gt) (ns : List Int), vs = [V.ref p, V.ref a] ∧ NetAt K C H p n gs ∧ Ct K H a ns ∧ ns.length = n ∧
  ∀ H' r xs, Same H H' → H r = none → H' r = some (.lst xs) → All2 (IsO K H') xs (orgs gs ns) → Q (.ref r) H'
theorem fn_origins (T : Txt K mg C) {f : Addr} {fd : FuncData} (F : C8.Fun K "origins" "origins" s_origins f fd) : FnOk P w K mg base C8.CX0 6 f fd ["net", "content"] (sp_origins K C) := by
  refine C8.fn0 F sc_origins (fun vs H Q E h => ?_) (fun cdv A outer s H vs Q E hr h => ?_)
  · obtain ⟨p, a, n, gs, ns, rfl, _⟩ := h
    rfl
  · obtain ⟨p, a, n, gs, ns, rfl, N, c, hn, k⟩ := h
    obtain ⟨pp, pg, pfd, pP, pF, pB⟩ := c_lanes (P := P) (w := w) (base := base) T
    obtain ⟨dx, l, xs, hp, hl, hA⟩ := N.at_
    refine ⟨_, (pss_cons (ps_set (i := 2) sc_origins.nd rfl (Or.inl rfl) (C8.pe_c (c_contents T) hr (by decide) rfl (pa_cons (pv 0) (pa_cons (pv 1) pa_nil))))
      (pss_cons (ps_setLc (i := 3) (own := [("lane", 6)]) (g := (gName 6)) (tt := tYes) rfl sc_origins.nd rfl rfl (sw_true rfl rfl rfl (by decide +kernel)) (pi_range1 rfl T.b_range (pa_cons (pe_prop (pv 0) T.cl pP pF (hr.mono (by decide)) pB .nil pass0 rfl) pa_nil)) (blkOk_by (N := N_origins) (sc := C8.fnScope s_origins) (by decide +kernel)) (fun _ _ _ _ _ => (pg_name (i := 6) sc_origins.nd rfl (Or.inl rfl))) (fun _ _ _ _ _ => pts_nil) (fun _ _ _ _ _ => (pe_tup (pa_cons (pv 6) (pa_cons pe_int pa_nil)))))
      (pss_cons (ps_for PassesOwn.never rfl (pi_zip (by rfl) T.b_zip (pa_cons (C8.pe_mt0 (m_gates T) hr (by decide) (pv 0)) (pa_cons (pv 2) pa_nil))) (pg_tup (n := 2) rfl (pgs_cons (pg_name (i := 4) sc_origins.nd rfl (Or.inl rfl)) (pgs_cons (pg_name (i := 5) sc_origins.nd rfl (Or.inl rfl)) pgs_nil)))
       (pss_one (ps_set (i := 3) sc_origins.nd rfl (Or.inl rfl) (C8.pe_c (c_origins_behind T) hr (by decide) rfl (pa_cons (pv 4) (pa_cons (pv 5) (pa_cons (pv 3) pa_nil)))))))
      (pss_one (ps_ret (pv 3)))))), ?_⟩
    have few := N.few
    refine ⟨_, rfl, _, rfl, p, a, n, gs, ns, rfl, N, c, hn, fun H1 r s1 R1 => ?_⟩
    obtain ⟨r0, rs, hr1, hR⟩ := id R1
    refine ⟨_, rfl, p, dx, _, rfl, s1 _ _ hp, p, n, gs, rfl, N.to s1, (n : Int), rfl, by have := N.high; omega, by have := N.high; omega, fun D hD => lc_org0 (K := K) (n := n) hD N.high (fun i H' Q' q => ⟨rfl, _, rfl, by show 2 ≤ sizeLine; decide, q⟩) (fun H2 ys s2 hd hY => ?_)⟩
    have t2 := s1.trans s2
    refine ⟨_, rfl, p, dx, _, rfl, t2 _ _ hp, rfl, p, dx, l, n, xs, rfl, t2 _ _ hp, SqL.of (t2 _ _ hl), fun q hq => ?_⟩
    have n3 : Same H2 (upd H2 q (.lst xs)) := Same.new hq
    have D0 : H D = none := s1.free hD
    have rl : rs.length = gs.length + 1 := by
      rw [hR.1]
      unfold rowsOf
      rw [List.length_map, List.length_range]
    refine ⟨_, rfl, q, r, xs, rs, rfl, SqL.of upd_same, SqL.of ((s2.trans n3) _ _ hr1), for_it (walk_zip (xs := xs) (ys := rs) (n := gs.length) (by rw [hA.1, rl]; omega)) (fun i σ H' => Same (upd H2 q (.lst xs)) H' ∧ ∃ D' ys os v4 v5, H D' = none ∧ H' D' = some (.lst ys) ∧ All2 (IsO K H') ys os ∧ os.length = ns.length ∧ orgF (gs.drop i) (runs (gs.take i) ns) os = orgs gs ns ∧ σ = [some (.ref p), some (.ref a), some (.ref r), some (.ref D'), v4, v5, none])
      ⟨Same.refl _, D, ys, org0 n, none, none, D0, n3 _ _ hd, hY.mono fun _ _ z => z.to n3, by rw [org0_len, hn], by unfold orgs; rw [hn]; rfl, rfl⟩ (fun i σ H' _ z => ⟨SqL.of (z.1 _ _ upd_same), SqL.of ((s2.trans (n3.trans z.1)) _ _ hr1)⟩) (fun i x σ H4 H5 hi z y => ?_) (fun σ H4 z => ?_)⟩
    · obtain ⟨s4, D', ys', os, v4, v5, d0, hd', hY', ol, oe, rfl⟩ := z
      obtain ⟨T', x1, x2, rfl, hT, rfl, h1, h2⟩ := y
      obtain ⟨g, hg, t, rfl, ht⟩ := hA.get h1
      obtain ⟨row, hrow, b, rfl, b0, b1⟩ := hR.get h2
      have er : row = runs (gs.take i) ns := by
        unfold rowsOf at hrow
        rw [List.getElem?_map, List.getElem?_range (by omega)] at hrow
        exact (Option.some.inj hrow).symm
      subst er
      have n5 : Same H4 (upd H4 T' (.tup [V.ref t, V.ref b])) := Same.new hT
      have t5 := (n3.trans s4).trans n5
      refine ⟨T', _, rfl, SqT.of upd_same, rfl, _, _, rfl, _, _, rfl, rfl, ?_⟩
      refine ⟨_, rfl, _, rfl, _, rfl, t, b, D', g, runs (gs.take i) ns, ys', os, rfl, (t2.trans t5).seqT ht, SqL.of ((s2.trans t5) _ _ b1), SqL.of (n5 _ _ hd'), hY'.mono fun _ _ z => z.to n5, by rw [runs_length, hn]; exact N.ok g (List.mem_of_getElem? hg), by rw [runs_length]; exact ol, fun H6 p6 zs s6 p60 p61 hZ => ?_⟩
      refine ⟨(s4.trans n5).trans s6, p6, zs, _, _, _, ((t2.trans t5).free p60), p61, hZ, by rw [led_len]; exact ol, ?_, rfl⟩
      rw [← oe, runs_take_succ hg]
      have hi' : i < gs.length := (List.getElem?_eq_some_iff.mp hg).1
      rw [List.drop_eq_getElem_cons hi', show gs[i] = g from (List.getElem?_eq_some_iff.mp hg).2]
      rfl
    · obtain ⟨s4, D', ys', os, v4, v5, d0, hd', hY', ol, oe, rfl⟩ := z
      rw [List.drop_length] at oe
      have oe' : os = orgs gs ns := oe
      subst oe'
      exact ⟨_, rfl, k _ D' ys' (t2.trans (n3.trans s4)) d0 hd' hY'⟩
theorem c_origins (T : Txt K mg C) : C8.Cal P w K mg base 6 "origins" (sp_origins K C) [] := let ⟨f, fd, D, b⟩ := T.d_origins; ⟨f, fd, _, [], fn_origins T D.fn, D.mgf, D.kp, b, .nil⟩
theorem ck_origins (T : Txt K mg C) : CalK P w K mg base 6 "origins" (sp_origins K C) ["content", "net"] rot2 := let ⟨f, fd, D, b⟩ := T.k_origins; ⟨f, fd, _, _, fn_origins T D.fn, D.mgf, D.kp, b⟩
end
end LL

namespace LL
open PySem L2 PySem.Spec PyProof.Rows
/-! ### the mathematics of origins -/
theorem at0_set {ns : List Int} {i k : Nat} {v : Int} (h : i < ns.length) : at0 (ns.set i v) k = if k = i then v else at0 ns k := by
  unfold at0
  rw [List.getD_eq_getElem?_getD, List.getD_eq_getElem?_getD, List.getElem?_set]
  by_cases e : i = k
  · subst e
    rw [if_pos rfl, if_pos rfl, if_pos h]
    rfl
  · rw [if_neg e, if_neg (fun z => e z.symm)]
theorem oat_set {os : List Og} {i k : Nat} {v : Og} (h : i < os.length) : oat (os.set i v) k = if k = i then v else oat os k := by
  unfold oat
  rw [List.getD_eq_getElem?_getD, List.getD_eq_getElem?_getD, List.getElem?_set]
  by_cases e : i = k
  · subst e
    rw [if_pos rfl, if_pos rfl, if_pos h]
    rfl
  · rw [if_neg e, if_neg (fun z => e z.symm)]
theorem oat0 {n i : Nat} (h : i < n) : oat (org0 n) i = (i, 0) := by
  unfold oat org0
  rw [List.getD_eq_getElem?_getD, List.getElem?_map, List.getElem?_range h]
  rfl
theorem og_ext {xs ys : List Og} (hl : xs.length = ys.length) (h : ∀ i, i < xs.length → oat xs i = oat ys i) : xs = ys := by
  apply List.ext_getElem hl
  intro i h1 h2
  have q := h i h1
  unfold oat at q
  rw [List.getD_eq_getElem?_getD, List.getD_eq_getElem?_getD, List.getElem?_eq_getElem h1, List.getElem?_eq_getElem h2] at q
  exact q
theorem orgF_app : ∀ (gs hs : List Gt) (ns : List Int) (os : List Og), orgF (gs ++ hs) ns os = orgF hs (runs gs ns) (orgF gs ns os)
  | [], _, _, _ => rfl
  | g :: r, hs, ns, os => orgF_app r hs (g.done ns) (g.led ns os)
/-- a relation that each gate keeps holds in the end -/
theorem orgF_rel {n : Nat} {f : Gt → Gt} {R : List Int → List Og → List Int → List Og → Prop} (step : ∀ g ns os ns' os', g.ok n → R ns os ns' os' → R (g.done ns) (g.led ns os) ((f g).done ns') ((f g).led ns' os')) :
    ∀ (gs : List Gt) (ns : List Int) (os : List Og) (ns' : List Int) (os' : List Og), (∀ g ∈ gs, g.ok n) → R ns os ns' os' → R (runs gs ns) (orgF gs ns os) (runs (gs.map f) ns') (orgF (gs.map f) ns' os')
  | [], _, _, _, _, _, h => h
  | g :: r, ns, os, ns', os', ho, h => orgF_rel step r _ _ _ _ (fun g' hg => ho g' (List.mem_cons_of_mem _ hg)) (step g ns os ns' os' (ho g List.mem_cons_self) h)
/-- what stands on a lane is the number of the lane where it comes from, and the sum -/
theorem org_value {gs : List Gt} {ns : List Int} (ho : ∀ g ∈ gs, g.ok ns.length) : ∀ i, i < ns.length → (oat (orgs gs ns) i).1 < ns.length ∧ at0 (runs gs ns) i = at0 ns (oat (orgs gs ns) i).1 + (oat (orgs gs ns) i).2 := by
  have q := orgF_rel (n := ns.length) (f := id) (R := fun cs os _ _ => cs.length = ns.length ∧ os.length = ns.length ∧ ∀ i, i < ns.length → (oat os i).1 < ns.length ∧ at0 cs i = at0 ns (oat os i).1 + (oat os i).2) (fun g cs os _ _ hg ⟨lc, lo, h⟩ => by
    refine ⟨by rw [done_length, lc], by rw [led_len, lo], fun k hk => ?_⟩
    have hk' := h k hk
    cases g with
    | add i c =>
      have hi : i < ns.length := hg
      show (oat (os.set i _) k).1 < _ ∧ at0 (cs.set i _) k = at0 ns (oat (os.set i _) k).1 + (oat (os.set i _) k).2
      rw [oat_set (by omega), at0_set (by omega)]
      by_cases e : k = i
      · subst e
        rw [if_pos rfl, if_pos rfl]
        refine ⟨hk'.1, ?_⟩
        show at0 cs k + c = at0 ns (oat os k).1 + ((oat os k).2 + c)
        rw [hk'.2]
        omega
      · rw [if_neg e, if_neg e]
        exact hk'
    | copy i j =>
      obtain ⟨hi, hj, _⟩ := hg
      show (oat (os.set i _) k).1 < _ ∧ at0 (cs.set i _) k = at0 ns (oat (os.set i _) k).1 + (oat (os.set i _) k).2
      rw [oat_set (by omega), at0_set (by omega)]
      by_cases e : k = i
      · rw [if_pos e, if_pos e]
        exact h j hj
      · rw [if_neg e, if_neg e]
        exact hk'
    | low i j =>
      obtain ⟨hi, hj, _⟩ := hg
      show (oat (if at0 cs j < at0 cs i then os.set i (oat os j) else os) k).1 < _ ∧ at0 (cs.set i (if at0 cs j < at0 cs i then at0 cs j else at0 cs i)) k = at0 ns (oat (if at0 cs j < at0 cs i then os.set i (oat os j) else os) k).1 + (oat (if at0 cs j < at0 cs i then os.set i (oat os j) else os) k).2
      rw [at0_set (by omega)]
      by_cases c : at0 cs j < at0 cs i
      · rw [if_pos c, if_pos c, oat_set (by omega)]
        by_cases e : k = i
        · rw [if_pos e, if_pos e]
          exact h j hj
        · rw [if_neg e, if_neg e]
          exact hk'
      · rw [if_neg c, if_neg c]
        by_cases e : k = i
        · rw [if_pos e, ← e]
          exact hk'
        · rw [if_neg e]
          exact hk'
    | high i j =>
      obtain ⟨hi, hj, _⟩ := hg
      show (oat (if at0 cs i < at0 cs j then os.set i (oat os j) else os) k).1 < _ ∧ at0 (cs.set i (if at0 cs j > at0 cs i then at0 cs j else at0 cs i)) k = at0 ns (oat (if at0 cs i < at0 cs j then os.set i (oat os j) else os) k).1 + (oat (if at0 cs i < at0 cs j then os.set i (oat os j) else os) k).2
      rw [at0_set (by omega)]
      by_cases c : at0 cs i < at0 cs j
      · rw [if_pos c, if_pos c, oat_set (by omega)]
        by_cases e : k = i
        · rw [if_pos e, if_pos e]
          exact h j hj
        · rw [if_neg e, if_neg e]
          exact hk'
      · rw [if_neg c, if_neg c]
        by_cases e : k = i
        · rw [if_pos e, ← e]
          exact hk'
        · rw [if_neg e]
          exact hk'
    | sort i j =>
      obtain ⟨hi, hj, hij⟩ := hg
      show (oat (if at0 cs j < at0 cs i then (os.set i (oat os j)).set j (oat os i) else os) k).1 < _ ∧ at0 ((cs.set i (if at0 cs j < at0 cs i then at0 cs j else at0 cs i)).set j (if at0 cs j > at0 cs i then at0 cs j else at0 cs i)) k = at0 ns (oat (if at0 cs j < at0 cs i then (os.set i (oat os j)).set j (oat os i) else os) k).1 + (oat (if at0 cs j < at0 cs i then (os.set i (oat os j)).set j (oat os i) else os) k).2
      rw [at0_set (by rw [List.length_set]; omega), at0_set (by omega)]
      by_cases c : at0 cs j < at0 cs i
      · have c' : ¬ at0 cs j > at0 cs i := by omega
        rw [if_pos c, if_pos c, if_neg c', oat_set (by rw [List.length_set]; omega), oat_set (by omega)]
        by_cases e : k = j
        · rw [if_pos e, if_pos e]
          exact h i hi
        · rw [if_neg e, if_neg e]
          by_cases e2 : k = i
          · rw [if_pos e2, if_pos e2]
            exact h j hj
          · rw [if_neg e2, if_neg e2]
            exact hk'
      · rw [if_neg c, if_neg c]
        by_cases e : k = j
        · rw [if_pos e]
          have : (if at0 cs j > at0 cs i then at0 cs j else at0 cs i) = at0 cs j := by split <;> omega
          rw [this, ← e]
          exact hk'
        · rw [if_neg e]
          by_cases e2 : k = i
          · rw [if_pos e2, ← e2]
            exact hk'
          · rw [if_neg e2]
            exact hk') gs ns (org0 ns.length) ns (org0 ns.length) ho ⟨rfl, org0_len _, fun i hi => by rw [oat0 hi]; exact ⟨hi, by show at0 ns i = at0 ns i + 0; omega⟩⟩
  exact q.2.2
theorem at0_raised {ns : List Int} {z : Int} {i : Nat} (h : i < ns.length) : at0 (raisedL ns z) i = at0 ns i + z := by
  unfold at0 raisedL
  rw [List.getD_eq_getElem?_getD, List.getD_eq_getElem?_getD, List.getElem?_map, List.getElem?_eq_getElem h]
  rfl
theorem at0_turned {ns : List Int} {i : Nat} (h : i < ns.length) : at0 (turnedL ns) i = -at0 ns i := by
  unfold at0 turnedL
  rw [List.getD_eq_getElem?_getD, List.getD_eq_getElem?_getD, List.getElem?_map, List.getElem?_eq_getElem h]
  rfl
theorem map_put {f : Int → Int} {ns : List Int} {i : Nat} {v : Int} : (ns.map f).set i (f v) = (ns.set i v).map f := (List.map_set ..).symm
theorem ite_same {α : Type} {p q : Prop} [Decidable p] [Decidable q] {a b : α} (h : p ↔ q) : (if p then a else b) = if q then a else b := by
  by_cases hp : p
  · rw [if_pos hp, if_pos (h.mp hp)]
  · rw [if_neg hp, if_neg (fun c => hp (h.mpr c))]
theorem led_congr {g : Gt} {n : Nat} (hg : g.ok n) {cs ds : List Int} {os : List Og} (h : ∀ i j, i < n → j < n → (at0 cs i < at0 cs j ↔ at0 ds i < at0 ds j)) : g.led cs os = g.led ds os := by
  cases g with
  | add i c => rfl
  | copy i j => rfl
  | low i j =>
    show (if _ then _ else _ : List Og) = if _ then _ else _
    exact ite_same (h j i hg.2.1 hg.1)
  | high i j =>
    show (if _ then _ else _ : List Og) = if _ then _ else _
    exact ite_same (h i j hg.1 hg.2.1)
  | sort i j =>
    show (if _ then _ else _ : List Og) = if _ then _ else _
    exact ite_same (h j i hg.2.1 hg.1)
theorem done_raised {g : Gt} {ns : List Int} {z : Int} (hg : g.ok ns.length) : g.done (raisedL ns z) = raisedL (g.done ns) z := by
  have mnr : ∀ a b : Int, mn (a + z) (b + z) = mn a b + z := fun a b => by unfold mn; split <;> split <;> omega
  have mxr : ∀ a b : Int, mx (a + z) (b + z) = mx a b + z := fun a b => by unfold mx; split <;> split <;> omega
  cases g with
  | add i c =>
    show (raisedL ns z).set i (at0 (raisedL ns z) i + c) = raisedL (ns.set i (at0 ns i + c)) z
    rw [at0_raised hg, show at0 ns i + z + c = (at0 ns i + c) + z by omega]
    exact map_put (f := fun x => x + z)
  | copy i j =>
    show (raisedL ns z).set i (at0 (raisedL ns z) j) = raisedL (ns.set i (at0 ns j)) z
    rw [at0_raised hg.2.1]
    exact map_put (f := fun x => x + z)
  | low i j =>
    show (raisedL ns z).set i (mn (at0 (raisedL ns z) i) (at0 (raisedL ns z) j)) = raisedL (ns.set i (mn (at0 ns i) (at0 ns j))) z
    rw [at0_raised hg.1, at0_raised hg.2.1, mnr]
    exact map_put (f := fun x => x + z)
  | high i j =>
    show (raisedL ns z).set i (mx (at0 (raisedL ns z) i) (at0 (raisedL ns z) j)) = raisedL (ns.set i (mx (at0 ns i) (at0 ns j))) z
    rw [at0_raised hg.1, at0_raised hg.2.1, mxr]
    exact map_put (f := fun x => x + z)
  | sort i j =>
    show ((raisedL ns z).set i (mn (at0 (raisedL ns z) i) (at0 (raisedL ns z) j))).set j (mx (at0 (raisedL ns z) i) (at0 (raisedL ns z) j)) = raisedL ((ns.set i (mn (at0 ns i) (at0 ns j))).set j (mx (at0 ns i) (at0 ns j))) z
    rw [at0_raised hg.1, at0_raised hg.2.1, mnr, mxr]
    unfold raisedL
    rw [map_put (f := fun x => x + z), map_put (f := fun x => x + z)]
theorem org_raised {gs : List Gt} {ns : List Int} {z : Int} (ho : ∀ g ∈ gs, g.ok ns.length) : orgs gs (raisedL ns z) = orgs gs ns := by
  have q := orgF_rel (n := ns.length) (f := id) (R := fun cs os ds ps => cs.length = ns.length ∧ ds = raisedL cs z ∧ ps = os) (fun g cs os ds ps hg ⟨lc, e1, e2⟩ => by
    subst e1 e2
    refine ⟨by rw [done_length, lc], done_raised (by rw [lc]; exact hg), led_congr hg fun i j hi hj => ?_⟩
    rw [at0_raised (by omega), at0_raised (by omega)]
    omega) gs ns (org0 ns.length) (raisedL ns z) (org0 ns.length) ho ⟨rfl, rfl, rfl⟩
  have e := q.2.2
  rw [List.map_id] at e
  unfold orgs
  rw [show (raisedL ns z).length = ns.length from List.length_map ..]
  exact e
theorem org_plain {gs : List Gt} {ns : List Int} (ho : ∀ g ∈ gs, g.ok ns.length) (hp : plainL gs = true) : ∀ i, i < ns.length → (oat (orgs gs ns) i).2 = 0 := by
  have hp' : ∀ g ∈ gs, g.ok ns.length ∧ g.isAdd = false := fun g hg => ⟨ho g hg, by have := List.all_eq_true.mp hp g hg; simpa using this⟩
  have gen : ∀ (gs : List Gt) (cs : List Int) (os : List Og), (∀ g ∈ gs, g.ok ns.length ∧ g.isAdd = false) → os.length = ns.length → (∀ i, i < ns.length → (oat os i).2 = 0) → ∀ i, i < ns.length → (oat (orgF gs cs os) i).2 = 0 := by
    intro gs
    induction gs with
    | nil => exact fun cs os _ _ h => h
    | cons g r ih =>
      intro cs os hg hl h
      refine ih (g.done cs) (g.led cs os) (fun g' h' => hg g' (List.mem_cons_of_mem _ h')) (by rw [led_len]; exact hl) fun k hk => ?_
      obtain ⟨ok, na⟩ := hg g List.mem_cons_self
      cases g with
      | add i c => cases na
      | copy i j =>
        show (oat (os.set i (oat os j)) k).2 = 0
        rw [oat_set (by have := ok.1; omega)]
        split
        · exact h j ok.2.1
        · exact h k hk
      | low i j =>
        show (oat (if _ then os.set i (oat os j) else os) k).2 = 0
        split
        · rw [oat_set (by have := ok.1; omega)]
          split
          · exact h j ok.2.1
          · exact h k hk
        · exact h k hk
      | high i j =>
        show (oat (if _ then os.set i (oat os j) else os) k).2 = 0
        split
        · rw [oat_set (by have := ok.1; omega)]
          split
          · exact h j ok.2.1
          · exact h k hk
        · exact h k hk
      | sort i j =>
        show (oat (if _ then (os.set i (oat os j)).set j (oat os i) else os) k).2 = 0
        split
        · rw [oat_set (by rw [List.length_set]; have := ok.2.1; omega)]
          split
          · exact h i ok.1
          · rw [oat_set (by have := ok.1; omega)]
            split
            · exact h j ok.2.1
            · exact h k hk
        · exact h k hk
  exact gen gs ns (org0 ns.length) hp' (org0_len _) fun i hi => by rw [oat0 hi]
/-! ### behind another net -/
def led2 (near : List Og) (f : Og) : Og := ((oat near f.1).1, (oat near f.1).2 + f.2)
theorem oat_map {φ : Og → Og} {os : List Og} {i : Nat} (h : i < os.length) : oat (os.map φ) i = φ (oat os i) := by
  unfold oat
  rw [List.getD_eq_getElem?_getD, List.getD_eq_getElem?_getD, List.getElem?_map, List.getElem?_eq_getElem h]
  rfl
theorem led_map {φ : Og → Og} (hφ : ∀ o c, φ (o.1, o.2 + c) = ((φ o).1, (φ o).2 + c)) {g : Gt} {cs : List Int} {os : List Og} (hg : g.ok os.length) : g.led cs (os.map φ) = (g.led cs os).map φ := by
  cases g with
  | add i c =>
    show (os.map φ).set i ((oat (os.map φ) i).1, (oat (os.map φ) i).2 + c) = (os.set i ((oat os i).1, (oat os i).2 + c)).map φ
    rw [oat_map hg, List.map_set, hφ]
  | copy i j =>
    show (os.map φ).set i (oat (os.map φ) j) = (os.set i (oat os j)).map φ
    rw [oat_map hg.2.1, List.map_set]
  | low i j =>
    show (if _ then (os.map φ).set i (oat (os.map φ) j) else os.map φ) = (if _ then os.set i (oat os j) else os).map φ
    rw [oat_map hg.2.1]
    split
    · rw [List.map_set]
    · rfl
  | high i j =>
    show (if _ then (os.map φ).set i (oat (os.map φ) j) else os.map φ) = (if _ then os.set i (oat os j) else os).map φ
    rw [oat_map hg.2.1]
    split
    · rw [List.map_set]
    · rfl
  | sort i j =>
    show (if _ then ((os.map φ).set i (oat (os.map φ) j)).set j (oat (os.map φ) i) else os.map φ) = (if _ then (os.set i (oat os j)).set j (oat os i) else os).map φ
    rw [oat_map hg.2.1, oat_map hg.1]
    split
    · rw [List.map_set, List.map_set]
    · rfl
theorem org_behind {gs hs : List Gt} {ns : List Int} (ho : ∀ g ∈ hs, g.ok ns.length) : orgs (gs ++ hs) ns = (orgs hs (runs gs ns)).map (led2 (orgs gs ns)) := by
  have ln := orgs_len gs ns
  have start : (org0 ns.length).map (led2 (orgs gs ns)) = orgs gs ns := og_ext (by rw [List.length_map, org0_len, ln]) fun i hi => by
    rw [List.length_map, org0_len] at hi
    rw [oat_map (by rw [org0_len]; exact hi), oat0 hi]
    show ((oat (orgs gs ns) i).1, (oat (orgs gs ns) i).2 + 0) = _
    rw [Int.add_zero]
  have gen : ∀ (hs : List Gt) (cs : List Int) (os : List Og), (∀ g ∈ hs, g.ok ns.length) → os.length = ns.length → orgF hs cs (os.map (led2 (orgs gs ns))) = (orgF hs cs os).map (led2 (orgs gs ns)) := by
    intro hs
    induction hs with
    | nil => exact fun _ _ _ _ => rfl
    | cons g r ih =>
      intro cs os hg hl
      show orgF r (g.done cs) (g.led cs (os.map _)) = (orgF r (g.done cs) (g.led cs os)).map _
      rw [led_map (fun o c => by unfold led2; show _ = (_, _ + _ + c); rw [Int.add_assoc]) (by rw [hl]; exact hg g List.mem_cons_self)]
      exact ih _ _ (fun g' h' => hg g' (List.mem_cons_of_mem _ h')) (by rw [led_len]; exact hl)
  show orgF (gs ++ hs) ns (org0 ns.length) = (orgF hs (runs gs ns) (org0 (runs gs ns).length)).map _
  rw [orgF_app, runs_length, ← gen hs _ _ ho (org0_len _), start]
  rfl
/-! ### turned about -/
def nO (o : Og) : Og := (o.1, -o.2)
theorem at0_turned' {ns : List Int} {i : Nat} (h : i < ns.length) : at0 (turnedL ns) i = -at0 ns i := by
  unfold at0 turnedL
  rw [List.getD_eq_getElem?_getD, List.getD_eq_getElem?_getD, List.getElem?_map, List.getElem?_eq_getElem h]
  rfl
theorem done_turned {g : Gt} {ns : List Int} (hg : g.ok ns.length) : g.tn.done (turnedL ns) = turnedL (g.done ns) := by
  have mnt : ∀ a b : Int, mn (-a) (-b) = -mx a b := fun a b => by unfold mn mx; split <;> split <;> omega
  have mxt : ∀ a b : Int, mx (-a) (-b) = -mn a b := fun a b => by unfold mn mx; split <;> split <;> omega
  have mnc : ∀ a b : Int, mn a b = mn b a := fun a b => by unfold mn; split <;> split <;> omega
  have mxc : ∀ a b : Int, mx a b = mx b a := fun a b => by unfold mx; split <;> split <;> omega
  cases g with
  | add i c =>
    show (turnedL ns).set i (at0 (turnedL ns) i + -c) = turnedL (ns.set i (at0 ns i + c))
    rw [at0_turned' hg, show -at0 ns i + -c = -(at0 ns i + c) by omega]
    exact map_put (f := fun x => -x)
  | copy i j =>
    show (turnedL ns).set i (at0 (turnedL ns) j) = turnedL (ns.set i (at0 ns j))
    rw [at0_turned' hg.2.1]
    exact map_put (f := fun x => -x)
  | low i j =>
    show (turnedL ns).set i (mx (at0 (turnedL ns) i) (at0 (turnedL ns) j)) = turnedL (ns.set i (mn (at0 ns i) (at0 ns j)))
    rw [at0_turned' hg.1, at0_turned' hg.2.1, mxt]
    exact map_put (f := fun x => -x)
  | high i j =>
    show (turnedL ns).set i (mn (at0 (turnedL ns) i) (at0 (turnedL ns) j)) = turnedL (ns.set i (mx (at0 ns i) (at0 ns j)))
    rw [at0_turned' hg.1, at0_turned' hg.2.1, mnt]
    exact map_put (f := fun x => -x)
  | sort i j =>
    show ((turnedL ns).set j (mn (at0 (turnedL ns) j) (at0 (turnedL ns) i))).set i (mx (at0 (turnedL ns) j) (at0 (turnedL ns) i)) = turnedL ((ns.set i (mn (at0 ns i) (at0 ns j))).set j (mx (at0 ns i) (at0 ns j)))
    rw [at0_turned' hg.1, at0_turned' hg.2.1, mnt, mxt, mnc (at0 ns j), mxc (at0 ns j), List.set_comm _ _ (fun e => hg.2.2 e.symm)]
    unfold turnedL
    rw [map_put (f := fun x => -x), map_put (f := fun x => -x)]
theorem led_turned {g : Gt} {ns : List Int} {os : List Og} (hg : g.ok ns.length) (hl : os.length = ns.length) : g.tn.led (turnedL ns) (os.map nO) = (g.led ns os).map nO := by
  have lt : ∀ i j, i < ns.length → j < ns.length → (at0 (turnedL ns) i < at0 (turnedL ns) j ↔ at0 ns j < at0 ns i) := fun i j hi hj => by
    rw [at0_turned' hi, at0_turned' hj]
    omega
  have om : ∀ i, i < ns.length → oat (os.map nO) i = nO (oat os i) := fun i hi => oat_map (by rw [hl]; exact hi)
  cases g with
  | add i c =>
    show (os.map nO).set i ((oat (os.map nO) i).1, (oat (os.map nO) i).2 + -c) = (os.set i ((oat os i).1, (oat os i).2 + c)).map nO
    rw [om i hg, List.map_set]
    show (os.map nO).set i ((oat os i).1, -(oat os i).2 + -c) = (os.map nO).set i ((oat os i).1, -((oat os i).2 + c))
    rw [Int.neg_add]
  | copy i j =>
    show (os.map nO).set i (oat (os.map nO) j) = (os.set i (oat os j)).map nO
    rw [om j hg.2.1, List.map_set]
  | low i j =>
    show (if at0 (turnedL ns) i < at0 (turnedL ns) j then (os.map nO).set i (oat (os.map nO) j) else os.map nO) = (if at0 ns j < at0 ns i then os.set i (oat os j) else os).map nO
    rw [om j hg.2.1, ite_same (lt i j hg.1 hg.2.1)]
    split
    · rw [List.map_set]
    · rfl
  | high i j =>
    show (if at0 (turnedL ns) j < at0 (turnedL ns) i then (os.map nO).set i (oat (os.map nO) j) else os.map nO) = (if at0 ns i < at0 ns j then os.set i (oat os j) else os).map nO
    rw [om j hg.2.1, ite_same (lt j i hg.2.1 hg.1)]
    split
    · rw [List.map_set]
    · rfl
  | sort i j =>
    show (if at0 (turnedL ns) i < at0 (turnedL ns) j then ((os.map nO).set j (oat (os.map nO) i)).set i (oat (os.map nO) j) else os.map nO) = (if at0 ns j < at0 ns i then (os.set i (oat os j)).set j (oat os i) else os).map nO
    rw [om j hg.2.1, om i hg.1, ite_same (lt i j hg.1 hg.2.1)]
    split
    · rw [List.map_set, List.map_set, List.set_comm _ _ (fun e => hg.2.2 e.symm)]
    · rfl
theorem org_turned {gs : List Gt} {ns : List Int} (ho : ∀ g ∈ gs, g.ok ns.length) : orgs (gs.map Gt.tn) (turnedL ns) = (orgs gs ns).map nO := by
  have start : org0 (turnedL ns).length = (org0 ns.length).map nO := by
    rw [show (turnedL ns).length = ns.length from List.length_map ..]
    unfold org0
    rw [List.map_map]
    apply List.map_congr_left
    intro i _
    rfl
  have q := orgF_rel (n := ns.length) (f := Gt.tn) (R := fun cs os ds ps => cs.length = ns.length ∧ os.length = ns.length ∧ ds = turnedL cs ∧ ps = os.map nO) (fun g cs os ds ps hg ⟨lc, lo, e1, e2⟩ => by
    subst e1 e2
    exact ⟨by rw [done_length, lc], by rw [led_len, lo], done_turned (by rw [lc]; exact hg), led_turned (by rw [lc]; exact hg) (by rw [lo, lc])⟩) gs ns (org0 ns.length) (turnedL ns) _ ho ⟨rfl, org0_len _, rfl, rfl⟩
  unfold orgs
  rw [start]
  exact q.2.2.2
/-! ### on other lanes -/
theorem put_at : ∀ (l : List (Nat × Int)) (fs : List Int), (l.map Prod.fst).Nodup → (∀ p ∈ l, p.1 < fs.length) → (∀ p ∈ l, at0 (l.foldl (fun f p => f.set p.1 p.2) fs) p.1 = p.2) ∧ ∀ k, k ∉ l.map Prod.fst → at0 (l.foldl (fun f p => f.set p.1 p.2) fs) k = at0 fs k
  | [], fs, _, _ => ⟨fun _ h => (List.not_mem_nil h).elim, fun _ _ => rfl⟩
  | q :: l, fs, nd, hl => by
    rw [List.map_cons, List.nodup_cons] at nd
    obtain ⟨h1, h2⟩ := put_at l (fs.set q.1 q.2) nd.2 (fun p hp => by rw [List.length_set]; exact hl p (List.mem_cons_of_mem _ hp))
    have hq := hl q List.mem_cons_self
    refine ⟨fun p hp => ?_, fun k hk => ?_⟩
    · rcases List.mem_cons.mp hp with e | hp
      · subst e
        show at0 (l.foldl _ (fs.set p.1 p.2)) p.1 = p.2
        rw [h2 p.1 nd.1, at0_set hq, if_pos rfl]
      · exact h1 p hp
    · rw [List.map_cons, List.mem_cons, not_or] at hk
      show at0 (l.foldl _ (fs.set q.1 q.2)) k = _
      rw [h2 k hk.2, at0_set hq, if_neg hk.1]
theorem moved_at {os : List Nat} {ns : List Int} (ho : IsOrd os ns.length) {i : Nat} (hi : i < ns.length) : at0 (movedL os ns) (ord os i) = at0 ns i := by
  have hl := ho.len
  have nd : os.Nodup := ho.nodup_iff.mpr List.nodup_range
  have e : (os.zip ns).map Prod.fst = os := List.map_fst_zip (by omega)
  have q := (put_at (os.zip ns) ns (by rw [e]; exact nd) (fun p hp => ho.lt (by rw [← e]; exact List.mem_map_of_mem hp))).1 (ord os i, at0 ns i) (by
    refine List.mem_of_getElem? (i := i) ?_
    rw [List.getElem?_zip_eq_some]
    unfold ord at0
    rw [List.getD_eq_getElem?_getD, List.getD_eq_getElem?_getD, List.getElem?_eq_getElem (show i < os.length by omega), List.getElem?_eq_getElem hi]
    exact ⟨rfl, rfl⟩)
  exact q
theorem moved_len {os : List Nat} {ns : List Int} : (movedL os ns).length = ns.length := put_len _ _
theorem org_moved {gs : List Gt} {ns : List Int} {rs : List Nat} (hr : IsOrd rs ns.length) (ho : ∀ g ∈ gs, g.ok ns.length) : ∀ i, i < ns.length → oat (orgs (gs.map (Gt.mv rs)) (movedL rs ns)) (ord rs i) = (ord rs (oat (orgs gs ns) i).1, (oat (orgs gs ns) i).2) := by
  have lt : ∀ {i}, i < ns.length → ord rs i < ns.length := fun hi => hr.lt (ord_mem (by rw [hr.len]; exact hi))
  have same : ∀ {i k}, i < ns.length → k < ns.length → (ord rs k = ord rs i ↔ k = i) := fun hi hk => ⟨fun e => ord_inj hr hk hi e, fun e => by rw [e]⟩
  have q := orgF_rel (n := ns.length) (f := Gt.mv rs) (R := fun cs os ds ps => cs.length = ns.length ∧ os.length = ns.length ∧ ds.length = ns.length ∧ ps.length = ns.length ∧ ∀ i, i < ns.length → at0 ds (ord rs i) = at0 cs i ∧ oat ps (ord rs i) = (ord rs (oat os i).1, (oat os i).2)) (fun g cs os ds ps hg ⟨lc, lo, ld, lp, h⟩ => by
    refine ⟨by rw [done_length, lc], by rw [led_len, lo], by rw [done_length, ld], by rw [led_len, lp], fun k hk => ?_⟩
    have ok := lt hk
    cases g with
    | add i c =>
      have hi : i < ns.length := hg
      have oi := lt hi
      show at0 (ds.set (ord rs i) (at0 ds (ord rs i) + c)) (ord rs k) = at0 (cs.set i (at0 cs i + c)) k ∧ oat (ps.set (ord rs i) ((oat ps (ord rs i)).1, (oat ps (ord rs i)).2 + c)) (ord rs k) = _
      show _ ∧ _ = (ord rs (oat (os.set i ((oat os i).1, (oat os i).2 + c)) k).1, (oat (os.set i ((oat os i).1, (oat os i).2 + c)) k).2)
      rw [at0_set (by omega), at0_set (by omega), oat_set (by omega), oat_set (by omega), ite_same (same hi hk), ite_same (same hi hk), (h i hi).1, (h i hi).2, (h k hk).1, (h k hk).2]
      refine ⟨rfl, ?_⟩
      split <;> rfl
    | copy i j =>
      have hi := hg.1
      have hj := hg.2.1
      have oi := lt hi
      show at0 (ds.set (ord rs i) (at0 ds (ord rs j))) (ord rs k) = at0 (cs.set i (at0 cs j)) k ∧ oat (ps.set (ord rs i) (oat ps (ord rs j))) (ord rs k) = (ord rs (oat (os.set i (oat os j)) k).1, (oat (os.set i (oat os j)) k).2)
      rw [at0_set (by omega), at0_set (by omega), oat_set (by omega), oat_set (by omega), ite_same (same hi hk), ite_same (same hi hk), (h j hj).1, (h j hj).2, (h k hk).1, (h k hk).2]
      refine ⟨rfl, ?_⟩
      split <;> rfl
    | low i j =>
      have hi := hg.1
      have hj := hg.2.1
      have oi := lt hi
      show at0 (ds.set (ord rs i) (mn (at0 ds (ord rs i)) (at0 ds (ord rs j)))) (ord rs k) = at0 (cs.set i (mn (at0 cs i) (at0 cs j))) k ∧ oat (if at0 ds (ord rs j) < at0 ds (ord rs i) then ps.set (ord rs i) (oat ps (ord rs j)) else ps) (ord rs k) = (ord rs (oat (if at0 cs j < at0 cs i then os.set i (oat os j) else os) k).1, (oat (if at0 cs j < at0 cs i then os.set i (oat os j) else os) k).2)
      rw [at0_set (by omega), at0_set (by omega), ite_same (same hi hk), (h i hi).1, (h j hj).1, (h k hk).1]
      refine ⟨rfl, ?_⟩
      split
      · rw [oat_set (by omega), oat_set (by omega), ite_same (same hi hk), (h j hj).2, (h k hk).2]
        split <;> rfl
      · exact (h k hk).2
    | high i j =>
      have hi := hg.1
      have hj := hg.2.1
      have oi := lt hi
      show at0 (ds.set (ord rs i) (mx (at0 ds (ord rs i)) (at0 ds (ord rs j)))) (ord rs k) = at0 (cs.set i (mx (at0 cs i) (at0 cs j))) k ∧ oat (if at0 ds (ord rs i) < at0 ds (ord rs j) then ps.set (ord rs i) (oat ps (ord rs j)) else ps) (ord rs k) = (ord rs (oat (if at0 cs i < at0 cs j then os.set i (oat os j) else os) k).1, (oat (if at0 cs i < at0 cs j then os.set i (oat os j) else os) k).2)
      rw [at0_set (by omega), at0_set (by omega), ite_same (same hi hk), (h i hi).1, (h j hj).1, (h k hk).1]
      refine ⟨rfl, ?_⟩
      split
      · rw [oat_set (by omega), oat_set (by omega), ite_same (same hi hk), (h j hj).2, (h k hk).2]
        split <;> rfl
      · exact (h k hk).2
    | sort i j =>
      have hi := hg.1
      have hj := hg.2.1
      have oi := lt hi
      have oj := lt hj
      show at0 ((ds.set (ord rs i) (mn (at0 ds (ord rs i)) (at0 ds (ord rs j)))).set (ord rs j) (mx (at0 ds (ord rs i)) (at0 ds (ord rs j)))) (ord rs k) = at0 ((cs.set i (mn (at0 cs i) (at0 cs j))).set j (mx (at0 cs i) (at0 cs j))) k ∧ oat (if at0 ds (ord rs j) < at0 ds (ord rs i) then (ps.set (ord rs i) (oat ps (ord rs j))).set (ord rs j) (oat ps (ord rs i)) else ps) (ord rs k) = (ord rs (oat (if at0 cs j < at0 cs i then (os.set i (oat os j)).set j (oat os i) else os) k).1, (oat (if at0 cs j < at0 cs i then (os.set i (oat os j)).set j (oat os i) else os) k).2)
      rw [at0_set (by rw [List.length_set]; omega), at0_set (by omega), at0_set (by rw [List.length_set]; omega), at0_set (by omega), ite_same (same hi hk), ite_same (same hj hk), (h i hi).1, (h j hj).1, (h k hk).1]
      refine ⟨rfl, ?_⟩
      split
      · rw [oat_set (by rw [List.length_set]; omega), oat_set (by omega), oat_set (by rw [List.length_set]; omega), oat_set (by omega), ite_same (same hi hk), ite_same (same hj hk), (h j hj).2, (h i hi).2, (h k hk).2]
        split
        · rfl
        · split <;> rfl
      · exact (h k hk).2) gs ns (org0 ns.length) (movedL rs ns) (org0 ns.length) ho ⟨rfl, org0_len _, moved_len, org0_len _, fun i hi => ⟨moved_at hr hi, by rw [oat0 (lt hi), oat0 hi]⟩⟩
  intro i hi
  have e := (q.2.2.2.2 i hi).2
  unfold orgs
  rw [moved_len]
  exact e
end LL

namespace LL
open PySem L2 PySem.Spec PyProof.Rows
section
variable {P : Program} {w : World} {K : PySem.W.Frag} {mg : Str → Option Value} {base : Heap} {C : Addr}
def sp_law_led (K : PySem.W.Frag) : Sp := fun vs H Q _ => ∃ (t a b : Addr) (g : Gt) (ns : List Int) (xs : List V) (os : List Og), vs = [V.ref t, V.ref a, V.ref b] ∧ SqT K H t g.vals ∧ SqL K H a (ns.map V.int) ∧ SqL K H b xs ∧ All2 (IsO K H) xs os ∧ g.ok ns.length ∧ os.length = ns.length ∧
  ∀ H' p ys, Same H H' → H p = none → H' p = some (.lst ys) → All2 (IsO K H') ys (g.led ns os) → Q (.ref p) H'
theorem c_law_led (T : Txt K mg C) : C8.Cal P w K mg base 1 "_law_led" (sp_law_led K) [] := by
  refine T.d_law_led.cal sc_law_led (fun vs H Q E h => ?_) (fun f cdv A outer s H vs Q E hr h => ?_)
  · obtain ⟨t, a, b, g, ns, xs, os, rfl, _⟩ := h
    rfl
  · obtain ⟨t, a, b, g, ns, xs, os, rfl, hg, ha, hb, hA, ho, hl, k⟩ := h
    have hxl := hA.1
    refine ⟨_, (pss_cons (ps_asg (pv 0) (pg_tup (n := 3) rfl (pgs_cons (pg_name (i := 3) sc_law_led.nd rfl (Or.inl rfl)) (pgs_cons (pg_name (i := 4) sc_law_led.nd rfl (Or.inl rfl)) (pgs_cons (pg_name (i := 5) sc_law_led.nd rfl (Or.inl rfl)) pgs_nil)))))
      (pss_cons (ps_set (i := 6) sc_law_led.nd rfl (Or.inl rfl) (pe_callTy call_list_of (by rfl) T.b_list (by decide +kernel) (pa_cons (pv 2) pa_nil)))
      (pss_cons (ps_if (PW.pt (pw_or (pt_cmpR op_eq (pv 3) pe_str (nomark _)) (pw_or (PW.pt (pw_and (pt_cmpR op_eq (pv 3) pe_str (nomark _)) (pw_and1 (pt_cmpR op_lt (pe_ix ix_list (pv 1) (pv 5) (fun _ _ => rfl)) (pe_ix ix_list (pv 1) (pv 4) (fun _ _ => rfl)) (nomark _))))) (pw_or1 (PW.pt (pw_and (pt_cmpR op_eq (pv 3) pe_str (nomark _)) (pw_and1 (pt_cmpR op_gt (pe_ix ix_list (pv 1) (pv 5) (fun _ _ => rfl)) (pe_ix ix_list (pv 1) (pv 4) (fun _ _ => rfl)) (nomark _)))))))))
       (pss_one (ps_asg (pe_ix ix_list (pv 2) (pv 5) (fun _ _ => rfl)) (pg_sub (pv 6) (pv 4) set_list)))
       pss_nil)
      (pss_cons (ps_if (pt_cmpR op_eq (pv 3) pe_str (nomark _))
       (pss_one (ps_asg (pe_tup (pa_cons (pe_ix ix_tup (pe_ix ix_list (pv 2) (pv 4) (fun _ _ => rfl)) pe_int (fun _ _ => rfl)) (pa_cons (pe_op op_add (pe_ix ix_tup (pe_ix ix_list (pv 2) (pv 4) (fun _ _ => rfl)) pe_int (fun _ _ => rfl)) (pv 5)) pa_nil))) (pg_sub (pv 6) (pv 4) set_list)))
       pss_nil)
      (pss_cons (ps_if (PW.pt (pw_and (pt_cmpR op_eq (pv 3) pe_str (nomark _)) (pw_and1 (pt_cmpR op_gt (pe_ix ix_list (pv 1) (pv 4) (fun _ _ => rfl)) (pe_ix ix_list (pv 1) (pv 5) (fun _ _ => rfl)) (nomark _)))))
       (pss_one (ps_asg (pe_tup (pa_cons (pe_ix ix_list (pv 2) (pv 5) (fun _ _ => rfl)) (pa_cons (pe_ix ix_list (pv 2) (pv 4) (fun _ _ => rfl)) pa_nil))) (pg_tup (n := 2) rfl (pgs_cons (pg_sub (pv 6) (pv 4) set_list) (pgs_cons (pg_sub (pv 6) (pv 5) set_list) pgs_nil)))))
       pss_nil)
      (pss_one (ps_ret (pv 6)))))))), ?_⟩
    cases g with
    | add i c =>
      have hi : i < ns.length := ho
      obtain ⟨u, hu, hu2⟩ := o_at hA (i := i) (by omega)
      refine ⟨_, rfl, t, _, rfl, hg, rfl, _, _, rfl, _, _, rfl, _, _, rfl, rfl, ?_⟩
      refine ⟨_, rfl, b, _, rfl, .inl hb, fun p hp => ?_⟩
      have s1 : Same H (upd H p (.lst xs)) := Same.new hp
      refine ⟨_, rfl, rfl, _, rfl, ?_⟩
      refine itF (by decide +kernel) ?_
      refine ⟨_, rfl, rfl, _, rfl, ?_⟩
      refine itF (by decide +kernel) ?_
      refine ⟨_, rfl, rfl, _, rfl, ?_⟩
      refine itF (by decide +kernel) ?_
      refine itF (by decide +kernel) ?_
      refine ⟨_, rfl, rfl, _, rfl, ?_⟩
      refine itT (by decide +kernel) ?_
      refine ⟨_, rfl, _, rfl, b, _, _, _, rfl, rfl, s1.seq hb, atI_nat hu, ?_⟩
      refine ⟨u, _, _, _, rfl, rfl, s1.seqT hu2, rfl, ?_⟩
      refine ⟨_, rfl, _, rfl, b, _, _, _, rfl, rfl, s1.seq hb, atI_nat hu, ?_⟩
      refine ⟨u, _, _, _, rfl, rfl, s1.seqT hu2, rfl, ?_⟩
      refine ⟨_, rfl, _, _, rfl, rfl, by show 2 ≤ sizeLine; decide, fun q hq => ?_⟩
      have n1 := Same.new (o := .tup [.int (oat os i).1, .int ((oat os i).2 + c)]) hq
      have npq : p ≠ q := ne_of_none upd_same hq
      refine ⟨_, rfl, _, rfl, p, _, _, i, rfl, rfl, n1 _ _ upd_same, ixN_nat (by omega), ?_⟩
      have s2 := (s1.trans n1).mut (o := .lst (xs.set i (.ref q))) hp
      refine ⟨_, rfl, rfl, _, rfl, ?_⟩
      refine itF (by decide +kernel) ?_
      refine ⟨_, rfl, k _ p _ s2 hp upd_same ?_⟩
      exact (hA.mono fun _ _ z => z.to s2).set i ⟨q, rfl, SqT.of (by rw [upd_ne npq.symm, upd_same])⟩
    | low i j =>
      obtain ⟨hi, hj, hij⟩ := ho
      obtain ⟨ui, hui, hui2⟩ := o_at hA (i := i) (by omega)
      obtain ⟨uj, huj, huj2⟩ := o_at hA (i := j) (by omega)
      refine ⟨_, rfl, t, _, rfl, hg, rfl, _, _, rfl, _, _, rfl, _, _, rfl, rfl, ?_⟩
      refine ⟨_, rfl, b, _, rfl, .inl hb, fun p hp => ?_⟩
      have s1 : Same H (upd H p (.lst xs)) := Same.new hp
      refine ⟨_, rfl, rfl, _, rfl, ?_⟩
      refine itF (by decide +kernel) ?_
      refine ⟨_, rfl, rfl, _, rfl, ?_⟩
      refine itT (by decide +kernel) ?_
      refine ⟨_, rfl, _, rfl, a, _, _, _, rfl, rfl, s1.seq ha, int_atI hj, _, rfl, _, rfl, a, _, _, _, rfl, rfl, s1.seq ha, int_atI hi, _, _, rfl, rfl, _, rfl, ?_⟩
      refine ite2 (fun c => ?_) (fun c => ?_)
      · have c' := of_decide_eq_true c
        refine itT (by decide +kernel) ?_
        refine ⟨_, rfl, _, rfl, b, _, _, _, rfl, rfl, s1.seq hb, atI_nat huj, ?_⟩
        refine ⟨_, rfl, _, rfl, p, _, _, i, rfl, rfl, upd_same, ixN_nat (by omega), ?_⟩
        refine ⟨_, rfl, rfl, _, rfl, ?_⟩
        refine itF (by decide +kernel) ?_
        refine ⟨_, rfl, rfl, _, rfl, ?_⟩
        refine itF (by decide +kernel) ?_
        refine ⟨_, rfl, k _ p _ (s1.mut hp) hp upd_same ?_⟩
        show All2 _ _ (if _ then _ else _)
        rw [if_pos c']
        exact (hA.mono fun _ _ z => z.to (s1.mut hp)).set i ⟨uj, rfl, (s1.mut hp).seqT huj2⟩
      · have c' : ¬ at0 ns j < at0 ns i := by simpa using c
        refine ⟨_, rfl, rfl, _, rfl, ?_⟩
        refine itF (by decide +kernel) ?_
        refine itF (by decide +kernel) ?_
        refine ⟨_, rfl, rfl, _, rfl, ?_⟩
        refine itF (by decide +kernel) ?_
        refine ⟨_, rfl, rfl, _, rfl, ?_⟩
        refine itF (by decide +kernel) ?_
        refine ⟨_, rfl, k _ p _ s1 hp upd_same ?_⟩
        show All2 _ _ (if _ then _ else _)
        rw [if_neg c']
        exact hA.mono fun _ _ z => z.to s1
    | high i j =>
      obtain ⟨hi, hj, hij⟩ := ho
      obtain ⟨ui, hui, hui2⟩ := o_at hA (i := i) (by omega)
      obtain ⟨uj, huj, huj2⟩ := o_at hA (i := j) (by omega)
      refine ⟨_, rfl, t, _, rfl, hg, rfl, _, _, rfl, _, _, rfl, _, _, rfl, rfl, ?_⟩
      refine ⟨_, rfl, b, _, rfl, .inl hb, fun p hp => ?_⟩
      have s1 : Same H (upd H p (.lst xs)) := Same.new hp
      refine ⟨_, rfl, rfl, _, rfl, ?_⟩
      refine itF (by decide +kernel) ?_
      refine ⟨_, rfl, rfl, _, rfl, ?_⟩
      refine itF (by decide +kernel) ?_
      refine ⟨_, rfl, rfl, _, rfl, ?_⟩
      refine itT (by decide +kernel) ?_
      refine ⟨_, rfl, _, rfl, a, _, _, _, rfl, rfl, s1.seq ha, int_atI hj, _, rfl, _, rfl, a, _, _, _, rfl, rfl, s1.seq ha, int_atI hi, _, _, rfl, rfl, _, rfl, ?_⟩
      refine ite2 (fun c => ?_) (fun c => ?_)
      · have c' := of_decide_eq_true c
        refine ⟨_, rfl, _, rfl, b, _, _, _, rfl, rfl, s1.seq hb, atI_nat huj, ?_⟩
        refine ⟨_, rfl, _, rfl, p, _, _, i, rfl, rfl, upd_same, ixN_nat (by omega), ?_⟩
        refine ⟨_, rfl, rfl, _, rfl, ?_⟩
        refine itF (by decide +kernel) ?_
        refine ⟨_, rfl, rfl, _, rfl, ?_⟩
        refine itF (by decide +kernel) ?_
        refine ⟨_, rfl, k _ p _ (s1.mut hp) hp upd_same ?_⟩
        show All2 _ _ (if _ then _ else _)
        rw [if_pos c']
        exact (hA.mono fun _ _ z => z.to (s1.mut hp)).set i ⟨uj, rfl, (s1.mut hp).seqT huj2⟩
      · have c' : ¬ at0 ns i < at0 ns j := by simpa using c
        refine ⟨_, rfl, rfl, _, rfl, ?_⟩
        refine itF (by decide +kernel) ?_
        refine ⟨_, rfl, rfl, _, rfl, ?_⟩
        refine itF (by decide +kernel) ?_
        refine ⟨_, rfl, k _ p _ s1 hp upd_same ?_⟩
        show All2 _ _ (if _ then _ else _)
        rw [if_neg c']
        exact hA.mono fun _ _ z => z.to s1
    | sort i j =>
      obtain ⟨hi, hj, hij⟩ := ho
      obtain ⟨ui, hui, hui2⟩ := o_at hA (i := i) (by omega)
      obtain ⟨uj, huj, huj2⟩ := o_at hA (i := j) (by omega)
      refine ⟨_, rfl, t, _, rfl, hg, rfl, _, _, rfl, _, _, rfl, _, _, rfl, rfl, ?_⟩
      refine ⟨_, rfl, b, _, rfl, .inl hb, fun p hp => ?_⟩
      have s1 : Same H (upd H p (.lst xs)) := Same.new hp
      refine ⟨_, rfl, rfl, _, rfl, ?_⟩
      refine itF (by decide +kernel) ?_
      refine ⟨_, rfl, rfl, _, rfl, ?_⟩
      refine itF (by decide +kernel) ?_
      refine ⟨_, rfl, rfl, _, rfl, ?_⟩
      refine itF (by decide +kernel) ?_
      refine itF (by decide +kernel) ?_
      refine ⟨_, rfl, rfl, _, rfl, ?_⟩
      refine itF (by decide +kernel) ?_
      refine ⟨_, rfl, rfl, _, rfl, ?_⟩
      refine itT (by decide +kernel) ?_
      refine ⟨_, rfl, _, rfl, a, _, _, _, rfl, rfl, s1.seq ha, int_atI hi, _, rfl, _, rfl, a, _, _, _, rfl, rfl, s1.seq ha, int_atI hj, _, _, rfl, rfl, _, rfl, ?_⟩
      refine ite2 (fun c => ?_) (fun c => ?_)
      · have c' := of_decide_eq_true c
        refine ⟨_, rfl, _, rfl, b, _, _, _, rfl, rfl, s1.seq hb, atI_nat huj, _, rfl, _, rfl, b, _, _, _, rfl, rfl, s1.seq hb, atI_nat hui, by show 2 ≤ sizeLine; decide, fun q hq => ?_⟩
        have n1 := Same.new (o := .tup [.ref uj, .ref ui]) hq
        have s2 := s1.trans n1
        refine ⟨q, _, rfl, SqT.of upd_same, rfl, _, _, rfl, _, rfl, _, rfl, p, _, _, i, rfl, rfl, n1 _ _ upd_same, ixN_nat (by omega), ?_⟩
        refine ⟨_, _, rfl, _, rfl, _, rfl, p, _, _, j, rfl, rfl, upd_same, ixN_nat (by rw [List.length_set]; omega), rfl, ?_⟩
        have s3 := (s2.mut (o := .lst (xs.set i (.ref uj))) hp).mut (o := .lst ((xs.set i (.ref uj)).set j (.ref ui))) hp
        refine ⟨_, rfl, k _ p _ s3 hp upd_same ?_⟩
        show All2 _ _ (if _ then _ else _)
        rw [if_pos c']
        exact ((hA.mono fun _ _ z => z.to s3).set i ⟨uj, rfl, s3.seqT huj2⟩).set j ⟨ui, rfl, s3.seqT hui2⟩
      · have c' : ¬ at0 ns j < at0 ns i := by simpa using c
        refine ⟨_, rfl, k _ p _ s1 hp upd_same ?_⟩
        show All2 _ _ (if _ then _ else _)
        rw [if_neg c']
        exact hA.mono fun _ _ z => z.to s1
    | copy i j =>
      obtain ⟨hi, hj, hij⟩ := ho
      obtain ⟨ui, hui, hui2⟩ := o_at hA (i := i) (by omega)
      obtain ⟨uj, huj, huj2⟩ := o_at hA (i := j) (by omega)
      refine ⟨_, rfl, t, _, rfl, hg, rfl, _, _, rfl, _, _, rfl, _, _, rfl, rfl, ?_⟩
      refine ⟨_, rfl, b, _, rfl, .inl hb, fun p hp => ?_⟩
      have s1 : Same H (upd H p (.lst xs)) := Same.new hp
      refine ⟨_, rfl, rfl, _, rfl, ?_⟩
      refine itT (by decide +kernel) ?_
      refine itT (by decide +kernel) ?_
      refine ⟨_, rfl, _, rfl, b, _, _, _, rfl, rfl, s1.seq hb, atI_nat huj, ?_⟩
      refine ⟨_, rfl, _, rfl, p, _, _, i, rfl, rfl, upd_same, ixN_nat (by omega), ?_⟩
      refine ⟨_, rfl, rfl, _, rfl, ?_⟩
      refine itF (by decide +kernel) ?_
      refine ⟨_, rfl, rfl, _, rfl, ?_⟩
      refine itF (by decide +kernel) ?_
      refine ⟨_, rfl, k _ p _ (s1.mut hp) hp upd_same ?_⟩
      exact (hA.mono fun _ _ z => z.to (s1.mut hp)).set i ⟨uj, rfl, (s1.mut hp).seqT huj2⟩
def sp_law_origins (K : PySem.W.Frag) : Sp := fun vs H Q _ => ∃ (l a : Addr) (gs : List Gt) (ns : List Int), vs = [V.ref l, V.ref a] ∧ Gs K H l gs ∧ SqL K H a (ns.map V.int) ∧ (∀ g ∈ gs, g.ok ns.length) ∧ gs.length ≤ 400 ∧ ns.length ≤ 12 ∧
  ∀ H' r xs, Same H H' → H r = none → H' r = some (.lst xs) → All2 (IsO K H') xs (orgs gs ns) → Q (.ref r) H'
theorem c_law_origins (T : Txt K mg C) : C8.Cal P w K mg base 3 "_law_origins" (sp_law_origins K) [] := by
  refine T.d_law_origins.cal sc_law_origins (fun vs H Q E h => ?_) (fun f cdv A outer s H vs Q E hr h => ?_)
  · obtain ⟨l, a, gs, ns, rfl, _⟩ := h
    rfl
  · obtain ⟨l, a, gs, ns, rfl, ⟨xs, hl, hA⟩, ha, ho, few, hn, k⟩ := h
    refine ⟨_, (pss_cons (ps_par (i := 2) (j := 3) (by rfl) sc_law_origins.nd rfl rfl (by decide) rfl rfl (pa_cons (C8.pe_c (c_law_run T) hr (by decide) rfl (pa_cons (pv 0) (pa_cons (pv 1) pa_nil))) (pa_cons (pe_lc (own := [("_law_lane", 6)]) (g := (gName 6)) (tt := tYes) rfl sc_law_origins.nd (pi_range1 rfl T.b_range (pa_cons (pe_callB call_len_seq (by rfl) T.b_len (by decide +kernel) (pa_cons (pv 1) pa_nil)) pa_nil)) (blkOk_by (N := N_law_origins) (sc := C8.fnScope s_law_origins) (by decide +kernel)) (fun _ _ _ _ _ => (pg_name (i := 6) sc_law_origins.nd rfl (Or.inl rfl))) (fun _ _ _ _ _ => pts_nil) (fun _ _ _ _ _ => (pe_tup (pa_cons (pv 6) (pa_cons pe_int pa_nil))))) pa_nil)) (by rfl))
      (pss_cons (ps_for PassesOwn.never rfl (pi_zip (by rfl) T.b_zip (pa_cons (pv 0) (pa_cons (pv 2) pa_nil))) (pg_tup (n := 2) rfl (pgs_cons (pg_name (i := 4) sc_law_origins.nd rfl (Or.inl rfl)) (pgs_cons (pg_name (i := 5) sc_law_origins.nd rfl (Or.inl rfl)) pgs_nil)))
       (pss_one (ps_set (i := 3) sc_law_origins.nd rfl (Or.inl rfl) (C8.pe_c (c_law_led T) hr (by decide) rfl (pa_cons (pv 4) (pa_cons (pv 5) (pa_cons (pv 3) pa_nil)))))))
      (pss_one (ps_ret (pv 3))))), ?_⟩
    have el : (ns.map V.int).length = ns.length := List.length_map ..
    refine ⟨_, rfl, _, rfl, l, a, gs, ns, rfl, ⟨xs, hl, hA⟩, ha, ho, few, fun H1 r s1 R1 => ?_⟩
    obtain ⟨r0, rs, hr1, hR⟩ := id R1
    refine ⟨_, rfl, a, _, rfl, .inl (s1.seq ha), ((ns.map V.int).length : Int), rfl, by omega, by omega, fun D hD => lc_org0 (K := K) (n := (ns.map V.int).length) hD (by omega) (fun i H' Q' q => ⟨rfl, _, rfl, by show 2 ≤ sizeLine; decide, q⟩) (fun H2 ys s2 hd hY => ?_)⟩
    rw [el] at hY
    have t2 := s1.trans s2
    refine ⟨_, _, rfl, ?_⟩
    have D0 : H D = none := s1.free hD
    have rl : rs.length = gs.length + 1 := by
      rw [hR.1]
      unfold rowsOf
      rw [List.length_map, List.length_range]
    refine ⟨_, rfl, _, rfl, l, r, xs, rs, rfl, t2.seq hl, SqL.of (s2 _ _ hr1), for_it (walk_zip (xs := xs) (ys := rs) (n := gs.length) (by rw [hA.1, rl]; omega)) (fun i σ H' => Same H2 H' ∧ ∃ D' ys os v4 v5, H D' = none ∧ H' D' = some (.lst ys) ∧ All2 (IsO K H') ys os ∧ os.length = ns.length ∧ orgF (gs.drop i) (runs (gs.take i) ns) os = orgs gs ns ∧ σ = [some (.ref l), some (.ref a), some (.ref r), some (.ref D'), v4, v5, none])
      ⟨Same.refl _, D, ys, org0 ns.length, none, none, D0, hd, hY, org0_len _, rfl, rfl⟩ (fun i σ H' _ z => ⟨z.1.seq (t2.seq hl), SqL.of (z.1 _ _ (s2 _ _ hr1))⟩) (fun i x σ H4 H5 hi z y => ?_) (fun σ H4 z => ?_)⟩
    · obtain ⟨s4, D', ys', os, v4, v5, d0, hd', hY', ol, oe, rfl⟩ := z
      obtain ⟨T', x1, x2, rfl, hT, rfl, h1, h2⟩ := y
      obtain ⟨g, hg, t, rfl, ht⟩ := hA.get h1
      obtain ⟨row, hrow, b, rfl, b0, b1⟩ := hR.get h2
      have er : row = runs (gs.take i) ns := by
        unfold rowsOf at hrow
        rw [List.getElem?_map, List.getElem?_range (by omega)] at hrow
        exact (Option.some.inj hrow).symm
      subst er
      have n5 : Same H4 (upd H4 T' (.tup [V.ref t, V.ref b])) := Same.new hT
      have t5 := s4.trans n5
      refine ⟨T', _, rfl, SqT.of upd_same, rfl, _, _, rfl, _, _, rfl, rfl, ?_⟩
      refine ⟨_, rfl, _, rfl, _, rfl, t, b, D', g, runs (gs.take i) ns, ys', os, rfl, (t2.trans t5).seqT ht, SqL.of ((s2.trans t5) _ _ b1), SqL.of (n5 _ _ hd'), hY'.mono fun _ _ z => z.to n5, by rw [runs_length]; exact ho g (List.mem_of_getElem? hg), by rw [runs_length]; exact ol, fun H6 p6 zs s6 p60 p61 hZ => ?_⟩
      refine ⟨(s4.trans n5).trans s6, p6, zs, _, _, _, ((t2.trans t5).free p60), p61, hZ, by rw [led_len]; exact ol, ?_, rfl⟩
      rw [← oe, runs_take_succ hg]
      have hi' : i < gs.length := (List.getElem?_eq_some_iff.mp hg).1
      rw [List.drop_eq_getElem_cons hi', show gs[i] = g from (List.getElem?_eq_some_iff.mp hg).2]
      rfl
    · obtain ⟨s4, D', ys', os, v4, v5, d0, hd', hY', ol, oe, rfl⟩ := z
      rw [List.drop_length] at oe
      have oe' : os = orgs gs ns := oe
      subst oe'
      exact ⟨_, rfl, k _ D' ys' (t2.trans s4) d0 hd' hY'⟩
end
end LL

namespace LL
open PySem L2 PySem.Spec PyProof.Rows
theorem Wd.mut {a b : Addr} {H0 H : Hp} {o : HO} (w : Wd a H0 H) (h : H0 b = none) (n : b ≠ a) : Wd a H0 (upd H b o) := by
  obtain ⟨p0, p1, e, q⟩ := w.pot
  exact ⟨w.same.mut h, w.off, p0, p1, by rw [upd_ne n.symm]; exact e, q⟩
abbrev intsV (os : List Nat) : List V := (intsN os).map V.int
theorem intsV_len (os : List Nat) : (intsV os).length = os.length := by
  unfold intsV intsN
  rw [List.length_map, List.length_map]
theorem intsV_at {os : List Nat} {k : Nat} (h : k < os.length) : (intsV os)[k]? = some (.int ((os[k] : Nat) : Int)) := by
  unfold intsV intsN
  rw [List.getElem?_map, List.getElem?_map, List.getElem?_eq_getElem h]
  rfl
theorem intsV_out : ∀ (os : List Nat) (k : Nat), (intsV os).eraseIdx k = intsV (os.eraseIdx k)
  | [], _ => rfl
  | _ :: _, 0 => rfl
  | o :: os, k + 1 => by
    show V.int o :: (intsV os).eraseIdx k = V.int o :: intsV (os.eraseIdx k)
    rw [intsV_out os k]
theorem intsV_more (os : List Nat) (o : Nat) : intsV os ++ [V.int (o : Int)] = intsV (os ++ [o]) := by
  unfold intsV intsN
  rw [List.map_append, List.map_append]
  rfl
theorem out_perm : ∀ (os : List Nat) (k : Nat) (h : k < os.length), (os[k] :: os.eraseIdx k).Perm os
  | [], _, h => absurd h (by simp)
  | _ :: _, 0, _ => List.Perm.refl _
  | o :: os, k + 1, h => ((List.Perm.swap o _ _)).trans ((out_perm os k (Nat.lt_of_succ_lt_succ h)).cons o)
theorem seq_nat {k n : Nat} (h : k < n) : seqIndex? (k : Int) n = some k := by
  unfold seqIndex?
  simp
  omega
section
variable {P : Program} {w : World} {K : PySem.W.Frag} {mg : Str → Option Value} {base : Heap} {C : Addr}
def sp_law_mixed (K : PySem.W.Frag) : Sp := fun vs H Q _ => ∃ (H0 : Hp) (a b : Addr) (n : Nat), vs = [V.ref a, V.ref b] ∧ Wd a H0 H ∧ SqL K H0 b (intsV (List.range n)) ∧ n ≤ 12 ∧
  ∀ H' l os, Wd a H0 H' → H0 l = none → l ≠ a → H' l = some (.lst (intsV os)) → IsOrd os n → Q (.ref l) H'
theorem c_law_mixed (T : Txt K mg C) : C8.Cal P w K mg base 2 "_law_mixed" (sp_law_mixed K) [] := by
  refine T.d_law_mixed.cal sc_law_mixed (fun vs H Q E h => ?_) (fun f cdv A outer s H vs Q E hr h => ?_)
  · obtain ⟨H0, a, b, n, rfl, _⟩ := h
    rfl
  · obtain ⟨H0, a, b, n, rfl, W, hb, hn, k⟩ := h
    refine ⟨_, (pss_cons (ps_set (i := 2) sc_law_mixed.nd rfl (Or.inr rfl) (pe_callTy call_list_of (by rfl) T.b_list (by decide +kernel) (pa_cons (pv 1) pa_nil)))
      (pss_one (ps_ret (pe_lc (own := [("_law_turn", 3)]) (g := (gName 3)) (tt := tYes) (te := tBM K "list" rPopAt (tVar 2) (tCons (tCall sp_law_draw [] C8.E0 (tCons (tVar 0) (tCons (tCB (fun xs H Q => ∃ p ys, xs = [V.ref p] ∧ (SqL K H p ys ∨ SqT K H p ys) ∧ Q (.int (ys.length : Nat)) H) (tCons (tVar 2) tNil)) tNil))) tNil)) rfl sc_law_mixed.nd (pi_range1 rfl T.b_range (pa_cons (pe_callB call_len_seq (by rfl) T.b_len (by decide +kernel) (pa_cons (pv 1) pa_nil)) pa_nil)) (blkOk_by (N := N_law_mixed) (sc := C8.fnScope s_law_mixed) (by decide +kernel)) (fun _ _ _ _ _ => (pg_name (i := 3) sc_law_mixed.nd rfl (Or.inl rfl))) (fun _ _ _ _ _ => pts_nil) (fun _ _ _ _ _ => (pe_bm PySem.F.plainAttrs_list PySem.F.slot_list_pop PySem.F.type_list_pop mt_popAt (pv 2) (pa_cons (C8.pe_c (c_law_draw T) hr (by decide) rfl (pa_cons (pv 0) (pa_cons (pe_callB call_len_seq (by rfl) T.b_len (by decide +kernel) (pa_cons (pv 2) pa_nil)) pa_nil))) pa_nil))))))), ?_⟩
    have ln : (intsV (List.range n)).length = n := by rw [intsV_len, List.length_range]
    refine ⟨_, rfl, b, _, rfl, .inl (W.same.seq hb), fun p hp => ?_⟩
    have npa := W.ne hp
    have p0 := W.fresh hp
    have W1 : Wd a H0 (upd H p (.lst (intsV (List.range n)))) := W.new hp
    refine ⟨_, rfl, b, _, rfl, .inl (W1.same.seq hb), ((intsV (List.range n)).length : Int), rfl, by omega, by omega, fun D hD => ?_⟩
    have nda := W1.ne hD
    have d0 := W1.fresh hD
    have npd : p ≠ D := ne_of_none upd_same hD
    refine lc_it (walk_range (lo := 0)) (tt := tYes) (fun i H' => ∃ ls ds, Wd a H0 H' ∧ H' p = some (.lst (intsV ls)) ∧ H' D = some (.lst (intsV ds)) ∧ (ds ++ ls).Perm (List.range n) ∧ ds.length = i)
      ⟨List.range n, [], W1.new hD, by rw [upd_ne npd]; exact upd_same, upd_same, List.Perm.refl _, rfl⟩ (fun _ _ _ _ => trivial) (fun i x H1 H2 hi z y => ?_) (fun H1 z => ?_)
    · obtain ⟨ls, ds, W', hp', hd', pm, dl⟩ := z
      obtain ⟨rfl, rfl⟩ := y
      have tot := pm.length_eq
      rw [List.length_append, List.length_range] at tot
      have Wk : Wd a (upd (upd H0 p (.lst (intsV ls))) D (.lst (intsV ds))) H2 := (W'.know p0 npa hp').know (by rw [upd_ne npd.symm]; exact d0) nda hd'
      refine ⟨rfl, _, rfl, .inl ⟨rfl, _, SqL.of hp'⟩, ?_⟩
      refine ⟨_, rfl, _, rfl, p, _, rfl, .inl (SqL.of hp'), _, a, ((intsV ls).length : Int), rfl, Wk, by rw [intsV_len]; omega, by rw [intsV_len]; omega, fun H3 d W3 e0 e1 => ?_⟩
      rw [intsV_len] at e1
      obtain ⟨kk, rfl⟩ : ∃ kk : Nat, d = kk := ⟨d.toNat, by omega⟩
      have hk : kk < ls.length := by omega
      have hp3 : H3 p = some (.lst (intsV ls)) := W3.same _ _ (by rw [upd_ne npd]; exact upd_same)
      have hd3 : H3 D = some (.lst (intsV ds)) := W3.same _ _ upd_same
      have W4 : Wd a H0 H3 := W3.back ((Same.new p0).trans (Same.new (by rw [upd_ne npd.symm]; exact d0)))
      refine ⟨p, _, (kk : Int), kk, _, rfl, rfl, hp3, by omega, by omega, ?_, intsV_at hk, ?_⟩
      · exact seq_nat (by rw [intsV_len]; exact hk)
      · refine ⟨intsV ds, by rw [upd_ne npd.symm]; exact hd3, by rw [intsV_len]; exact size100 (by omega), ls.eraseIdx kk, ds ++ [ls[kk]], (W4.mut p0 npa).mut d0 nda, by rw [upd_ne npd, upd_same, intsV_out], by rw [upd_same, intsV_more], ?_, by rw [List.length_append, dl]; rfl⟩
        rw [List.append_assoc]
        exact ((out_perm ls kk hk).append_left ds).trans pm
    · obtain ⟨ls, ds, W', hp', hd', pm, dl⟩ := z
      have tot := pm.length_eq
      rw [List.length_append, List.length_range] at tot
      have : ls = [] := List.eq_nil_of_length_eq_zero (by omega)
      subst this
      rw [List.append_nil] at pm
      exact k _ D ds W' d0 nda hd' pm
end
end LL

namespace LL
open PySem L2 PySem.Spec PyProof.Rows
/-! ### origins as data -/
abbrev ogPy (o : Og) : PyData := .tuple [.int (o.1 : Nat), .int o.2]
abbrev ogsPy (os : List Og) : PyData := .list (os.map ogPy)
section
variable {K : PySem.W.Frag}
theorem og_dp {H : Hp} {v : V} {o : Og} (h : IsO K H v o) : Dp K H v (ogPy o) := by
  obtain ⟨t, e, q⟩ := h
  subst e
  exact .tup q (.cons (.int _) (.cons (.int _) .nil))
theorem ogs_dp {H : Hp} {a : Addr} {xs : List V} {os : List Og} (h : SqL K H a xs) (hA : All2 (IsO K H) xs os) : Dp K H (.ref a) (ogsPy os) := .lst h (dpAll_of (hA.mono fun v o q => og_dp q))
end
theorem ogs_depth (os : List Og) : (ogsPy os).depth ≤ 2 := by
  have : PyData.depthAll (os.map ogPy) ≤ 1 := all_depth (f := ogPy) (fun o => (show Nat.max 0 (Nat.max 0 0) + 1 ≤ 1 by decide)) os
  show PyData.depthAll (os.map ogPy) + 1 ≤ 2
  omega
theorem ogs_lay (os : List Og) : (ogsPy os).canLay0 = true := all_lay (f := ogPy) (fun _ => rfl) os
theorem ogs_shaped (os : List Og) : SeqAt.shaped (ogsPy os) = true := shaped_of (ogs_lay os) (Nat.le_trans (ogs_depth os) (by decide))
theorem ogs_same {os ps : List Og} (h : os = ps) : PyData.eqv (ogsPy os) (ogsPy ps) = true := by
  subst h
  exact SeqAt.eqv_refl _ (ogs_lay os)
theorem ogs_tame : ∀ {os : List Og}, (∀ o ∈ os, o.1 < 1000 ∧ o.2.natAbs < 10 ^ 40) → tameAll (os.map ogPy) = true ∧ wtAll (os.map ogPy) = 99 * os.length
  | [], _ => ⟨rfl, rfl⟩
  | o :: r, h => by
    obtain ⟨a, b⟩ := ogs_tame (os := r) fun x hx => h x (List.mem_cons_of_mem _ hx)
    obtain ⟨c, d⟩ := h o List.mem_cons_self
    have c' : ((o.1 : Int)).natAbs < 10 ^ 40 := by
      rw [Int.natAbs_natCast]
      exact Nat.lt_trans c (by decide +kernel)
    refine ⟨?_, ?_⟩
    · show ((decide ((o.1 : Int).natAbs < 10 ^ 40) && (decide (o.2.natAbs < 10 ^ 40) && true)) && tameAll (r.map ogPy)) = true
      rw [a, decide_eq_true c', decide_eq_true d]
      rfl
    · show (45 + 2 + (45 + 2 + 0)) + 3 + 2 + wtAll (r.map ogPy) = 99 * (r.length + 1)
      rw [b]
      omega
/-- how one list of origins, and a list of two, are told -/
theorem og_told {os : List Og} (h : ∀ o ∈ os, o.1 < 1000 ∧ o.2.natAbs < 10 ^ 40) (hl : os.length ≤ 12) :
    PyData.showable (ogsPy os) = true ∧ PyData.hasDict (ogsPy os) = false ∧ PyData.depth (ogsPy os) ≤ 60 ∧ (PyData.shown (ogsPy os)).length ≤ sizeLine := by
  obtain ⟨a, b⟩ := ogs_tame h
  have t : tame (ogsPy os) = true := a
  obtain ⟨x, y, z⟩ := told t
  refine ⟨y, z, Nat.le_trans (ogs_depth os) (by decide), Nat.le_trans x ?_⟩
  show wtAll (os.map ogPy) + 2 ≤ 16777216
  omega
theorem og_told2 {os : List Og} (h : ∀ o ∈ os, o.1 < 1000 ∧ o.2.natAbs < 10 ^ 40) (hl : os.length ≤ 12) :
    PyData.showable (.list [ogsPy os, ogsPy os]) = true ∧ PyData.hasDict (.list [ogsPy os, ogsPy os]) = false ∧ PyData.depth (.list [ogsPy os, ogsPy os]) ≤ 60 ∧ (PyData.shown (.list [ogsPy os, ogsPy os])).length ≤ sizeLine := by
  obtain ⟨a, b⟩ := ogs_tame h
  have t : tame (ogsPy os) = true := a
  have t2 : tame (.list [ogsPy os, ogsPy os]) = true := by
    show (tame (ogsPy os) && (tame (ogsPy os) && true)) = true
    rw [t]
    rfl
  obtain ⟨x, y, z⟩ := told t2
  have d := ogs_depth os
  refine ⟨y, z, ?_, Nat.le_trans x ?_⟩
  · show Nat.max _ (Nat.max _ 0) + 1 ≤ 60
    have : Nat.max (ogsPy os).depth (Nat.max (ogsPy os).depth 0) ≤ 2 := Nat.max_le.mpr ⟨d, Nat.max_le.mpr ⟨d, Nat.zero_le _⟩⟩
    omega
  · show (wtAll (os.map ogPy) + 2) + 2 + ((wtAll (os.map ogPy) + 2) + 2 + 0) + 2 ≤ 16777216
    omega
/-! ### how far origins are -/
theorem org_small {gs : List Gt} {ns : List Int} (ho : ∀ g ∈ gs, g.ok ns.length) (hm : ∀ g ∈ gs, g.mild = true) : ∀ i, i < ns.length → (oat (orgs gs ns) i).2.natAbs ≤ gs.length * 10 ^ 20 := by
  have gen : ∀ (gs : List Gt) (cs : List Int) (os : List Og) (b : Nat), (∀ g ∈ gs, g.ok ns.length ∧ g.mild = true) → os.length = ns.length → (∀ i, i < ns.length → (oat os i).2.natAbs ≤ b) → ∀ i, i < ns.length → (oat (orgF gs cs os) i).2.natAbs ≤ b + gs.length * 10 ^ 20 := by
    intro gs
    induction gs with
    | nil =>
      intro cs os b _ _ h i hi
      have := h i hi
      show (oat os i).2.natAbs ≤ b + 0 * 10 ^ 20
      omega
    | cons g r ih =>
      intro cs os b hg hl h i hi
      have q := ih (g.done cs) (g.led cs os) (b + 10 ^ 20) (fun g' h' => hg g' (List.mem_cons_of_mem _ h')) (by rw [led_len]; exact hl) (fun k hk => ?_) i hi
      · show (oat (orgF r (g.done cs) (g.led cs os)) i).2.natAbs ≤ b + (r.length + 1) * 10 ^ 20
        rw [Nat.add_mul]
        omega
      obtain ⟨ok, mi⟩ := hg g List.mem_cons_self
      have up : ∀ {j}, j < ns.length → (oat os j).2.natAbs ≤ b + 10 ^ 20 := fun hj => Nat.le_trans (h _ hj) (Nat.le_add_right _ _)
      cases g with
      | add j c =>
        have hc : c.natAbs ≤ 10 ^ 20 := by simpa [Gt.mild] using mi
        show (oat (os.set j _) k).2.natAbs ≤ _
        rw [oat_set (by have : j < ns.length := ok; omega)]
        split
        · have := h j ok
          show ((oat os j).2 + c).natAbs ≤ _
          omega
        · exact up hk
      | copy j l =>
        show (oat (os.set j (oat os l)) k).2.natAbs ≤ _
        rw [oat_set (by have := ok.1; omega)]
        split
        · exact up ok.2.1
        · exact up hk
      | low j l =>
        show (oat (if _ then os.set j (oat os l) else os) k).2.natAbs ≤ _
        split
        · rw [oat_set (by have := ok.1; omega)]
          split
          · exact up ok.2.1
          · exact up hk
        · exact up hk
      | high j l =>
        show (oat (if _ then os.set j (oat os l) else os) k).2.natAbs ≤ _
        split
        · rw [oat_set (by have := ok.1; omega)]
          split
          · exact up ok.2.1
          · exact up hk
        · exact up hk
      | sort j l =>
        show (oat (if _ then (os.set j (oat os l)).set l (oat os j) else os) k).2.natAbs ≤ _
        split
        · rw [oat_set (by rw [List.length_set]; have := ok.2.1; omega)]
          split
          · exact up ok.1
          · rw [oat_set (by have := ok.1; omega)]
            split
            · exact up ok.2.1
            · exact up hk
        · exact up hk
  intro i hi
  have q := gen gs ns (org0 ns.length) 0 (fun g hg => ⟨ho g hg, hm g hg⟩) (org0_len _) (fun i hi => by rw [oat0 hi]; exact Nat.le_refl 0) i hi
  rw [Nat.zero_add] at q
  exact q
theorem og_mem {os : List Og} {o : Og} (h : o ∈ os) : ∃ i, i < os.length ∧ oat os i = o := by
  obtain ⟨i, hi⟩ := List.mem_iff_getElem?.mp h
  obtain ⟨hl, e⟩ := List.getElem?_eq_some_iff.mp hi
  refine ⟨i, hl, ?_⟩
  unfold oat
  rw [List.getD_eq_getElem?_getD, hi]
  rfl
theorem org_fit {gs : List Gt} {ns : List Int} (ho : ∀ g ∈ gs, g.ok ns.length) (hm : ∀ g ∈ gs, g.mild = true) (hf : gs.length ≤ 400) (hn : ns.length ≤ 12) : ∀ o ∈ orgs gs ns, o.1 < 1000 ∧ o.2.natAbs < 10 ^ 40 := fun o h => by
  obtain ⟨i, hi, e⟩ := og_mem h
  rw [orgs_len] at hi
  subst e
  refine ⟨by have := (org_value ho i hi).1; omega, Nat.lt_of_le_of_lt (org_small ho hm i hi) ?_⟩
  exact Nat.lt_of_le_of_lt (Nat.mul_le_mul_right _ hf) (by decide +kernel)
end LL

namespace LL
open PySem L2 PySem.Spec PyProof.Rows
theorem Wd.all {a : Addr} {H : Hp} (p : Pot H a) : Wd a (del H a) H := ⟨fun b o h => by
  have hb : b ≠ a := fun z => by
    rw [z, del_at] at h
    cases h
  rw [del_ne hb] at h
  exact h, del_at, p⟩
theorem units100 {k : Nat} {A : Around} (r : Room k A) : A.units + 100 < cLine := by have := r.un; omega
theorem Wd.under {a : Addr} {H0 H : Hp} (w : Wd a H0 H) : Same H0 (del H a) := same_del w.same w.off
theorem del_none' {H : Hp} {a b : Addr} (h : H b = none) : del H a b = none := by
  unfold del
  split
  · rfl
  · exact h
section
variable {P : Program} {w : World} {K : PySem.W.Frag} {mg : Str → Option Value} {base : Heap} {C : Addr}
theorem isO_del {H : Hp} {D : Addr} {ys : List V} {v : V} {o : Og} (hD : H D = some (.lst ys)) (h : IsO K H v o) : IsO K (del H D) v o := let ⟨t, e, q⟩ := h; ⟨t, e, sqT_del q hD⟩
def sp_law_told_right (K : PySem.W.Frag) (C : Addr) : Sp := fun vs H Q _ => ∃ (H0 : Hp) (a p l c : Addr) (n : Nat) (gs : List Gt) (ns : List Int), vs = [V.ref a, V.ref p, V.ref l, V.ref c] ∧ Wd a H0 H ∧ NetAt K C H0 p n gs ∧ Gs K H0 l gs ∧ SqL K H0 c (ns.map V.int) ∧ ns.length = n ∧ gs.length ≤ 400 ∧
  (∀ g ∈ gs, g.mild = true) ∧ ∀ H', Wd a H0 H' → Q (.bl true) H'
theorem c_law_told_right (T : Txt K mg C) : CalQ NoG P w K mg base 8 "_law_told_right" (sp_law_told_right K C) := by
  obtain ⟨f, fd, D, b⟩ := T.d_law_told_right
  refine ⟨f, fd, _, fnQ0 noG_deep D.fn sc_law_told_right (fun vs H Q E h => ?_) (fun cdv A outer s H vs Q E hr hA h => ?_), D.mgf, D.kp, b⟩
  · obtain ⟨H0, a, p, l, c, n, gs, ns, rfl, _⟩ := h
    rfl
  · obtain ⟨H0, a, p, l, c, n, gs, ns, rfl, W, N, hG, hc, hn, few, hm, k⟩ := h
    obtain ⟨qp, qg, qfd, qP, qF, qB⟩ := c_is_plain (P := P) (w := w) (base := base) T
    obtain ⟨fc, cO, cF⟩ := c_call (P := P) (w := w) (base := base) T
    refine ⟨_, (pss_cons (ps_set (i := 4) sc_law_told_right.nd rfl (Or.inl rfl) (C8.pe_c (c_law_origins T) hr (by decide) rfl (pa_cons (pv 2) (pa_cons (pv 3) pa_nil))))
      (pss_cons (ps_set (i := 5) sc_law_told_right.nd rfl (Or.inl rfl) (C8.pe_c (c_origins T) hr (by decide) rfl (pa_cons (pv 1) (pa_cons (pv 3) pa_nil))))
      (pss_cons (ps_if (pt_cmpR op_ne (pe_callB (call_repr hA (units100 hr)) (by rfl) T.b_repr (by decide +kernel) (pa_cons (pe_lst (pa_cons (pv 5) (pa_cons (pe_cK (ck_origins T) hr (by decide) rfl (pk_cons (pe_callTy call_tuple_of (by rfl) T.b_tuple (by decide +kernel) (pa_cons (pv 3) pa_nil)) (pk_cons (pv 1) pk_nil))) pa_nil))) pa_nil)) (pe_callB (call_repr hA (units100 hr)) (by rfl) T.b_repr (by decide +kernel) (pa_cons (pe_op op_rep (pe_lst (pa_cons (pv 4) pa_nil)) pe_int) pa_nil)) (nomark _))
       (pss_one (ps_ret pe_bl))
       pss_nil)
      (pss_cons (ps_if (pt_cmpR (op_neD hr.units) (pe_lc (own := [("_law_first", 7), ("_law_own", 8)]) (g := (gTup K 2 (gCons (gName 7) (gCons (gName 8) gNil)))) (tt := tYes) rfl sc_law_told_right.nd (pi_list (pv 5)) (blkOk_by (N := N_law_told_right) (sc := C8.fnScope s_law_told_right) (by decide +kernel)) (fun _ _ _ _ _ => (pg_tup (n := 2) rfl (pgs_cons (pg_name (i := 7) sc_law_told_right.nd rfl (Or.inl rfl)) (pgs_cons (pg_name (i := 8) sc_law_told_right.nd rfl (Or.inl rfl)) pgs_nil)))) (fun _ _ _ _ _ => pts_nil) (fun _ _ _ _ _ => (pe_op op_add (pe_ix (r := rIxL K) ix_list (pv 3) (pv 7) (fun _ _ => rfl)) (pv 8)))) (StX.pe_callO (pv 1) cO cF (hr.mono (by decide)) pass0 (pa_cons (pv 3) pa_nil)) (nomark _))
       (pss_one (ps_ret pe_bl))
       pss_nil)
      (pss_cons (ps_expr (pe_bm PySem.F.plainAttrs_list PySem.F.slot_list_append PySem.F.type_list_append mt_append (pv 5) (pa_cons pe_non pa_nil)))
      (pss_cons (ps_set (i := 6) sc_law_told_right.nd rfl (Or.inl rfl) (pe_op op_sub (C8.pe_c (c_law_draw T) hr (by decide) rfl (pa_cons (pv 0) (pa_cons pe_int pa_nil))) pe_int))
      (pss_cons (ps_if (pt_cmpR op_ne (pe_callB (call_repr hA (units100 hr)) (by rfl) T.b_repr (by decide +kernel) (pa_cons (pe_lst (pa_cons (C8.pe_c (c_origins T) hr (by decide) rfl (pa_cons (pv 1) (pa_cons (pv 3) pa_nil))) (pa_cons (C8.pe_c (c_origins T) hr (by decide) rfl (pa_cons (pv 1) (pa_cons (C8.pe_c (c_raised T) hr (by decide) rfl (pa_cons (pv 3) (pa_cons (pv 6) pa_nil))) pa_nil))) pa_nil))) pa_nil)) (pe_callB (call_repr hA (units100 hr)) (by rfl) T.b_repr (by decide +kernel) (pa_cons (pe_op op_rep (pe_lst (pa_cons (pv 4) pa_nil)) pe_int) pa_nil)) (nomark _))
       (pss_one (ps_ret pe_bl))
       pss_nil)
      (pss_cons (ps_if (PW.pt (pw_and (pt_val (pe_prop (pv 1) T.cl qP qF (hr.mono (by decide)) qB .nil pass0 rfl)) (pw_and1 (pt_not (pt_val (pe_callB (cr_all rfl) (by rfl) T.b_all (by decide +kernel) (pa_cons (pe_lc (own := [("_law_first", 7), ("_law_own", 8)]) (g := (gTup K 2 (gCons (gName 7) (gCons (gName 8) gNil)))) (tt := tYes) rfl sc_law_told_right.nd (pi_list (pv 4)) (blkOk_by (N := N_law_told_right) (sc := C8.fnScope s_law_told_right) (by decide +kernel)) (fun _ _ _ _ _ => (pg_tup (n := 2) rfl (pgs_cons (pg_name (i := 7) sc_law_told_right.nd rfl (Or.inl rfl)) (pgs_cons (pg_name (i := 8) sc_law_told_right.nd rfl (Or.inl rfl)) pgs_nil)))) (fun _ _ _ _ _ => pts_nil) (fun _ _ _ _ _ => (pe_cmpR op_eq (pv 8) pe_int (nomark _)))) pa_nil)))))))
       (pss_one (ps_ret pe_bl))
       pss_nil)
      (pss_one (ps_ret pe_bl)))))))))), ?_⟩
    have ho : ∀ g ∈ gs, g.ok ns.length := by rw [hn]; exact N.ok
    have low := N.low
    have high := N.high
    have ol := orgs_len gs ns
    have X1 := og_told2 (org_fit ho hm few (by omega)) (by omega)
    have ctL : ∀ {H' : Hp}, Wd a H0 H' → Ct K H' c ns := fun W' => ⟨.inl (W'.same.seq hc), by omega, by omega⟩
    refine ⟨_, rfl, _, rfl, l, c, gs, ns, rfl, hG.to W.same, W.same.seq hc, ho, few, by omega, fun H1 r1 x1 s1 r10 h1 A1 => ?_⟩
    have W1 := W.pure s1
    have pot1 := W1.pot
    have U1 := W1.under
    have G1 : Wd a (del H1 a) H1 := Wd.all pot1
    have NG := N.to U1
    have cG := U1.seq hc
    have gr : del H1 a r1 = some (.lst x1) := by rw [del_ne (W.ne r10)]; exact h1
    have gA : All2 (IsO K (del H1 a)) x1 (orgs gs ns) := A1.mono fun v o q => isO_del pot1.choose_spec.choose_spec.1 q
    have back : ∀ {H' : Hp}, Wd a (del H1 a) H' → Wd a H0 H' := fun w => w.back U1
    have gOff : ∀ b, H1 b = none → del H1 a b = none := fun b h => del_none' h
    generalize del H1 a = G at G1 NG cG gr gA back gOff
    have ctG : ∀ {H' : Hp}, Wd a G H' → Ct K H' c ns := fun w => ⟨.inl (w.same.seq cG), by omega, by omega⟩
    refine ⟨_, rfl, _, rfl, p, c, n, gs, ns, rfl, NG.to G1.same, ctG G1, hn, fun H2 r2 x2 s2 r20 h2 A2 => ?_⟩
    have w2 := G1.pure s2
    refine ⟨_, rfl, _, rfl, c, _, rfl, .inl ⟨w2.same.seq cG, fun t ht => ?_⟩⟩
    have m3 : Same H2 (upd H2 t (.tup (ns.map V.int))) := Same.new ht
    have w3 := w2.pure m3
    refine ⟨_, rfl, p, t, n, gs, ns, rfl, NG.to w3.same, ⟨.inr (SqT.of upd_same), by omega, by omega⟩, hn, fun H4 r4 x4 s4 r40 h4 A4 => ?_⟩
    have w4 := w3.pure s4
    refine ⟨by show 2 ≤ sizeLine; decide, fun b5 hb5 => ?_⟩
    have m5 : Same H4 (upd H4 b5 (.lst [.ref r2, .ref r4])) := Same.new hb5
    have w5 := w4.pure m5
    have t5 := (m3.trans s4).trans m5
    refine ⟨b5, .list [ogsPy (orgs gs ns), ogsPy (orgs gs ns)], rfl, .lst (SqL.of upd_same) (.cons (ogs_dp (SqL.of (t5 _ _ h2)) (A2.mono fun _ _ z => z.to t5)) (.cons (ogs_dp (SqL.of (m5 _ _ h4)) (A4.mono fun _ _ z => z.to m5)) .nil)), X1.1, X1.2.1, X1.2.2.1, X1.2.2.2, ?_⟩
    refine ⟨_, rfl, by show 1 ≤ sizeLine; decide, fun b6 hb6 => ?_⟩
    refine ⟨b6, 2, _, rfl, rfl, upd_same, by decide, by decide, by show 2 ≤ sizeLine; decide, fun b7 hb7 => ?_⟩
    have m7 := (Same.new (o := .lst [V.ref r1]) hb6).trans (Same.new (o := .lst (List.replicate (2 : Int).toNat [V.ref r1]).flatten) hb7)
    have w7 := w5.pure m7
    have due : ∀ {H' : Hp}, Wd a G H' → Dp K H' (.ref r1) (ogsPy (orgs gs ns)) := fun w => ogs_dp (SqL.of (w.same _ _ gr)) (gA.mono fun _ _ z => z.to w.same)
    refine ⟨b7, .list [ogsPy (orgs gs ns), ogsPy (orgs gs ns)], rfl, .lst (SqL.of upd_same) (.cons (due w7) (.cons (due w7) .nil)), X1.1, X1.2.1, X1.2.2.1, X1.2.2.2, ?_⟩
    refine ⟨rfl, _, rfl, itF (by simp) ?_⟩
    have t7 := t5.trans m7
    generalize upd (upd (upd H4 b5 (.lst [.ref r2, .ref r4])) b6 (.lst [V.ref r1])) b7 (.lst (List.replicate (2 : Int).toNat [V.ref r1]).flatten) = H7 at w7 t7
    -- the numbers where they come from
    have oa : ∀ {i : Nat} {t : V} , x2[i]? = some t → i < ns.length ∧ IsO K H2 t (oat (orgs gs ns) i) := fun {i t} h => by
      have hl : i < ns.length := by
        have := (List.getElem?_eq_some_iff.mp h).1
        have e := A2.1
        omega
      obtain ⟨t', e1, e2⟩ := o_at A2 (i := i) (by omega)
      rw [e1] at h
      cases h
      exact ⟨hl, t', rfl, e2⟩
    refine ⟨_, rfl, r2, rfl, ⟨_, SqL.of (t7 _ _ h2)⟩, fun D8 hD8 => lc_pure (walk_list (xs := x2)) ((runs gs ns).map V.int) (by rw [List.length_map, runs_length, A2.1, ol]) hD8 (by rw [A2.1, ol]; omega) (fun H' s => SqL.of ((t7.trans s) _ _ h2)) (fun i v H H' Q' hi s y q => ?_) (fun H8 s8 hd8 => ?_)⟩
    · obtain ⟨rfl, hv⟩ := y
      obtain ⟨hi', tt, rfl, hT⟩ := oa hv
      obtain ⟨v1, v2⟩ := org_value ho i hi'
      refine ⟨tt, _, rfl, (t7.trans s).seqT hT, rfl, _, _, rfl, _, _, rfl, rfl, rfl, ?_⟩
      refine ⟨_, rfl, _, rfl, c, _, _, _, rfl, rfl, (w7.pure s).same.seq cG, int_atI v1, _, rfl, _, _, rfl, rfl, ?_⟩
      refine q _ _ ?_ (Same.refl _)
      rw [int_at (by rw [runs_length]; exact hi'), v2]
    have w8 := w7.pure s8
    have t8 := t7.trans s8
    obtain ⟨dxG, lG, xsG, hpG, _⟩ := id NG.at_
    refine ⟨_, rfl, p, rfl, _, rfl, .inr ⟨dxG, _, w8.same _ _ hpG⟩, p, c, n, gs, ns, rfl, NG.to w8.same, ctG w8, hn, fun H9 q9 s9 q90 q91 => ?_⟩
    have w9 := w8.pure s9
    have t9 := t8.trans s9
    refine ⟨_, _, ints_dp (SqL.of (s9 _ _ hd8)), ints_dp (SqL.of q91), row_shaped _, row_shaped _, _, rfl, itF (by rw [row_same rfl]; rfl) ?_⟩
    -- what is told may be changed
    refine ⟨_, rfl, .inl ⟨rfl, _, SqL.of (t9 _ _ h2)⟩, r2, x2, _, rfl, rfl, t9 _ _ h2, size100 (by rw [A2.1, ol]; omega), ?_⟩
    have w10 := w9.mut (b := r2) (o := .lst (x2 ++ [V.non])) (gOff r2 r20) (G1.ne r20)
    generalize upd H9 r2 (.lst (x2 ++ [V.non])) = H10 at w10
    refine ⟨_, rfl, G, a, 41, rfl, w10, by decide, by decide, fun H11 d w11 d0 d1 => ?_⟩
    refine ⟨_, _, rfl, rfl, ?_⟩
    refine ⟨_, rfl, _, rfl, p, c, n, gs, ns, rfl, NG.to w11.same, ctG w11, hn, fun H12 r12 x12 s12 r120 h12 A12 => ?_⟩
    have w12 := w11.pure s12
    refine ⟨_, rfl, _, rfl, _, rfl, c, ns, d - 20, rfl, w12.same.seq cG, by omega, by omega, fun H13 q13 s13 q130 q131 => ?_⟩
    have w13 := w12.pure s13
    have rl : (raisedL ns (d - 20)).length = ns.length := List.length_map ..
    refine ⟨p, q13, n, gs, raisedL ns (d - 20), rfl, NG.to w13.same, ⟨.inl (SqL.of q131), by omega, by omega⟩, by omega, fun H14 r14 x14 s14 r140 h14 A14 => ?_⟩
    have w14 := w13.pure s14
    rw [org_raised ho] at A14
    have t14 := s13.trans s14
    refine ⟨by show 2 ≤ sizeLine; decide, fun b15 hb15 => ?_⟩
    have m15 : Same H14 (upd H14 b15 (.lst [.ref r12, .ref r14])) := Same.new hb15
    have w15 := w14.pure m15
    refine ⟨b15, .list [ogsPy (orgs gs ns), ogsPy (orgs gs ns)], rfl, .lst (SqL.of upd_same) (.cons (ogs_dp (SqL.of ((t14.trans m15) _ _ h12)) (A12.mono fun _ _ z => z.to (t14.trans m15))) (.cons (ogs_dp (SqL.of (m15 _ _ h14)) (A14.mono fun _ _ z => z.to m15)) .nil)), X1.1, X1.2.1, X1.2.2.1, X1.2.2.2, ?_⟩
    refine ⟨_, rfl, by show 1 ≤ sizeLine; decide, fun b16 hb16 => ?_⟩
    refine ⟨b16, 2, _, rfl, rfl, upd_same, by decide, by decide, by show 2 ≤ sizeLine; decide, fun b17 hb17 => ?_⟩
    have m17 := (Same.new (o := .lst [V.ref r1]) hb16).trans (Same.new (o := .lst (List.replicate (2 : Int).toNat [V.ref r1]).flatten) hb17)
    have w17 := w15.pure m17
    refine ⟨b17, .list [ogsPy (orgs gs ns), ogsPy (orgs gs ns)], rfl, .lst (SqL.of upd_same) (.cons (due w17) (.cons (due w17) .nil)), X1.1, X1.2.1, X1.2.2.1, X1.2.2.2, ?_⟩
    refine ⟨rfl, _, rfl, itF (by simp) ?_⟩
    generalize upd (upd (upd H14 b15 (.lst [.ref r12, .ref r14])) b16 (.lst [V.ref r1])) b17 (.lst (List.replicate (2 : Int).toNat [V.ref r1]).flatten) = H17 at w17
    -- plain nets
    refine ⟨_, rfl, p, dxG, _, rfl, w17.same _ _ hpG, p, n, gs, rfl, NG.to w17.same, fun H18 s18 => ⟨_, rfl, ?_⟩⟩
    have w18 := w17.pure s18
    refine ite2 (fun hpl => ?_) (fun hpl => ?_)
    · have hpl' : plainL gs = true := hpl
      have xl : x1.length = ns.length := by rw [gA.1, ol]
      refine ⟨_, rfl, r1, rfl, ⟨_, SqL.of (w18.same _ _ gr)⟩, fun D hD => lc_pure (walk_list (xs := x1)) ((List.replicate x1.length true).map V.bl) (by simp) hD (by omega) (fun H' s => SqL.of ((w18.pure s).same _ _ gr)) (fun i v H H' Q' hi s y q => ?_) (fun H19 s19 hd => ?_)⟩
      · obtain ⟨rfl, hv⟩ := y
        have hi' : i < ns.length := by rw [← xl]; exact hi
        obtain ⟨tt, e1, e2⟩ := o_at gA (i := i) (by omega)
        rw [e1] at hv
        cases hv
        refine ⟨tt, _, rfl, (w18.pure s).same.seqT e2, rfl, _, _, rfl, _, _, rfl, rfl, rfl, ?_⟩
        refine ⟨_, rfl, rfl, q _ _ ?_ (Same.refl _)⟩
        rw [List.getElem?_map, List.getElem?_replicate, if_pos hi, org_plain ho hpl' i hi']
        exact congrArg (fun b => some (V.bl b)) (decide_eq_true rfl).symm
      · refine ⟨D, _, rfl, SqL.of hd, _, rfl, itF (by simp) ?_⟩
        exact q_bl rfl (k _ (back (w18.pure s19)))
    · exact q_bl rfl (k _ (back w18))
end
end LL

namespace LL
open PySem L2 PySem.Spec PyProof.Rows
section
variable {P : Program} {w : World} {K : PySem.W.Frag} {mg : Str → Option Value} {base : Heap} {C : Addr}
def sp_law_behind_right (K : PySem.W.Frag) (C : Addr) : Sp := fun vs H Q _ => ∃ (H0 : Hp) (a p c : Addr) (n : Nat) (gs : List Gt) (ns : List Int), vs = [V.ref a, V.ref p, V.int n, V.ref c] ∧ Wd a H0 H ∧ NetAt K C H0 p n gs ∧ SqL K H0 c (ns.map V.int) ∧ ns.length = n ∧ gs.length ≤ 200 ∧
  (∀ g ∈ gs, g.mild = true) ∧ ∀ H', Wd a H0 H' → Q (.bl true) H'
theorem c_law_behind_right (T : Txt K mg C) : CalQ NoG P w K mg base 9 "_law_behind_right" (sp_law_behind_right K C) := by
  obtain ⟨f, fd, D, b⟩ := T.d_law_behind_right
  refine ⟨f, fd, _, fnQ0 noG_deep D.fn sc_law_behind_right (fun vs H Q E h => ?_) (fun cdv A outer s H vs Q E hr hA h => ?_), D.mgf, D.kp, b⟩
  · obtain ⟨H0, a, p, c, n, gs, ns, rfl, _⟩ := h
    rfl
  · obtain ⟨H0, a, p, c, n, gs, ns, rfl, W, N, hc, hn, few, hm, k⟩ := h
    obtain ⟨fc, cO, cF⟩ := c_call (P := P) (w := w) (base := base) T
    obtain ⟨fa, fda, aF, aS, aI, aB⟩ := c_add (P := P) (w := w) (base := base) T
    refine ⟨_, (pss_cons (ps_set (i := 4) sc_law_behind_right.nd rfl (Or.inl rfl) (C8.pe_c (c_law_gates T) hr (by decide) rfl (pa_cons (pv 0) (pa_cons (pv 2) (pa_cons pe_int pa_nil)))))
      (pss_cons (ps_asg (pe_tup (pa_cons (C8.pe_c (c_origins T) hr (by decide) rfl (pa_cons (pv 1) (pa_cons (pv 3) pa_nil))) (pa_cons (C8.pe_c (c_origins T) hr (by decide) rfl (pa_cons (C8.pe_mk (c_Net T) hr (by decide) rfl (pa_cons (pv 2) (pa_cons (pv 4) pa_nil))) (pa_cons (StX.pe_callO (pv 1) cO cF (hr.mono (by decide)) pass0 (pa_cons (pv 3) pa_nil)) pa_nil))) pa_nil))) (pg_tup (n := 2) rfl (pgs_cons (pg_name (i := 5) sc_law_behind_right.nd rfl (Or.inr rfl)) (pgs_cons (pg_name (i := 6) sc_law_behind_right.nd rfl (Or.inl rfl)) pgs_nil))))
      (pss_cons (ps_setLc (i := 7) (own := [("_law_first", 8), ("_law_own", 9)]) (g := (gTup K 2 (gCons (gName 8) (gCons (gName 9) gNil)))) (tt := tYes) rfl sc_law_behind_right.nd rfl rfl (sw_true rfl rfl rfl (by decide +kernel)) (pi_list (pv 6)) (blkOk_by (N := N_law_behind_right) (sc := C8.fnScope s_law_behind_right) (by decide +kernel)) (fun _ _ _ _ _ => (pg_tup (n := 2) rfl (pgs_cons (pg_name (i := 8) sc_law_behind_right.nd rfl (Or.inl rfl)) (pgs_cons (pg_name (i := 9) sc_law_behind_right.nd rfl (Or.inl rfl)) pgs_nil)))) (fun _ _ _ _ _ => pts_nil) (fun _ _ _ _ _ => (pe_tup (pa_cons (pe_ix (r := rIxT K) ix_tup (pe_ix (r := rIxL K) ix_list (pv 5) (pv 8) (fun _ _ => rfl)) pe_int (fun _ _ => rfl)) (pa_cons (pe_op op_add (pe_ix (r := rIxT K) ix_tup (pe_ix (r := rIxL K) ix_list (pv 5) (pv 8) (fun _ _ => rfl)) pe_int (fun _ _ => rfl)) (pv 9)) pa_nil)))))
      (pss_one (ps_ret (pe_cmpR op_eq (pe_callB (call_repr hA (units100 hr)) (by rfl) T.b_repr (by decide +kernel) (pa_cons (C8.pe_c (c_origins T) hr (by decide) rfl (pa_cons (pe_op (op_own2 aF (hr.mono (by decide)) T.o_first aS aI aB) (pv 1) (C8.pe_mk (c_Net T) hr (by decide) rfl (pa_cons (pv 2) (pa_cons (pv 4) pa_nil)))) (pa_cons (pv 3) pa_nil))) pa_nil)) (pe_callB (call_repr hA (units100 hr)) (by rfl) T.b_repr (by decide +kernel) (pa_cons (pv 7) pa_nil)) (nomark _))))))), ?_⟩
    have low := N.low
    have high := N.high
    refine ⟨_, rfl, _, rfl, H0, a, n, 8, rfl, W, low, high, by decide, fun G H1 l gm s0 w1 okm mildm lenm hG => ?_⟩
    have back : ∀ {H' : Hp}, Wd a G H' → Wd a H0 H' := fun w => w.back s0
    have NG := N.to s0
    have cG := s0.seq hc
    have ho : ∀ g ∈ gs, g.ok ns.length := by rw [hn]; exact N.ok
    have hom : ∀ g ∈ gm, g.ok ns.length := by rw [hn]; exact okm
    have ctG : ∀ {H' : Hp}, Wd a G H' → Ct K H' c ns := fun w => ⟨.inl (w.same.seq cG), by omega, by omega⟩
    obtain ⟨dxG, lG, xsG, hpG, _⟩ := id NG.at_
    refine ⟨_, rfl, _, rfl, p, c, n, gs, ns, rfl, NG.to w1.same, ctG w1, hn, fun H2 r2 x2 s2 r20 h2 A2 => ?_⟩
    have w2 := w1.pure s2
    refine ⟨_, rfl, _, rfl, fun xk dk hxk hdk nk => ?_⟩
    refine ⟨_, xk, dk, l, n, gm, rfl, (Same.new hdk).trans (Same.new (by rw [upd_ne nk.symm]; exact hxk)), hxk, upd_same, hG.to w2.same, low, high, okm, by omega, fun H3 t3 N3 => ⟨rfl, ?_⟩⟩
    have w3 := w2.pure t3
    refine ⟨_, rfl, p, rfl, _, rfl, .inr ⟨dxG, _, w3.same _ _ hpG⟩, p, c, n, gs, ns, rfl, NG.to w3.same, ctG w3, hn, fun H4 q4 s4 q40 q41 => ?_⟩
    have w4 := w3.pure s4
    have rn : (runs gs ns).length = ns.length := runs_length gs ns
    refine ⟨xk, q4, n, gm, runs gs ns, rfl, N3.to s4, ⟨.inl (SqL.of q41), by omega, by omega⟩, by omega, fun H5 r5 x5 s5 r50 h5 A5 => ?_⟩
    have w5 := w4.pure s5
    have t5 := (t3.trans s4).trans s5
    refine ⟨by show 2 ≤ sizeLine; decide, fun q hq => ?_⟩
    have m6 : Same H5 (upd H5 q (.tup [.ref r2, .ref r5])) := Same.new hq
    have w6 := w5.pure m6
    have t6 := t5.trans m6
    refine ⟨q, _, rfl, SqT.of upd_same, rfl, _, _, rfl, _, _, rfl, rfl, ?_⟩
    have w2' : Same H2 (upd H5 q (.tup [.ref r2, .ref r5])) := t6
    have nearAt : ∀ {H' : Hp} {i : Nat}, Same H2 H' → i < ns.length → ∃ u, x2[i]? = some (.ref u) ∧ SqT K H' u [.int (oat (orgs gs ns) i).1, .int (oat (orgs gs ns) i).2] := fun {H' i} s hi => by
      obtain ⟨u, e1, e2⟩ := o_at A2 (i := i) (by rw [orgs_len]; exact hi)
      exact ⟨u, e1, s.seqT e2⟩
    have ol : (orgs gm (runs gs ns)).length = ns.length := by rw [orgs_len, rn]
    have x5l : x5.length = ns.length := by rw [A5.1, ol]
    refine ⟨_, rfl, r5, rfl, ⟨_, SqL.of (m6 _ _ h5)⟩, fun D hD => lc_rel (R := IsO K) (fun _ _ _ _ s r => r.to s) (walk_list (xs := x5)) (orgs (gs ++ gm) ns) (by rw [orgs_len, x5l]) hD (by omega) (fun H' s => SqL.of (s _ _ (m6 _ _ h5))) (fun i v H H' Q' hi s ey y q => ?_) (fun H7 x7 s7 hd7 A7 => ?_)⟩
    · obtain ⟨rfl, hv⟩ := y
      obtain ⟨zs, hzs⟩ := ey
      have hi' : i < ns.length := by omega
      obtain ⟨tt, e1, e2⟩ := o_at A5 (i := i) (by omega)
      rw [e1] at hv
      cases hv
      have v1 := (org_value (gs := gm) (ns := runs gs ns) (by rw [rn]; exact hom) i (by omega)).1
      obtain ⟨u, hu, hu2⟩ := nearAt (t6.trans s) (show (oat (orgs gm (runs gs ns)) i).1 < ns.length by omega)
      have n2 := (t6.trans s) _ _ h2
      refine ⟨tt, _, rfl, (m6.trans s).seqT e2, rfl, _, _, rfl, _, _, rfl, rfl, rfl, ?_⟩
      refine ⟨_, rfl, _, rfl, r2, _, _, _, rfl, rfl, SqL.of n2, atI_nat hu, u, _, _, _, rfl, rfl, hu2, rfl, ?_⟩
      refine ⟨_, rfl, _, rfl, r2, _, _, _, rfl, rfl, SqL.of n2, atI_nat hu, u, _, _, _, rfl, rfl, hu2, rfl, ?_⟩
      refine ⟨_, rfl, _, _, rfl, rfl, by show 2 ≤ sizeLine; decide, fun t ht => ?_⟩
      refine q _ (led2 (orgs gs ns) (oat (orgs gm (runs gs ns)) i)) _ ?_ (Same.new ht) ⟨t, rfl, SqT.of (del_keep ?_ (ne_of_none hzs ht).symm)⟩
      · rw [org_behind hom, List.getElem?_map]
        have e : (orgs gm (runs gs ns))[i]? = some (oat (orgs gm (runs gs ns)) i) := by
          unfold oat
          rw [List.getD_eq_getElem?_getD, List.getElem?_eq_getElem (by omega)]
          rfl
        rw [e]
        rfl
      · rw [upd_same]
        rfl
    have w7 := w6.pure s7
    have hoa : ∀ g ∈ gs ++ gm, g.ok ns.length := fun g hg => (List.mem_append.mp hg).elim (ho g) (hom g)
    have hma : ∀ g ∈ gs ++ gm, g.mild = true := fun g hg => (List.mem_append.mp hg).elim (hm g) (mildm g)
    have X := og_told (org_fit hoa hma (by rw [List.length_append]; omega) (by omega)) (by rw [orgs_len]; omega)
    refine ⟨_, rfl, _, rfl, _, rfl, fun yk ek hyk hek ny => ?_⟩
    refine ⟨_, yk, ek, l, n, gm, rfl, (Same.new hek).trans (Same.new (by rw [upd_ne ny.symm]; exact hyk)), hyk, upd_same, hG.to w7.same, low, high, okm, by omega, fun H8 s8 N8 => ⟨rfl, ?_⟩⟩
    have w8 := w7.pure s8
    obtain ⟨dy, ly, hy, _⟩ := id N8.old
    refine ⟨p, yk, dxG, dy, _, _, rfl, rfl, w8.same _ _ hpG, hy, p, yk, n, gs, gm, rfl, NG.to w8.same, N8, by omega, fun H9 z s9 Nz => ?_⟩
    have w9 := w8.pure s9
    refine ⟨_, rfl, z, c, n, gs ++ gm, ns, rfl, Nz, ctG w9, hn, fun H10 r10 x10 s10 r100 h10 A10 => ?_⟩
    have w10 := w9.pure s10
    refine ⟨r10, ogsPy (orgs (gs ++ gm) ns), rfl, ogs_dp (SqL.of h10) A10, X.1, X.2.1, X.2.2.1, X.2.2.2, ?_⟩
    have t10 := (s8.trans s9).trans s10
    refine ⟨_, rfl, D, ogsPy (orgs (gs ++ gm) ns), rfl, ogs_dp (SqL.of (t10 _ _ hd7)) (A7.mono fun _ _ z => z.to t10), X.1, X.2.1, X.2.2.1, X.2.2.2, ?_⟩
    exact ⟨rfl, q_bl (decide_eq_true rfl) (k _ (back w10))⟩
end
end LL

namespace LL
open PySem L2 PySem.Spec PyProof.Rows
def rO (os : List Nat) (o : Og) : Og := (ord os o.1, o.2)
section
variable {P : Program} {w : World} {K : PySem.W.Frag} {mg : Str → Option Value} {base : Heap} {C : Addr}
def sp_law_turned_right (K : PySem.W.Frag) (C : Addr) : Sp := fun vs H Q _ => ∃ (H0 : Hp) (a p c : Addr) (n : Nat) (gs : List Gt) (ns : List Int), vs = [V.ref a, V.ref p, V.int n, V.ref c] ∧ Wd a H0 H ∧ NetAt K C H0 p n gs ∧ SqL K H0 c (ns.map V.int) ∧ ns.length = n ∧ gs.length ≤ 400 ∧
  (∀ g ∈ gs, g.mild = true) ∧ ∀ H', Wd a H0 H' → Q (.bl true) H'
theorem c_law_turned_right (T : Txt K mg C) : CalQ NoG P w K mg base 9 "_law_turned_right" (sp_law_turned_right K C) := by
  obtain ⟨f, fd, D, b⟩ := T.d_law_turned_right
  refine ⟨f, fd, _, fnQ0 noG_deep D.fn sc_law_turned_right (fun vs H Q E h => ?_) (fun cdv A outer s H vs Q E hr hA h => ?_), D.mgf, D.kp, b⟩
  · obtain ⟨H0, a, p, c, n, gs, ns, rfl, _⟩ := h
    rfl
  · obtain ⟨H0, a, p, c, n, gs, ns, rfl, W, N, hc, hn, few, hm, k⟩ := h
    obtain ⟨fa, fda, nF, nS, nI, nB⟩ := c_neg (P := P) (w := w) (base := base) T
    refine ⟨_, (pss_cons (ps_asg (pe_tup (pa_cons (C8.pe_c (c_origins T) hr (by decide) rfl (pa_cons (pv 1) (pa_cons (pv 3) pa_nil))) (pa_cons (C8.pe_c (c_law_mixed T) hr (by decide) rfl (pa_cons (pv 0) (pa_cons (pe_listRg rfl (by rfl) T.b_list (prg_1 (by rfl) T.b_range (pv 2))) pa_nil))) pa_nil))) (pg_tup (n := 2) rfl (pgs_cons (pg_name (i := 4) sc_law_turned_right.nd rfl (Or.inl rfl)) (pgs_cons (pg_name (i := 5) sc_law_turned_right.nd rfl (Or.inr rfl)) pgs_nil))))
      (pss_cons (ps_if (pt_cmpR op_ne (pe_callB (call_repr hA (units100 hr)) (by rfl) T.b_repr (by decide +kernel) (pa_cons (C8.pe_c (c_origins T) hr (by decide) rfl (pa_cons (pe_un (un_own nF (hr.mono (by decide)) nS nI nB) (pv 1)) (pa_cons (C8.pe_c (c_turned T) hr (by decide) rfl (pa_cons (pv 3) pa_nil)) pa_nil))) pa_nil)) (pe_callB (call_repr hA (units100 hr)) (by rfl) T.b_repr (by decide +kernel) (pa_cons (pe_lc (own := [("_law_first", 7), ("_law_own", 8)]) (g := (gTup K 2 (gCons (gName 7) (gCons (gName 8) gNil)))) (tt := tYes) rfl sc_law_turned_right.nd (pi_list (pv 4)) (blkOk_by (N := N_law_turned_right) (sc := C8.fnScope s_law_turned_right) (by decide +kernel)) (fun _ _ _ _ _ => (pg_tup (n := 2) rfl (pgs_cons (pg_name (i := 7) sc_law_turned_right.nd rfl (Or.inl rfl)) (pgs_cons (pg_name (i := 8) sc_law_turned_right.nd rfl (Or.inl rfl)) pgs_nil)))) (fun _ _ _ _ _ => pts_nil) (fun _ _ _ _ _ => (pe_tup (pa_cons (pv 7) (pa_cons (pe_un un_neg (pv 8)) pa_nil))))) pa_nil)) (nomark _))
       (pss_one (ps_ret pe_bl))
       pss_nil)
      (pss_cons (ps_set (i := 6) sc_law_turned_right.nd rfl (Or.inr rfl) (C8.pe_c (c_origins T) hr (by decide) rfl (pa_cons (C8.pe_mt (m_renumbered T) hr (by decide) (pv 1) (pa_cons (pv 5) pa_nil)) (pa_cons (C8.pe_c (c_moved T) hr (by decide) rfl (pa_cons (pv 3) (pa_cons (pv 5) pa_nil))) pa_nil))))
      (pss_one (ps_ret (pe_cmpR op_eq (pe_callB (call_repr hA (units100 hr)) (by rfl) T.b_repr (by decide +kernel) (pa_cons (pe_lc (own := [("_law_lane", 9)]) (g := (gName 9)) (tt := tYes) rfl sc_law_turned_right.nd (pi_range1 rfl T.b_range (pa_cons (pv 2) pa_nil)) (blkOk_by (N := N_law_turned_right) (sc := C8.fnScope s_law_turned_right) (by decide +kernel)) (fun _ _ _ _ _ => (pg_name (i := 9) sc_law_turned_right.nd rfl (Or.inl rfl))) (fun _ _ _ _ _ => pts_nil) (fun _ _ _ _ _ => (pe_ix (r := rIxL K) ix_list (pv 6) (pe_ix (r := rIxL K) ix_list (pv 5) (pv 9) (fun _ _ => rfl)) (fun _ _ => rfl)))) pa_nil)) (pe_callB (call_repr hA (units100 hr)) (by rfl) T.b_repr (by decide +kernel) (pa_cons (pe_lc (own := [("_law_first", 7), ("_law_own", 8)]) (g := (gTup K 2 (gCons (gName 7) (gCons (gName 8) gNil)))) (tt := tYes) rfl sc_law_turned_right.nd (pi_list (pv 4)) (blkOk_by (N := N_law_turned_right) (sc := C8.fnScope s_law_turned_right) (by decide +kernel)) (fun _ _ _ _ _ => (pg_tup (n := 2) rfl (pgs_cons (pg_name (i := 7) sc_law_turned_right.nd rfl (Or.inl rfl)) (pgs_cons (pg_name (i := 8) sc_law_turned_right.nd rfl (Or.inl rfl)) pgs_nil)))) (fun _ _ _ _ _ => pts_nil) (fun _ _ _ _ _ => (pe_tup (pa_cons (pe_ix (r := rIxL K) ix_list (pv 5) (pv 7) (fun _ _ => rfl)) (pa_cons (pv 8) pa_nil))))) pa_nil)) (nomark _))))))), ?_⟩
    have low := N.low
    have high := N.high
    have ho : ∀ g ∈ gs, g.ok ns.length := by rw [hn]; exact N.ok
    have ol := orgs_len gs ns
    have fit := org_fit ho hm few (by omega)
    refine ⟨_, rfl, _, rfl, p, c, n, gs, ns, rfl, N.to W.same, ⟨.inl (W.same.seq hc), by omega, by omega⟩, hn, fun H1 r1 x1 s1 r10 h1 A1 => ?_⟩
    have W1 := W.pure s1
    have pot1 := W1.pot
    have U1 := W1.under
    have G1 : Wd a (del H1 a) H1 := Wd.all pot1
    have NG := N.to U1
    have cG := U1.seq hc
    have gr : del H1 a r1 = some (.lst x1) := by rw [del_ne (W.ne r10)]; exact h1
    have gA : All2 (IsO K (del H1 a)) x1 (orgs gs ns) := A1.mono fun v o q => isO_del pot1.choose_spec.choose_spec.1 q
    have back : ∀ {H' : Hp}, Wd a (del H1 a) H' → Wd a H0 H' := fun w => w.back U1
    generalize del H1 a = G at G1 NG cG gr gA back
    refine ⟨_, rfl, _, rfl, (n : Int), rfl, RgOk.of_le (by omega) (by omega) (by omega) (by omega), fun q hq => ?_⟩
    rw [rg_eq]
    refine ⟨_, a, q, n, rfl, G1.ext hq, SqL.of upd_same, high, fun H3 l os W3 l0 lna hl ord' => ?_⟩
    have gq : G q = none := G1.fresh hq
    have sG : Same G (upd (upd G q (.lst (intsV (List.range n)))) l (.lst (intsV os))) := (Same.new gq).trans (Same.new l0)
    have W4 : Wd a (upd (upd G q (.lst (intsV (List.range n)))) l (.lst (intsV os))) H3 := W3.know l0 lna hl
    have gl : (upd (upd G q (.lst (intsV (List.range n)))) l (.lst (intsV os))) l = some (.lst (intsV os)) := upd_same
    have back : ∀ {H' : Hp}, Wd a (upd (upd G q (.lst (intsV (List.range n)))) l (.lst (intsV os))) H' → Wd a H0 H' := fun w => back (w.back sG)
    have NG := NG.to sG
    have cG := sG.seq cG
    have gr := sG _ _ gr
    have gA : All2 (IsO K (upd (upd G q (.lst (intsV (List.range n)))) l (.lst (intsV os)))) x1 (orgs gs ns) := gA.mono fun _ _ z => z.to sG
    generalize upd (upd G q (.lst (intsV (List.range n)))) l (.lst (intsV os)) = G at W4 gl NG cG gr gA back
    obtain ⟨dxG, lG, xsG, hpG, _⟩ := id NG.at_
    have ctG : ∀ {H' : Hp}, Wd a G H' → Ct K H' c ns := fun w => ⟨.inl (w.same.seq cG), by omega, by omega⟩
    have x1l : x1.length = ns.length := by rw [gA.1, ol]
    have oneAt : ∀ {i : Nat} {v : V} {H' : Hp}, Same G H' → x1[i]? = some v → i < ns.length ∧ (orgs gs ns)[i]? = some (oat (orgs gs ns) i) ∧ ∃ t, v = .ref t ∧ SqT K H' t [.int (oat (orgs gs ns) i).1, .int (oat (orgs gs ns) i).2] := fun {i v H'} s hv => by
      have hi : i < ns.length := by rw [← x1l]; exact (List.getElem?_eq_some_iff.mp hv).1
      obtain ⟨tt, e1, e2⟩ := o_at gA (i := i) (by omega)
      rw [e1] at hv
      cases hv
      refine ⟨hi, ?_, tt, rfl, s.seqT e2⟩
      unfold oat
      rw [List.getD_eq_getElem?_getD, List.getElem?_eq_getElem (by omega)]
      rfl
    refine ⟨by show 2 ≤ sizeLine; decide, fun tq htq => ?_⟩
    have W5 := W4.new (o := .tup [.ref r1, .ref l]) htq
    refine ⟨tq, _, rfl, SqT.of upd_same, rfl, _, _, rfl, _, _, rfl, rfl, ?_⟩
    generalize upd H3 tq (.tup [.ref r1, .ref l]) = H5 at W5
    -- turned about
    refine ⟨_, rfl, p, dxG, _, rfl, W5.same _ _ hpG, p, n, gs, rfl, NG.to W5.same, fun H6 x6 s6 N6 => ?_⟩
    have W6 := W5.pure s6
    refine ⟨_, rfl, c, ns, rfl, W6.same.seq cG, by omega, by omega, fun H7 q7 s7 q70 q71 => ?_⟩
    have W7 := W6.pure s7
    have tl : (turnedL ns).length = ns.length := List.length_map ..
    refine ⟨x6, q7, n, gs.map Gt.tn, turnedL ns, rfl, N6.to s7, ⟨.inl (SqL.of q71), by omega, by omega⟩, by omega, fun H8 r8 x8 s8 r80 h8 A8 => ?_⟩
    have W8 := W7.pure s8
    rw [org_turned ho] at A8
    have fitN : ∀ o ∈ (orgs gs ns).map nO, o.1 < 1000 ∧ o.2.natAbs < 10 ^ 40 := fun o h => by
      obtain ⟨o', h', e⟩ := List.mem_map.mp h
      subst e
      refine ⟨(fit o' h').1, ?_⟩
      show (-o'.2).natAbs < _
      rw [Int.natAbs_neg]
      exact (fit o' h').2
    have XN := og_told fitN (by rw [List.length_map, ol]; omega)
    refine ⟨r8, ogsPy ((orgs gs ns).map nO), rfl, ogs_dp (SqL.of h8) A8, XN.1, XN.2.1, XN.2.2.1, XN.2.2.2, ?_⟩
    refine ⟨_, rfl, r1, rfl, ⟨_, SqL.of (W8.same _ _ gr)⟩, fun D9 hD9 => lc_rel (R := IsO K) (fun _ _ _ _ s r => r.to s) (walk_list (xs := x1)) ((orgs gs ns).map nO) (by rw [List.length_map, ol, x1l]) hD9 (by omega) (fun H' s => SqL.of ((W8.pure s).same _ _ gr)) (fun i v H H' Q' hi s ey y q => ?_) (fun H9 x9 s9 hd9 A9 => ?_)⟩
    · obtain ⟨rfl, hv⟩ := y
      obtain ⟨zs, hzs⟩ := ey
      obtain ⟨hi', eo, tt, rfl, hT⟩ := oneAt (W8.pure s).same hv
      refine ⟨tt, _, rfl, hT, rfl, _, _, rfl, _, _, rfl, rfl, rfl, ?_⟩
      refine ⟨_, rfl, _, rfl, _, rfl, by show 2 ≤ sizeLine; decide, fun t ht => ?_⟩
      refine q _ (nO (oat (orgs gs ns) i)) _ (by rw [List.getElem?_map, eo]; rfl) (Same.new ht) ⟨t, rfl, SqT.of (del_keep ?_ (ne_of_none hzs ht).symm)⟩
      rw [upd_same]
      rfl
    have W9 := W8.pure s9
    refine ⟨D9, ogsPy ((orgs gs ns).map nO), rfl, ogs_dp (SqL.of hd9) A9, XN.1, XN.2.1, XN.2.2.1, XN.2.2.2, ?_⟩
    refine ⟨rfl, _, rfl, itF (by simp) ?_⟩
    -- on other lanes
    refine ⟨_, rfl, p, dxG, _, rfl, W9.same _ _ hpG, rfl, _, rfl, p, l, n, gs, os, rfl, NG.to W9.same, SqL.of (W9.same _ _ gl), ord', fun H10 x10 s10 N10 => ?_⟩
    have W10 := W9.pure s10
    have ord2 : IsOrd os ns.length := by rw [hn]; exact ord'
    refine ⟨_, rfl, _, rfl, c, l, ns, os, rfl, W10.same.seq cG, by omega, by omega, SqL.of (W10.same _ _ gl), ord2, fun H11 q11 s11 q110 q111 => ?_⟩
    have W11 := W10.pure s11
    have ml : (movedL os ns).length = ns.length := moved_len
    refine ⟨x10, q11, n, gs.map (Gt.mv os), movedL os ns, rfl, N10.to s11, ⟨.inl (SqL.of q111), by omega, by omega⟩, by omega, fun H12 r12 x12 s12 r120 h12 A12 => ?_⟩
    have W12 := W11.pure s12
    have om := org_moved ord2 ho
    have lt : ∀ {i}, i < ns.length → ord os i < ns.length := fun hi => ord2.lt (ord_mem (by rw [ord2.len]; exact hi))
    have fitM : ∀ o ∈ (orgs gs ns).map (rO os), o.1 < 1000 ∧ o.2.natAbs < 10 ^ 40 := fun o h => by
      obtain ⟨o', h', e⟩ := List.mem_map.mp h
      subst e
      obtain ⟨i, hi, e⟩ := og_mem h'
      refine ⟨?_, (fit o' h').2⟩
      have q := lt (org_value ho i (by omega)).1
      rw [e] at q
      show ord os o'.1 < 1000
      omega
    have XM := og_told fitM (by rw [List.length_map, ol]; omega)
    have ordAt : ∀ {i : Nat}, i < ns.length → (intsV os)[i]? = some (.int ((ord os i : Nat) : Int)) := fun hi => ord_at (by rw [ord2.len]; exact hi)
    refine ⟨_, rfl, (n : Int), rfl, by omega, by omega, fun D13 hD13 => lc_rel (R := IsO K) (fun _ _ _ _ s r => r.to s) (n := n) (walk_range (lo := 0)) ((orgs gs ns).map (rO os)) (by rw [List.length_map, ol, hn]) hD13 (by omega) (fun _ _ => trivial) (fun i v H H' Q' hi s ey y q => ?_) (fun H13 x13 s13 hd13 A13 => ?_)⟩
    · obtain ⟨rfl, rfl⟩ := y
      obtain ⟨zs, hzs⟩ := ey
      have hi' : i < ns.length := by omega
      have W13 := W12.pure s
      have eo : (orgs gs ns)[i]? = some (oat (orgs gs ns) i) := by
        unfold oat
        rw [List.getD_eq_getElem?_getD, List.getElem?_eq_getElem (by omega)]
        rfl
      obtain ⟨tt, e1, e2⟩ := o_at A12 (i := ord os i) (by rw [orgs_len, ml]; exact lt hi')
      rw [om i hi'] at e2
      refine ⟨rfl, _, rfl, _, rfl, _, rfl, l, _, 0 + (i : Int), _, rfl, rfl, SqL.of (W13.same _ _ gl), (by rw [Int.zero_add]; exact atI_nat (ordAt hi')), r12, _, _, _, rfl, rfl, SqL.of (s _ _ h12), atI_nat e1, ?_⟩
      refine q _ (rO os (oat (orgs gs ns) i)) _ (by rw [List.getElem?_map, eo]; rfl) (Same.refl _) ⟨tt, rfl, ?_⟩
      exact sqT_del (s.seqT e2) hzs
    have W13 := W12.pure s13
    refine ⟨D13, ogsPy ((orgs gs ns).map (rO os)), rfl, ogs_dp (SqL.of hd13) A13, XM.1, XM.2.1, XM.2.2.1, XM.2.2.2, ?_⟩
    refine ⟨_, rfl, r1, rfl, ⟨_, SqL.of (W13.same _ _ gr)⟩, fun D14 hD14 => lc_rel (R := IsO K) (fun _ _ _ _ s r => r.to s) (walk_list (xs := x1)) ((orgs gs ns).map (rO os)) (by rw [List.length_map, ol, x1l]) hD14 (by omega) (fun H' s => SqL.of ((W13.pure s).same _ _ gr)) (fun i v H H' Q' hi s ey y q => ?_) (fun H14 x14 s14 hd14 A14 => ?_)⟩
    · obtain ⟨rfl, hv⟩ := y
      obtain ⟨zs, hzs⟩ := ey
      obtain ⟨hi', eo, tt, rfl, hT⟩ := oneAt (W13.pure s).same hv
      refine ⟨tt, _, rfl, hT, rfl, _, _, rfl, _, _, rfl, rfl, rfl, ?_⟩
      refine ⟨_, rfl, _, rfl, l, _, _, _, rfl, rfl, SqL.of ((W13.pure s).same _ _ gl), atI_nat (ordAt (org_value ho i hi').1), _, rfl, by show 2 ≤ sizeLine; decide, fun t ht => ?_⟩
      refine q _ (rO os (oat (orgs gs ns) i)) _ (by rw [List.getElem?_map, eo]; rfl) (Same.new ht) ⟨t, rfl, SqT.of (del_keep ?_ (ne_of_none hzs ht).symm)⟩
      rw [upd_same]
      rfl
    have W14 := W13.pure s14
    refine ⟨D14, ogsPy ((orgs gs ns).map (rO os)), rfl, ogs_dp (SqL.of hd14) A14, XM.1, XM.2.1, XM.2.2.1, XM.2.2.2, ?_⟩
    exact ⟨rfl, q_bl (decide_eq_true rfl) (k _ (back W14))⟩
end
end LL

namespace LL
open PySem L2 PySem.Spec PyProof.Rows
theorem del_some {H : Hp} {a b : Addr} {o : HO} (h : H b = some o) (n : b ≠ a) : del H a b = some o := by rw [del_ne n]; exact h
theorem all2_rep {α β : Type} {R : α → β → Prop} {x : α} {y : β} (h : R x y) (n : Nat) : All2 R (List.replicate n x) (List.replicate n y) := ⟨by rw [List.length_replicate, List.length_replicate], fun i u v h1 h2 => by
  have e1 := List.eq_of_mem_replicate (List.mem_of_getElem? h1)
  have e2 := List.eq_of_mem_replicate (List.mem_of_getElem? h2)
  rw [e1, e2]
  exact h⟩
theorem gs_pot {K : PySem.W.Frag} {H : Hp} {a l : Addr} {xs : List V} {gs : List Gt} (p : Pot H a) (hx : H l = some (.lst xs)) (hA : All2 (IsG K H) xs gs) : del H a l = some (.lst xs) ∧ All2 (IsG K (del H a)) xs gs := by
  obtain ⟨p0, p1, e, _⟩ := id p
  refine ⟨del_some hx fun z => ?_, hA.mono fun v g ⟨t, e', q⟩ => ⟨t, e', sqT_del q e⟩⟩
  rw [z, e] at hx
  injection hx with hx
  injection hx with hx
  obtain ⟨g, hg, t, e', _⟩ := hA.get (i := 0) (x := V.int p0) (by rw [← hx]; rfl)
  cases e'
theorem net_pot {K : PySem.W.Frag} {C : Addr} {H : Hp} {a x : Addr} {n : Nat} {gs : List Gt} (p : Pot H a) (h : NetAt K C H x n gs) : NetAt K C (del H a) x n gs := by
  obtain ⟨⟨dx, l, xs, h1, h2, h3⟩, b, c, d, e⟩ := h
  obtain ⟨q1, q2⟩ := gs_pot p h2 h3
  obtain ⟨p0, p1, ep, _⟩ := id p
  exact ⟨⟨dx, l, xs, del_some h1 (ne_of h1 ep (by intro z; cases z)), q1, q2⟩, b, c, d, e⟩
theorem word_add (g : Gt) : decide (V.str g.word = V.str "add") = g.isAdd := by
  cases g
  · exact (by decide +kernel : decide (V.str "low" = V.str "add") = false)
  · exact (by decide +kernel : decide (V.str "high" = V.str "add") = false)
  · exact (by decide +kernel : decide (V.str "sort" = V.str "add") = false)
  · exact (by decide +kernel : decide (V.str "copy" = V.str "add") = false)
  · exact (by decide +kernel : decide (V.str "add" = V.str "add") = true)
abbrev plains (gs : List Gt) : List Gt := gs.filter fun g => !g.isAdd
theorem plains_next {gs : List Gt} {i : Nat} {g : Gt} (h : gs[i]? = some g) : plains (gs.take (i + 1)) = plains (gs.take i) ++ (if g.isAdd = true then [] else [g]) := by
  unfold plains
  rw [List.take_add_one, h, List.filter_append]
  congr 1
  show List.filter (fun g => !g.isAdd) [g] = _
  cases e : g.isAdd <;> simp [e]
abbrev knownG : List Gt := [.low 0 1, .high 0 1, .sort 0 1, .add 1 2, .copy 0 1]
abbrev longG : List Gt := List.replicate 400 (.add 0 1)
theorem known_ok : ∀ g ∈ knownG, g.ok 2 := fun g hg => by
  simp only [knownG, List.mem_cons, List.not_mem_nil, or_false] at hg
  rcases hg with e | e | e | e | e <;> subst e
  · exact ⟨by decide, by decide, by decide⟩
  · exact ⟨by decide, by decide, by decide⟩
  · exact ⟨by decide, by decide, by decide⟩
  · exact (show 1 < 2 by decide)
  · exact ⟨by decide, by decide, by decide⟩
theorem long_ok : ∀ g ∈ longG, g.ok 1 := fun g hg => by
  rw [List.eq_of_mem_replicate hg]
  exact (show 0 < 1 by decide)
theorem known_org : orgs knownG [3, 3] = [(1, 2), (1, 2)] := by decide +kernel
theorem long_org : orgs longG [5] = [(0, 400)] := by decide +kernel
section
variable {P : Program} {w : World} {K : PySem.W.Frag} {mg : Str → Option Value} {base : Heap} {C : Addr}
def sp_law_right : Sp := fun vs H Q _ => ∃ (a : Addr), vs = [V.ref a] ∧ Pot H a ∧ ∀ H', Same (del H a) H' → Q (.bl true) H'
theorem c_law_right (T : Txt K mg C) : CalQ NoG P w K mg base 11 "_law_right" sp_law_right := by
  obtain ⟨f, fd, D, b⟩ := T.d_law_right
  refine ⟨f, fd, _, fnQ0 noG_deep D.fn sc_law_right (fun vs H Q E h => ?_) (fun cdv A outer s H vs Q E hr hA h => ?_), D.mgf, D.kp, b⟩
  · obtain ⟨a, rfl, _⟩ := h
    rfl
  · obtain ⟨a, rfl, hpot, k⟩ := h
    obtain ⟨eg, efd, eF, eS, eI, eB⟩ := c_eq (P := P) (w := w) (base := base) T
    have W0 := Wd.all hpot
    refine ⟨_, (pss_cons (ps_set (i := 1) sc_law_right.nd rfl (Or.inl rfl) (pe_op op_add pe_int (C8.pe_c (c_law_draw T) hr (by decide) rfl (pa_cons (pv 0) (pa_cons pe_int pa_nil)))))
      (pss_cons (ps_set (i := 2) sc_law_right.nd rfl (Or.inl rfl) (C8.pe_c (c_law_gates T) hr (by decide) rfl (pa_cons (pv 0) (pa_cons (pv 1) (pa_cons pe_int pa_nil)))))
      (pss_cons (ps_if (pt_cmpR op_eq (C8.pe_c (c_law_draw T) hr (by decide) rfl (pa_cons (pv 0) (pa_cons pe_int pa_nil))) pe_int (nomark _))
       (pss_one (ps_setLc (i := 2) (own := [("_law_gate_here", 7)]) (g := (gName 7)) (tt := _) rfl sc_law_right.nd rfl rfl (sw_true rfl rfl rfl (by decide +kernel)) (pi_list (pv 2)) (blkOk_by (N := N_law_right) (sc := C8.fnScope s_law_right) (by decide +kernel)) (fun _ _ _ _ _ => (pg_name (i := 7) sc_law_right.nd rfl (Or.inl rfl))) (fun _ _ _ _ _ => pts_one (pt_cmpR op_ne (pe_ix (r := rIxT K) ix_tup (pv 7) pe_int (fun _ _ => rfl)) pe_str (nomark _))) (fun _ _ _ _ _ => (pv 7))))
       pss_nil)
      (pss_cons (ps_set (i := 3) sc_law_right.nd rfl (Or.inl rfl) (C8.pe_mk (c_Net T) hr (by decide) rfl (pa_cons (pv 1) (pa_cons (pv 2) pa_nil))))
      (pss_cons (ps_for PassesOwn.never rfl (pi_range1 rfl T.b_range (pa_cons pe_int pa_nil)) (pg_name (i := 4) sc_law_right.nd rfl (Or.inl rfl))
       (pss_cons (ps_set (i := 5) sc_law_right.nd rfl (Or.inl rfl) (C8.pe_c (c_law_content T) hr (by decide) rfl (pa_cons (pv 0) (pa_cons (pv 1) pa_nil))))
        (pss_cons (ps_if (PW.pt (pw_or (pt_not (pt_val (pe_cQ (c_law_told_right T) hr (by decide) hA rfl (pa_cons (pv 0) (pa_cons (pv 3) (pa_cons (pv 2) (pa_cons (pv 5) pa_nil))))))) (pw_or1 (pt_not (pt_val (pe_cQ (c_law_behind_right T) hr (by decide) hA rfl (pa_cons (pv 0) (pa_cons (pv 3) (pa_cons (pv 1) (pa_cons (pv 5) pa_nil))))))))))
         (pss_one (ps_ret pe_bl))
         pss_nil)
        (pss_one (ps_if (pt_not (pt_val (pe_cQ (c_law_turned_right T) hr (by decide) hA rfl (pa_cons (pv 0) (pa_cons (pv 3) (pa_cons (pv 1) (pa_cons (pv 5) pa_nil)))))))
         (pss_one (ps_ret pe_bl))
         pss_nil)))))
      (pss_cons (ps_set (i := 6) sc_law_right.nd rfl (Or.inl rfl) (C8.pe_mk (c_Net T) hr (by decide) rfl (pa_cons pe_int (pa_cons (pe_lst (pa_cons (pe_tup (pa_cons pe_str (pa_cons pe_int (pa_cons pe_int pa_nil)))) (pa_cons (pe_tup (pa_cons pe_str (pa_cons pe_int (pa_cons pe_int pa_nil)))) (pa_cons (pe_tup (pa_cons pe_str (pa_cons pe_int (pa_cons pe_int pa_nil)))) (pa_cons (pe_tup (pa_cons pe_str (pa_cons pe_int (pa_cons pe_int pa_nil)))) (pa_cons (pe_tup (pa_cons pe_str (pa_cons pe_int (pa_cons pe_int pa_nil)))) pa_nil)))))) pa_nil))))
      (pss_cons (ps_if (pt_cmpR (op_neD hr.units) (C8.pe_c (c_origins T) hr (by decide) rfl (pa_cons (C8.pe_mk (c_Net T) hr (by decide) rfl (pa_cons pe_int (pa_cons (pe_op op_rep (pe_lst (pa_cons (pe_tup (pa_cons pe_str (pa_cons pe_int (pa_cons pe_int pa_nil)))) pa_nil)) pe_int) pa_nil))) (pa_cons (pe_lst (pa_cons pe_int pa_nil)) pa_nil))) (pe_lst (pa_cons (pe_tup (pa_cons pe_int (pa_cons pe_int pa_nil))) pa_nil)) (nomark _))
       (pss_one (ps_ret pe_bl))
       pss_nil)
      (pss_one (ps_ret (pe_and (pe_cmpR (op_eqD hr.units) (C8.pe_c (c_origins T) hr (by decide) rfl (pa_cons (pv 6) (pa_cons (pe_lst (pa_cons pe_int (pa_cons pe_int pa_nil))) pa_nil))) (pe_lst (pa_cons (pe_tup (pa_cons pe_int (pa_cons pe_int pa_nil))) (pa_cons (pe_tup (pa_cons pe_int (pa_cons pe_int pa_nil))) pa_nil))) (nomark _)) (pe_one (pe_cmpR (op_eqG (rcG_ins eF eS eI eB pass0) (hr.mono (by decide))) (pv 3) (C8.pe_mk (c_Net T) hr (by decide) rfl (pa_cons (pv 1) (pa_cons (pv 2) pa_nil))) (nomark _))))))))))))), ?_⟩
    refine ⟨_, rfl, del H a, a, 5, rfl, W0, by decide, by decide, fun H1 d W1 d0 d1 => ?_⟩
    refine ⟨_, _, rfl, rfl, ?_⟩
    obtain ⟨n, e, c1, c2⟩ : ∃ n : Nat, (1 + d : Int) = n ∧ 1 ≤ n ∧ n ≤ 12 := ⟨(1 + d).toNat, by omega, by omega, by omega⟩
    have e' : (fun i j : Int => V.int (i + j)) 1 d = V.int (n : Int) := congrArg V.int e
    rw [e']
    refine ⟨_, rfl, _, rfl, del H a, a, n, 20, rfl, W1, c1, c2, by decide, fun G2 H2 l gs s2 W2 hg hm hl hG => ?_⟩
    refine ⟨_, rfl, G2, a, 4, rfl, W2, by decide, by decide, fun H3 d3 W3 d30 d31 => ⟨rfl, _, rfl, ?_⟩⟩
    obtain ⟨xs, hS, hA2⟩ := id hG
    have okP : ∀ g ∈ plains gs, g.ok n := fun g hg' => hg g (List.mem_filter.mp hg').1
    have mildP : ∀ g ∈ plains gs, g.mild = true := fun g hg' => hm g (List.mem_filter.mp hg').1
    have lenP : (plains gs).length ≤ 20 := Nat.le_trans (List.length_filter_le _ _) hl
    refine ite2 (fun _ => ?_) (fun _ => ?_)
    · have hS3 := W3.same.seq hS
      have hA3 : All2 (IsG K H3) xs gs := hA2.mono fun _ _ z => z.to W3.same
      refine ⟨_, rfl, l, rfl, ⟨_, hS3⟩, fun D hD => lc_it (walk_list (K := K) (a := l) (xs := xs)) (fun i H' => Same H3 H' ∧ ∃ ys, H' D = some (.lst ys) ∧ All2 (IsG K H3) ys (plains (gs.take i))) ⟨Same.new hD, [], upd_same, by rw [List.take_zero]; exact All2.nil⟩ (fun i H' _ z => z.1.seq hS3) (fun i v H4 H5 hi z y => ?_) (fun H4 z => ?_)⟩
      · obtain ⟨s4, ys, hys, hY⟩ := z
        obtain ⟨rfl, hv⟩ := y
        obtain ⟨g, hg1, t, rfl, ht⟩ := hA3.get hv
        refine ⟨rfl, _, rfl, t, _, 0, _, rfl, rfl, s4.seqT ht, atI_nat (j := 0) (vals_word g), rfl, _, rfl, ?_⟩
        rw [word_add]
        have step := plains_next hg1
        refine ite2 (fun c => ?_) (fun c => ?_)
        · have ga : g.isAdd = false := by simpa using c
          refine ⟨_, rfl, ys, hys, size100 ?_, s4.mut hD, _, upd_same, ?_⟩
          · rw [hY.1]
            have : (plains (gs.take i)).length ≤ (gs.take i).length := List.length_filter_le _ _
            rw [List.length_take] at this
            omega
          · rw [step, ga]
            exact hY.snoc ⟨t, rfl, ht⟩
        · have ga : g.isAdd = true := by simpa using c
          refine ⟨s4, ys, hys, ?_⟩
          rw [step, ga, if_pos rfl, List.append_nil]
          exact hY
      obtain ⟨s4, ys, hys, hY⟩ := z
      rw [hA2.1, List.take_length] at hY
      have W4 := W3.pure s4
      have GS4 : Gs K H4 D (plains gs) := ⟨ys, SqL.of hys, hY.mono fun _ _ z => z.to s4⟩
      have GSd : ∀ H5, Same H4 H5 → Wd a G2 H5 → Gs K (del H5 a) D (plains gs) := fun H5 s5 W5 => let ⟨q1, q2⟩ := gs_pot W5.pot (s5 _ _ hys) (hY.mono fun _ _ z => (z.to s4).to s5); ⟨ys, SqL.of q1, q2⟩
      have ok4 := okP
      have mild4 := mildP
      have len4 := lenP
      have few4 : (plains gs).length ≤ 400 := by omega
      generalize plains gs = gs4 at GS4 GSd ok4 mild4 len4 few4
      generalize D = D4 at GS4 GSd ⊢
      refine ⟨_, rfl, _, rfl, fun x dx hx1 hdx ne => ?_⟩
      refine ⟨_, x, dx, D4, n, gs4, rfl, (Same.new hdx).trans (Same.new (by rw [upd_ne ne.symm]; exact hx1)), hx1, upd_same, GS4, c1, c2, ok4, few4, fun H5 s5 N5 => ⟨rfl, ?_⟩⟩
      have W5 := W4.pure s5
      have U := s2.trans W5.under
      have N6 := net_pot W5.pot N5
      have GS6 := GSd H5 s5 W5
      have W6 := Wd.all W5.pot
      generalize del H5 a = G6 at U N6 GS6 W6
      refine ⟨3, rfl, by decide, by decide, for_it (n := 3) (walk_range (lo := 0)) (fun i σ H' => ∃ v1 v2, Wd a G6 H' ∧ σ = [some (.ref a), some (.int n), some (.ref D4), some (.ref x), v1, v2, none, none]) ⟨none, none, W6, rfl⟩ (fun _ _ _ _ _ => trivial) (fun i v σ H7 H8 hi z y => ?_) (fun σ H7 z => ?_)⟩
      · obtain ⟨v1, v2, W7, rfl⟩ := z
        obtain ⟨rfl, rfl⟩ := y
        refine ⟨_, rfl, _, rfl, G6, a, n, rfl, W7, c2, fun G8 H8 b8 ns S8 W8 hn hb hc8 => ?_⟩
        refine ⟨_, rfl, _, rfl, _, rfl, _, rfl, G8, a, x, D4, b8, n, gs4, ns, rfl, W8, N6.to S8, GS6.to S8, hc8, hn, few4, mild4, fun H9 W9 => ⟨true, rfl, iteF ?_⟩⟩
        refine ⟨_, rfl, _, rfl, _, rfl, _, rfl, G8, a, x, b8, n, gs4, ns, rfl, W9, N6.to S8, hc8, hn, by omega, mild4, fun H10 W10 => ⟨true, rfl, iteF ?_⟩⟩
        refine ⟨_, rfl, _, rfl, _, rfl, _, rfl, G8, a, x, b8, n, gs4, ns, rfl, W10, N6.to S8, hc8, hn, few4, mild4, fun H11 W11 => ⟨true, rfl, iteF ?_⟩⟩
        exact ⟨_, _, W11.back S8, rfl⟩
      obtain ⟨v1, v2, W7, rfl⟩ := z
      refine ⟨by show 3 ≤ sizeLine; decide, fun t1 ht1 => ⟨by show 3 ≤ sizeLine; decide, fun t2 ht2 => ⟨by show 3 ≤ sizeLine; decide, fun t3 ht3 => ⟨by show 3 ≤ sizeLine; decide, fun t4 ht4 => ⟨by show 3 ≤ sizeLine; decide, fun t5 ht5 => ⟨by show 5 ≤ sizeLine; decide, fun b1 hb1 => fun xk dk hxk hdk nk => ?_⟩⟩⟩⟩⟩⟩
      have m1 := Same.new (o := .tup [.str "low", .int 0, .int 1]) ht1
      have m2 := Same.new (o := .tup [.str "high", .int 0, .int 1]) ht2
      have m3 := Same.new (o := .tup [.str "sort", .int 0, .int 1]) ht3
      have m4 := Same.new (o := .tup [.str "add", .int 1, .int 2]) ht4
      have m5 := Same.new (o := .tup [.str "copy", .int 0, .int 1]) ht5
      have m6 := Same.new (o := .lst [.ref t1, .ref t2, .ref t3, .ref t4, .ref t5]) hb1
      refine ⟨_, xk, dk, b1, 2, knownG, rfl, (Same.new hdk).trans (Same.new (by rw [upd_ne nk.symm]; exact hxk)), hxk, upd_same, ⟨[.ref t1, .ref t2, .ref t3, .ref t4, .ref t5], SqL.of upd_same, (((((All2.nil (R := IsG K _)).snoc ⟨t1, rfl, SqT.of (m6 _ _ (m5 _ _ (m4 _ _ (m3 _ _ (m2 _ _ upd_same)))))⟩).snoc ⟨t2, rfl, SqT.of (m6 _ _ (m5 _ _ (m4 _ _ (m3 _ _ upd_same))))⟩).snoc ⟨t3, rfl, SqT.of (m6 _ _ (m5 _ _ (m4 _ _ upd_same)))⟩).snoc ⟨t4, rfl, SqT.of (m6 _ _ (m5 _ _ upd_same))⟩).snoc ⟨t5, rfl, SqT.of (m6 _ _ upd_same)⟩⟩, by decide, by decide, known_ok, by decide, fun H13 s13 N13 => ⟨rfl, ?_⟩⟩
      have W13 := W7.pure ((((((m1.trans m2).trans m3).trans m4).trans m5).trans m6).trans s13)
      refine ⟨by show 3 ≤ sizeLine; decide, fun t6 ht6 => ⟨by show 1 ≤ sizeLine; decide, fun b2 hb2 => ?_⟩⟩
      have p1 := Same.new (o := .tup [.str "add", .int 0, .int 1]) ht6
      have p2 := Same.new (o := .lst [.ref t6]) hb2
      have ef : (List.replicate (400 : Int).toNat [V.ref t6]).flatten = List.replicate 400 (V.ref t6) := List.flatten_replicate_singleton
      refine ⟨b2, 400, _, rfl, rfl, upd_same, by decide, by decide, by show 1 * 400 ≤ sizeLine; decide +kernel, fun b3 hb3 => fun xm dm hxm hdm nm => ?_⟩
      have p3 := Same.new (o := .lst (List.replicate (400 : Int).toNat [V.ref t6]).flatten) hb3
      refine ⟨_, xm, dm, b3, 1, longG, rfl, (Same.new hdm).trans (Same.new (by rw [upd_ne nm.symm]; exact hxm)), hxm, upd_same, ⟨List.replicate 400 (V.ref t6), SqL.of (by rw [upd_same, ef]), all2_rep ⟨t6, rfl, SqT.of (p3 _ _ (p2 _ _ upd_same))⟩ 400⟩, by decide, by decide, long_ok, by decide +kernel, fun H14 s14 N14 => ⟨rfl, ?_⟩⟩
      have S14 := ((p1.trans p2).trans p3).trans s14
      refine ⟨by show 1 ≤ sizeLine; decide, fun b4 hb4 => ?_⟩
      have p4 := Same.new (o := .lst [.int 5]) hb4
      refine ⟨xm, b4, 1, longG, [5], rfl, N14.to p4, ⟨.inl (SqL.of upd_same), by decide, by decide⟩, rfl, fun H15 r15 x15 s15 r150 h15 A15 => ?_⟩
      refine ⟨by show 2 ≤ sizeLine; decide, fun t7 ht7 => ⟨by show 1 ≤ sizeLine; decide, fun b5 hb5 => ?_⟩⟩
      have p5 := Same.new (o := .tup [.int 0, .int 400]) ht7
      have p6 := Same.new (o := .lst [.ref t7]) hb5
      refine ⟨_, ogsPy [(0, 400)], ogs_dp (SqL.of ((p5.trans p6) _ _ h15)) (A15.mono fun _ _ z => z.to (p5.trans p6)), .lst (SqL.of upd_same) (.cons (og_dp (o := (0, 400)) ⟨t7, rfl, SqT.of (p6 _ _ upd_same)⟩) .nil), ogs_shaped _, ogs_shaped _, _, rfl, itF (by rw [ogs_same long_org]; rfl) ?_⟩
      have S16 := S14.trans (p4.trans (s15.trans (p5.trans p6)))
      have W16 := W13.pure S16
      have N16 := N13.to S16
      refine ⟨_, rfl, by show 2 ≤ sizeLine; decide, fun b6 hb6 => ?_⟩
      have p7 := Same.new (o := .lst [.int 3, .int 3]) hb6
      refine ⟨xk, b6, 2, knownG, [3, 3], rfl, N16.to p7, ⟨.inl (SqL.of upd_same), by decide, by decide⟩, rfl, fun H17 r17 x17 s17 r170 h17 A17 => ?_⟩
      refine ⟨by show 2 ≤ sizeLine; decide, fun t8 ht8 => ⟨by show 2 ≤ sizeLine; decide, fun t9 ht9 => ⟨by show 2 ≤ sizeLine; decide, fun b7 hb7 => ?_⟩⟩⟩
      have p8 := Same.new (o := .tup [.int 1, .int 2]) ht8
      have p9 := Same.new (o := .tup [.int 1, .int 2]) ht9
      have p10 := Same.new (o := .lst [.ref t8, .ref t9]) hb7
      have S18 := (p8.trans p9).trans p10
      refine ⟨_, ogsPy [(1, 2), (1, 2)], ogs_dp (SqL.of (S18 _ _ h17)) (A17.mono fun _ _ z => z.to S18), .lst (SqL.of upd_same) (.cons (og_dp (o := (1, 2)) ⟨t8, rfl, SqT.of (p10 _ _ (p9 _ _ upd_same))⟩) (.cons (og_dp (o := (1, 2)) ⟨t9, rfl, SqT.of (p10 _ _ upd_same)⟩) .nil)), ogs_shaped _, ogs_shaped _, _, rfl, itT (ogs_same known_org) ?_⟩
      have W25 := W16.pure (p7.trans (s17.trans S18))
      refine ⟨_, rfl, _, rfl, _, rfl, fun x7 dx7 hx7 hdx7 ne7 => ?_⟩
      refine ⟨_, x7, dx7, D4, n, gs4, rfl, (Same.new hdx7).trans (Same.new (by rw [upd_ne ne7.symm]; exact hx7)), hx7, upd_same, GS6.to W25.same, c1, c2, ok4, few4, fun H26 s26 N26 => ⟨rfl, ?_⟩⟩
      have N27 := (N6.to W25.same).to s26
      obtain ⟨da, la, ha, _⟩ := id N27.old
      obtain ⟨db, lb, hb', _⟩ := id N26.old
      refine ⟨⟨x, x7, da, db, _, _, rfl, rfl, ha, hb', n, gs4, N27, N26⟩, fun H28 s28 => k _ ?_⟩
      exact U.trans (W25.same.trans (s26.trans s28))
    · have W4 := W3
      have GS4 := hG.to W3.same
      have GSd : ∀ H5, Same H3 H5 → Wd a G2 H5 → Gs K (del H5 a) l gs := fun H5 _ W5 => hG.to W5.under
      have few4 : gs.length ≤ 400 := by omega
      have ok4 := hg
      have mild4 := hm
      have len4 := hl
      generalize gs = gs4 at GS4 GSd ok4 mild4 len4 few4
      generalize l = D4 at GS4 GSd ⊢
      refine ⟨_, rfl, _, rfl, fun x dx hx1 hdx ne => ?_⟩
      refine ⟨_, x, dx, D4, n, gs4, rfl, (Same.new hdx).trans (Same.new (by rw [upd_ne ne.symm]; exact hx1)), hx1, upd_same, GS4, c1, c2, ok4, few4, fun H5 s5 N5 => ⟨rfl, ?_⟩⟩
      have W5 := W4.pure s5
      have U := s2.trans W5.under
      have N6 := net_pot W5.pot N5
      have GS6 := GSd H5 s5 W5
      have W6 := Wd.all W5.pot
      generalize del H5 a = G6 at U N6 GS6 W6
      refine ⟨3, rfl, by decide, by decide, for_it (n := 3) (walk_range (lo := 0)) (fun i σ H' => ∃ v1 v2, Wd a G6 H' ∧ σ = [some (.ref a), some (.int n), some (.ref D4), some (.ref x), v1, v2, none, none]) ⟨none, none, W6, rfl⟩ (fun _ _ _ _ _ => trivial) (fun i v σ H7 H8 hi z y => ?_) (fun σ H7 z => ?_)⟩
      · obtain ⟨v1, v2, W7, rfl⟩ := z
        obtain ⟨rfl, rfl⟩ := y
        refine ⟨_, rfl, _, rfl, G6, a, n, rfl, W7, c2, fun G8 H8 b8 ns S8 W8 hn hb hc8 => ?_⟩
        refine ⟨_, rfl, _, rfl, _, rfl, _, rfl, G8, a, x, D4, b8, n, gs4, ns, rfl, W8, N6.to S8, GS6.to S8, hc8, hn, few4, mild4, fun H9 W9 => ⟨true, rfl, iteF ?_⟩⟩
        refine ⟨_, rfl, _, rfl, _, rfl, _, rfl, G8, a, x, b8, n, gs4, ns, rfl, W9, N6.to S8, hc8, hn, by omega, mild4, fun H10 W10 => ⟨true, rfl, iteF ?_⟩⟩
        refine ⟨_, rfl, _, rfl, _, rfl, _, rfl, G8, a, x, b8, n, gs4, ns, rfl, W10, N6.to S8, hc8, hn, few4, mild4, fun H11 W11 => ⟨true, rfl, iteF ?_⟩⟩
        exact ⟨_, _, W11.back S8, rfl⟩
      obtain ⟨v1, v2, W7, rfl⟩ := z
      refine ⟨by show 3 ≤ sizeLine; decide, fun t1 ht1 => ⟨by show 3 ≤ sizeLine; decide, fun t2 ht2 => ⟨by show 3 ≤ sizeLine; decide, fun t3 ht3 => ⟨by show 3 ≤ sizeLine; decide, fun t4 ht4 => ⟨by show 3 ≤ sizeLine; decide, fun t5 ht5 => ⟨by show 5 ≤ sizeLine; decide, fun b1 hb1 => fun xk dk hxk hdk nk => ?_⟩⟩⟩⟩⟩⟩
      have m1 := Same.new (o := .tup [.str "low", .int 0, .int 1]) ht1
      have m2 := Same.new (o := .tup [.str "high", .int 0, .int 1]) ht2
      have m3 := Same.new (o := .tup [.str "sort", .int 0, .int 1]) ht3
      have m4 := Same.new (o := .tup [.str "add", .int 1, .int 2]) ht4
      have m5 := Same.new (o := .tup [.str "copy", .int 0, .int 1]) ht5
      have m6 := Same.new (o := .lst [.ref t1, .ref t2, .ref t3, .ref t4, .ref t5]) hb1
      refine ⟨_, xk, dk, b1, 2, knownG, rfl, (Same.new hdk).trans (Same.new (by rw [upd_ne nk.symm]; exact hxk)), hxk, upd_same, ⟨[.ref t1, .ref t2, .ref t3, .ref t4, .ref t5], SqL.of upd_same, (((((All2.nil (R := IsG K _)).snoc ⟨t1, rfl, SqT.of (m6 _ _ (m5 _ _ (m4 _ _ (m3 _ _ (m2 _ _ upd_same)))))⟩).snoc ⟨t2, rfl, SqT.of (m6 _ _ (m5 _ _ (m4 _ _ (m3 _ _ upd_same))))⟩).snoc ⟨t3, rfl, SqT.of (m6 _ _ (m5 _ _ (m4 _ _ upd_same)))⟩).snoc ⟨t4, rfl, SqT.of (m6 _ _ (m5 _ _ upd_same))⟩).snoc ⟨t5, rfl, SqT.of (m6 _ _ upd_same)⟩⟩, by decide, by decide, known_ok, by decide, fun H13 s13 N13 => ⟨rfl, ?_⟩⟩
      have W13 := W7.pure ((((((m1.trans m2).trans m3).trans m4).trans m5).trans m6).trans s13)
      refine ⟨by show 3 ≤ sizeLine; decide, fun t6 ht6 => ⟨by show 1 ≤ sizeLine; decide, fun b2 hb2 => ?_⟩⟩
      have p1 := Same.new (o := .tup [.str "add", .int 0, .int 1]) ht6
      have p2 := Same.new (o := .lst [.ref t6]) hb2
      have ef : (List.replicate (400 : Int).toNat [V.ref t6]).flatten = List.replicate 400 (V.ref t6) := List.flatten_replicate_singleton
      refine ⟨b2, 400, _, rfl, rfl, upd_same, by decide, by decide, by show 1 * 400 ≤ sizeLine; decide +kernel, fun b3 hb3 => fun xm dm hxm hdm nm => ?_⟩
      have p3 := Same.new (o := .lst (List.replicate (400 : Int).toNat [V.ref t6]).flatten) hb3
      refine ⟨_, xm, dm, b3, 1, longG, rfl, (Same.new hdm).trans (Same.new (by rw [upd_ne nm.symm]; exact hxm)), hxm, upd_same, ⟨List.replicate 400 (V.ref t6), SqL.of (by rw [upd_same, ef]), all2_rep ⟨t6, rfl, SqT.of (p3 _ _ (p2 _ _ upd_same))⟩ 400⟩, by decide, by decide, long_ok, by decide +kernel, fun H14 s14 N14 => ⟨rfl, ?_⟩⟩
      have S14 := ((p1.trans p2).trans p3).trans s14
      refine ⟨by show 1 ≤ sizeLine; decide, fun b4 hb4 => ?_⟩
      have p4 := Same.new (o := .lst [.int 5]) hb4
      refine ⟨xm, b4, 1, longG, [5], rfl, N14.to p4, ⟨.inl (SqL.of upd_same), by decide, by decide⟩, rfl, fun H15 r15 x15 s15 r150 h15 A15 => ?_⟩
      refine ⟨by show 2 ≤ sizeLine; decide, fun t7 ht7 => ⟨by show 1 ≤ sizeLine; decide, fun b5 hb5 => ?_⟩⟩
      have p5 := Same.new (o := .tup [.int 0, .int 400]) ht7
      have p6 := Same.new (o := .lst [.ref t7]) hb5
      refine ⟨_, ogsPy [(0, 400)], ogs_dp (SqL.of ((p5.trans p6) _ _ h15)) (A15.mono fun _ _ z => z.to (p5.trans p6)), .lst (SqL.of upd_same) (.cons (og_dp (o := (0, 400)) ⟨t7, rfl, SqT.of (p6 _ _ upd_same)⟩) .nil), ogs_shaped _, ogs_shaped _, _, rfl, itF (by rw [ogs_same long_org]; rfl) ?_⟩
      have S16 := S14.trans (p4.trans (s15.trans (p5.trans p6)))
      have W16 := W13.pure S16
      have N16 := N13.to S16
      refine ⟨_, rfl, by show 2 ≤ sizeLine; decide, fun b6 hb6 => ?_⟩
      have p7 := Same.new (o := .lst [.int 3, .int 3]) hb6
      refine ⟨xk, b6, 2, knownG, [3, 3], rfl, N16.to p7, ⟨.inl (SqL.of upd_same), by decide, by decide⟩, rfl, fun H17 r17 x17 s17 r170 h17 A17 => ?_⟩
      refine ⟨by show 2 ≤ sizeLine; decide, fun t8 ht8 => ⟨by show 2 ≤ sizeLine; decide, fun t9 ht9 => ⟨by show 2 ≤ sizeLine; decide, fun b7 hb7 => ?_⟩⟩⟩
      have p8 := Same.new (o := .tup [.int 1, .int 2]) ht8
      have p9 := Same.new (o := .tup [.int 1, .int 2]) ht9
      have p10 := Same.new (o := .lst [.ref t8, .ref t9]) hb7
      have S18 := (p8.trans p9).trans p10
      refine ⟨_, ogsPy [(1, 2), (1, 2)], ogs_dp (SqL.of (S18 _ _ h17)) (A17.mono fun _ _ z => z.to S18), .lst (SqL.of upd_same) (.cons (og_dp (o := (1, 2)) ⟨t8, rfl, SqT.of (p10 _ _ (p9 _ _ upd_same))⟩) (.cons (og_dp (o := (1, 2)) ⟨t9, rfl, SqT.of (p10 _ _ upd_same)⟩) .nil)), ogs_shaped _, ogs_shaped _, _, rfl, itT (ogs_same known_org) ?_⟩
      have W25 := W16.pure (p7.trans (s17.trans S18))
      refine ⟨_, rfl, _, rfl, _, rfl, fun x7 dx7 hx7 hdx7 ne7 => ?_⟩
      refine ⟨_, x7, dx7, D4, n, gs4, rfl, (Same.new hdx7).trans (Same.new (by rw [upd_ne ne7.symm]; exact hx7)), hx7, upd_same, GS6.to W25.same, c1, c2, ok4, few4, fun H26 s26 N26 => ⟨rfl, ?_⟩⟩
      have N27 := (N6.to W25.same).to s26
      obtain ⟨da, la, ha, _⟩ := id N27.old
      obtain ⟨db, lb, hb', _⟩ := id N26.old
      refine ⟨⟨x, x7, da, db, _, _, rfl, rfl, ha, hb', n, gs4, N27, N26⟩, fun H28 s28 => k _ ?_⟩
      exact U.trans (W25.same.trans (s26.trans s28))
end
end LL

namespace LL
open PySem L2 PySem.Spec PyProof.Rows
section
variable {P : Program} {w : World} {K : PySem.W.Frag} {mg : Str → Option Value} {base : Heap} {C : Addr}
def sp_law (K : PySem.W.Frag) : Sp := fun vs H Q _ => ∃ (s : Addr) (is : List Int), vs = [V.ref s] ∧ SqL K H s (is.map V.int) ∧ is.length ≤ 63 ∧ ∀ H', Q (.bl true) H'
theorem ok_law (T : Txt K mg C) {f : Addr} {fd : FuncData} (F : C8.Fun K "law" "law" s_law f fd) : FnQ NoG P w K mg base 12 f fd ["_law_script"] (sp_law K) := by
  refine fnQ0 noG_deep F sc_law (fun vs H Q E h => ?_) (fun cdv A outer s H vs Q E hr hA h => ?_)
  · obtain ⟨s, is, rfl, _⟩ := h
    rfl
  · obtain ⟨sc, is, rfl, hs, hl, k⟩ := h
    refine ⟨_, (pss_one (ps_ret (pe_callB (cr_all rfl) (by rfl) T.b_all (by decide +kernel) (pa_cons (pe_lc (own := [("_law_k", 1)]) (g := (gName 1)) (tt := tYes) rfl sc_law.nd (pi_range1 rfl T.b_range (pa_cons (pe_callB (call_max2 rfl) (by rfl) T.b_max (by decide +kernel) (pa_cons pe_int (pa_cons (pe_callB (call_min2 rfl) (by rfl) T.b_min (by decide +kernel) (pa_cons pe_int (pa_cons (pe_callB call_len_seq (by rfl) T.b_len (by decide +kernel) (pa_cons (pv 0) pa_nil)) pa_nil))) pa_nil))) pa_nil)) (blkOk_by (N := N_law) (sc := C8.fnScope s_law) (by decide +kernel)) (fun _ _ _ _ _ => (pg_name (i := 1) sc_law.nd rfl (Or.inl rfl))) (fun _ _ _ _ _ => pts_nil) (fun _ _ _ _ _ => (pe_cQ (c_law_right T) hr (by decide) hA rfl (pa_cons (C8.pe_c (c_law_pot T) hr (by decide) rfl (pa_cons (pv 0) (pa_cons (pv 1) pa_nil))) pa_nil)))) pa_nil)))), ?_⟩
    have hl' : (is.map V.int).length = is.length := List.length_map ..
    refine ⟨_, rfl, sc, _, rfl, .inl hs, _, _, rfl, _, _, rfl, ?_⟩
    rw [hl']
    generalize hN : (if (if (is.length : Int) < 3 then (is.length : Int) else 3) > 1 then (if (is.length : Int) < 3 then (is.length : Int) else 3) else 1) = N
    have hN3 : 1 ≤ N ∧ N ≤ 3 := by
      rw [← hN]
      split <;> split <;> omega
    refine ⟨N, rfl, by omega, by omega, fun D hD => lc_pure (n := N.toNat) (walk_range (lo := 0)) ((List.replicate N.toNat true).map V.bl) (by rw [List.length_map, List.length_replicate]) hD (by omega) (fun _ _ => trivial) (fun i x H' H2 Q' hi s1 y q => ?_) (fun H' s1 hd => ?_)⟩
    · obtain ⟨rfl, rfl⟩ := y
      refine ⟨rfl, _, rfl, _, rfl, sc, is, i, (by show [V.ref sc, V.int (0 + (i : Int))] = _; rw [Int.zero_add]), s1.seq hs, by omega, fun H3 a s3 ha hp => ?_⟩
      refine ⟨a, rfl, hp, fun H4 s4 => q _ _ ?_ ((same_del s3 ha).trans s4)⟩
      rw [List.getElem?_map, List.getElem?_replicate, if_pos hi]
      rfl
    · refine ⟨D, _, rfl, SqL.of hd, ?_⟩
      exact q_bl (by simp) (k _)
end
end LL

namespace LL
open PySem L2 PySem.Spec PyProof.Rows
theorem funMk {K : PySem.W.Frag} {x qual : Str} {st : Stmt} {f : Addr} {oc : Value} {od an : Option Addr} {osl : Array (Option Value)} {dV kV doc pm cdv ct : Value} (l : K.lookup f = some ⟨oc, od, .func (PySem.W.fnOf x qual (C8.fnArgs st) (C8.fnBody st) (C8.fnScope st) dV kV doc pm an cdv ct), osl⟩)
    (c : PySem.W.codeIn K cdv qual = true) : C8.Fun K x qual st f (PySem.W.fnOf x qual (C8.fnArgs st) (C8.fnBody st) (C8.fnScope st) dV kV doc pm an cdv ct) := ⟨⟨oc, od, dV, kV, doc, pm, an, cdv, ct, osl, rfl, l, c⟩⟩
theorem kb2 {K : PySem.W.Frag} {x : Str} {st : Stmt} {f : Addr} {fd : FuncData} (F : C8.Fun K x x st f fd) (df : fd.defaults = .none)
    (h : ∀ (kV doc pm : Value) (an : Option Addr) (cdv ct : Value) (c n : Value), bindArgs (PySem.W.fnOf x x (C8.fnArgs st) (C8.fnBody st) (C8.fnScope st) .none kV doc pm an cdv ct) ⟨[], [(("content" : Str), c), (("net" : Str), n)]⟩ = pure [(("net" : Str), n), (("content" : Str), c)]) :
    KBinds K fd ["net", "content"] ["content", "net"] rot2 rot2 := by
  obtain ⟨oc, od, dV, kV, doc, pm, an, cdv, ct, osl, rfl, lk, hc⟩ := F.ex
  have e : dV = .none := df
  subst e
  refine ⟨fun s us ws KI hl => ?_, fun {vs us zs ws} r rz => ?_⟩
  · match us, ws, hl with
    | [], [c, n], _ => exact .of_eq (h kV doc pm an cdv ct c n)
    | [], [], hl => exact absurd (show (0 : Nat) = 2 from hl) (by decide)
    | [], [_], hl => exact absurd (show (0 : Nat) = 2 from hl) (by decide)
    | [], _ :: _ :: _ :: _, hl => exact absurd (show (0 : Nat) = 2 from hl) (by decide)
    | _ :: _, _, hl => exact absurd (show (0 : Nat) = 2 from hl) (by decide)
  · match vs, us, r, zs, ws, rz with
    | [], [], _, [], [], _ => exact .nil
    | [], [], _, [_], [_], _ => exact .nil
    | [], [], _, [_, _], [_, _], .cons r1 (.cons r2 .nil) => exact .cons r2 (.cons r1 .nil)
    | [], [], _, _ :: _ :: _ :: _, _ :: _ :: _ :: _, _ => exact .nil
    | _ :: _, _ :: _, _, _, _, _ => exact .nil
theorem all_mk {l : PySem.W.OpenLaw} {w : World} {K : PySem.W.Frag} {h : Heap} {mg : Str → Option Value} {fa : Addr} (X : K.In h) (G : h.Ns mainGlobals mg) (hfa : mg "law" = some (.ref fa))
    {f1 : Addr} {od1 an1 : Option Addr} {sl1 : Array (Option Value)} {oc1 kV1 dc1 pm1 cd1 ct1 : Value}
    {f2 : Addr} {od2 an2 : Option Addr} {sl2 : Array (Option Value)} {oc2 kV2 dc2 pm2 cd2 ct2 : Value}
    {f3 : Addr} {od3 an3 : Option Addr} {sl3 : Array (Option Value)} {oc3 kV3 dc3 pm3 cd3 ct3 : Value}
    {f4 : Addr} {od4 an4 : Option Addr} {sl4 : Array (Option Value)} {oc4 kV4 dc4 pm4 cd4 ct4 : Value}
    {f5 : Addr} {od5 an5 : Option Addr} {sl5 : Array (Option Value)} {oc5 kV5 dc5 pm5 cd5 ct5 : Value}
    {f6 : Addr} {od6 an6 : Option Addr} {sl6 : Array (Option Value)} {oc6 kV6 dc6 pm6 cd6 ct6 : Value}
    {f7 : Addr} {od7 an7 : Option Addr} {sl7 : Array (Option Value)} {oc7 kV7 dc7 pm7 cd7 ct7 : Value}
    {f8 : Addr} {od8 an8 : Option Addr} {sl8 : Array (Option Value)} {oc8 kV8 dc8 pm8 cd8 ct8 : Value}
    {f9 : Addr} {od9 an9 : Option Addr} {sl9 : Array (Option Value)} {oc9 kV9 dc9 pm9 cd9 ct9 : Value}
    {f10 : Addr} {od10 an10 : Option Addr} {sl10 : Array (Option Value)} {oc10 kV10 dc10 pm10 cd10 ct10 : Value}
    {f11 : Addr} {od11 an11 : Option Addr} {sl11 : Array (Option Value)} {oc11 kV11 dc11 pm11 cd11 ct11 : Value}
    {f12 : Addr} {od12 an12 : Option Addr} {sl12 : Array (Option Value)} {oc12 kV12 dc12 pm12 cd12 ct12 : Value}
    {f13 : Addr} {od13 an13 : Option Addr} {sl13 : Array (Option Value)} {oc13 kV13 dc13 pm13 cd13 ct13 : Value}
    {f14 : Addr} {od14 an14 : Option Addr} {sl14 : Array (Option Value)} {oc14 kV14 dc14 pm14 cd14 ct14 : Value}
    {f15 : Addr} {od15 an15 : Option Addr} {sl15 : Array (Option Value)} {oc15 kV15 dc15 pm15 cd15 ct15 : Value}
    {f16 : Addr} {od16 an16 : Option Addr} {sl16 : Array (Option Value)} {oc16 kV16 dc16 pm16 cd16 ct16 : Value}
    {f17 : Addr} {od17 an17 : Option Addr} {sl17 : Array (Option Value)} {oc17 kV17 dc17 pm17 cd17 ct17 : Value}
    {f18 : Addr} {od18 an18 : Option Addr} {sl18 : Array (Option Value)} {oc18 kV18 dc18 pm18 cd18 ct18 : Value}
    {f19 : Addr} {od19 an19 : Option Addr} {sl19 : Array (Option Value)} {oc19 kV19 dc19 pm19 cd19 ct19 : Value}
    {f20 : Addr} {od20 an20 : Option Addr} {sl20 : Array (Option Value)} {oc20 kV20 dc20 pm20 cd20 ct20 : Value}
    {f21 : Addr} {od21 an21 : Option Addr} {sl21 : Array (Option Value)} {oc21 kV21 dc21 pm21 cd21 ct21 : Value}
    {f22 : Addr} {od22 an22 : Option Addr} {sl22 : Array (Option Value)} {oc22 kV22 dc22 pm22 cd22 ct22 : Value}
    {f23 : Addr} {od23 an23 : Option Addr} {sl23 : Array (Option Value)} {oc23 kV23 dc23 pm23 cd23 ct23 : Value}
    {f24 : Addr} {od24 an24 : Option Addr} {sl24 : Array (Option Value)} {oc24 kV24 dc24 pm24 cd24 ct24 : Value}
    {f25 : Addr} {od25 an25 : Option Addr} {sl25 : Array (Option Value)} {oc25 kV25 dc25 pm25 cd25 ct25 : Value}
    {f26 : Addr} {od26 an26 : Option Addr} {sl26 : Array (Option Value)} {oc26 kV26 dc26 pm26 cd26 ct26 : Value}
    {f27 : Addr} {od27 an27 : Option Addr} {sl27 : Array (Option Value)} {oc27 kV27 dc27 pm27 cd27 ct27 : Value}
    {f28 : Addr} {od28 an28 : Option Addr} {sl28 : Array (Option Value)} {oc28 kV28 dc28 pm28 cd28 ct28 : Value}
    {f29 : Addr} {od29 an29 : Option Addr} {sl29 : Array (Option Value)} {oc29 kV29 dc29 pm29 cd29 ct29 : Value}
    {f30 : Addr} {od30 an30 : Option Addr} {sl30 : Array (Option Value)} {oc30 kV30 dc30 pm30 cd30 ct30 : Value}
    {f31 : Addr} {od31 an31 : Option Addr} {sl31 : Array (Option Value)} {oc31 kV31 dc31 pm31 cd31 ct31 : Value}
    {f32 : Addr} {od32 an32 : Option Addr} {sl32 : Array (Option Value)} {oc32 kV32 dc32 pm32 cd32 ct32 : Value}
    {f33 : Addr} {od33 an33 : Option Addr} {sl33 : Array (Option Value)} {oc33 kV33 dc33 pm33 cd33 ct33 : Value}
    {f34 : Addr} {od34 an34 : Option Addr} {sl34 : Array (Option Value)} {oc34 kV34 dc34 pm34 cd34 ct34 : Value}
    {f35 : Addr} {od35 an35 : Option Addr} {sl35 : Array (Option Value)} {oc35 kV35 dc35 pm35 cd35 ct35 : Value}
    {f36 : Addr} {od36 an36 : Option Addr} {sl36 : Array (Option Value)} {oc36 kV36 dc36 pm36 cd36 ct36 : Value}
    {f37 : Addr} {od37 an37 : Option Addr} {sl37 : Array (Option Value)} {oc37 kV37 dc37 pm37 cd37 ct37 : Value}
    {f38 : Addr} {od38 an38 : Option Addr} {sl38 : Array (Option Value)} {oc38 kV38 dc38 pm38 cd38 ct38 : Value}
    {f39 : Addr} {od39 an39 : Option Addr} {sl39 : Array (Option Value)} {oc39 kV39 dc39 pm39 cd39 ct39 : Value}
    {f40 : Addr} {od40 an40 : Option Addr} {sl40 : Array (Option Value)} {oc40 kV40 dc40 pm40 cd40 ct40 : Value}
    {f41 : Addr} {od41 an41 : Option Addr} {sl41 : Array (Option Value)} {oc41 kV41 dc41 pm41 cd41 ct41 : Value}
    {C : Addr}
    {tM : Tok}
    {tA : Tok}
    {aT : Addr} {dT : Option Addr} {nT : Nat} {sT : Array (Option Value)} {t1 t2 t3 t4 : Tok}
    {TD : Addr} {dO : Option Addr} {nD : Nat} {sD : Array (Option Value)} {oD : Value} {eD : Addr}
    {f42 : Addr} {od42 an42 : Option Addr} {sl42 : Array (Option Value)} {oc42 kV42 dc42 pm42 cd42 ct42 : Value}
    {f43 : Addr} {od43 an43 : Option Addr} {sl43 : Array (Option Value)} {oc43 kV43 dc43 pm43 cd43 ct43 : Value}
    {f44 : Addr} {od44 an44 : Option Addr} {sl44 : Array (Option Value)} {oc44 kV44 dc44 pm44 cd44 ct44 : Value}
    {f45 : Addr} {od45 an45 : Option Addr} {sl45 : Array (Option Value)} {oc45 kV45 dc45 pm45 cd45 ct45 : Value}
    {f46 : Addr} {od46 an46 : Option Addr} {sl46 : Array (Option Value)} {oc46 kV46 dc46 pm46 cd46 ct46 : Value}
    {f47 : Addr} {od47 an47 : Option Addr} {sl47 : Array (Option Value)} {oc47 kV47 dc47 pm47 cd47 ct47 : Value}
    {f48 : Addr} {od48 an48 : Option Addr} {sl48 : Array (Option Value)} {oc48 kV48 dc48 pm48 cd48 ct48 : Value}
    {p49 : Addr} {r49 : List Value}
    {f49 : Addr} {od49 an49 : Option Addr} {sl49 : Array (Option Value)} {oc49 kV49 dc49 pm49 cd49 ct49 : Value}
    {p50 : Addr} {r50 : List Value}
    {f50 : Addr} {od50 an50 : Option Addr} {sl50 : Array (Option Value)} {oc50 kV50 dc50 pm50 cd50 ct50 : Value}
    (z_abs : PySem.W.nsIn K mainGlobals "abs" = some none)
    (z_all : PySem.W.nsIn K mainGlobals "all" = some none)
    (z_bool : PySem.W.nsIn K mainGlobals "bool" = some none)
    (z_divmod : PySem.W.nsIn K mainGlobals "divmod" = some none)
    (z_enumerate : PySem.W.nsIn K mainGlobals "enumerate" = some none)
    (z_int : PySem.W.nsIn K mainGlobals "int" = some none)
    (z_isinstance : PySem.W.nsIn K mainGlobals "isinstance" = some none)
    (z_len : PySem.W.nsIn K mainGlobals "len" = some none)
    (z_list : PySem.W.nsIn K mainGlobals "list" = some none)
    (z_max : PySem.W.nsIn K mainGlobals "max" = some none)
    (z_min : PySem.W.nsIn K mainGlobals "min" = some none)
    (z_range : PySem.W.nsIn K mainGlobals "range" = some none)
    (z_repr : PySem.W.nsIn K mainGlobals "repr" = some none)
    (z_sorted : PySem.W.nsIn K mainGlobals "sorted" = some none)
    (z_str : PySem.W.nsIn K mainGlobals "str" = some none)
    (z_tuple : PySem.W.nsIn K mainGlobals "tuple" = some none)
    (z_zip : PySem.W.nsIn K mainGlobals "zip" = some none)
    (a1 : PySem.W.nsIn K mainGlobals "is_integer" = some (some (.ref f1)))
    (l1 : K.lookup f1 = some ⟨oc1, od1, .func (PySem.W.fnOf "is_integer" "is_integer" (C8.fnArgs s_is_integer) (C8.fnBody s_is_integer) (C8.fnScope s_is_integer) .none kV1 dc1 pm1 an1 cd1 ct1), sl1⟩)
    (c1 : PySem.W.codeIn K cd1 "is_integer" = true)
    (k1 : PySem.W.keepIn K (.ref f1) = true)
    (a2 : PySem.W.nsIn K mainGlobals "is_count" = some (some (.ref f2)))
    (l2 : K.lookup f2 = some ⟨oc2, od2, .func (PySem.W.fnOf "is_count" "is_count" (C8.fnArgs s_is_count) (C8.fnBody s_is_count) (C8.fnScope s_is_count) .none kV2 dc2 pm2 an2 cd2 ct2), sl2⟩)
    (c2 : PySem.W.codeIn K cd2 "is_count" = true)
    (k2 : PySem.W.keepIn K (.ref f2) = true)
    (a3 : PySem.W.nsIn K mainGlobals "is_list" = some (some (.ref f3)))
    (l3 : K.lookup f3 = some ⟨oc3, od3, .func (PySem.W.fnOf "is_list" "is_list" (C8.fnArgs s_is_list) (C8.fnBody s_is_list) (C8.fnScope s_is_list) .none kV3 dc3 pm3 an3 cd3 ct3), sl3⟩)
    (c3 : PySem.W.codeIn K cd3 "is_list" = true)
    (k3 : PySem.W.keepIn K (.ref f3) = true)
    (a4 : PySem.W.nsIn K mainGlobals "is_content" = some (some (.ref f4)))
    (l4 : K.lookup f4 = some ⟨oc4, od4, .func (PySem.W.fnOf "is_content" "is_content" (C8.fnArgs s_is_content) (C8.fnBody s_is_content) (C8.fnScope s_is_content) .none kV4 dc4 pm4 an4 cd4 ct4), sl4⟩)
    (c4 : PySem.W.codeIn K cd4 "is_content" = true)
    (k4 : PySem.W.keepIn K (.ref f4) = true)
    (a5 : PySem.W.nsIn K mainGlobals "_has_lanes" = some (some (.ref f5)))
    (l5 : K.lookup f5 = some ⟨oc5, od5, .func (PySem.W.fnOf "_has_lanes" "_has_lanes" (C8.fnArgs s_has_lanes) (C8.fnBody s_has_lanes) (C8.fnScope s_has_lanes) .none kV5 dc5 pm5 an5 cd5 ct5), sl5⟩)
    (c5 : PySem.W.codeIn K cd5 "_has_lanes" = true)
    (k5 : PySem.W.keepIn K (.ref f5) = true)
    (a6 : PySem.W.nsIn K mainGlobals "is_lane" = some (some (.ref f6)))
    (l6 : K.lookup f6 = some ⟨oc6, od6, .func (PySem.W.fnOf "is_lane" "is_lane" (C8.fnArgs s_is_lane) (C8.fnBody s_is_lane) (C8.fnScope s_is_lane) .none kV6 dc6 pm6 an6 cd6 ct6), sl6⟩)
    (c6 : PySem.W.codeIn K cd6 "is_lane" = true)
    (k6 : PySem.W.keepIn K (.ref f6) = true)
    (a7 : PySem.W.nsIn K mainGlobals "is_order" = some (some (.ref f7)))
    (l7 : K.lookup f7 = some ⟨oc7, od7, .func (PySem.W.fnOf "is_order" "is_order" (C8.fnArgs s_is_order) (C8.fnBody s_is_order) (C8.fnScope s_is_order) .none kV7 dc7 pm7 an7 cd7 ct7), sl7⟩)
    (c7 : PySem.W.codeIn K cd7 "is_order" = true)
    (k7 : PySem.W.keepIn K (.ref f7) = true)
    (a8 : PySem.W.nsIn K mainGlobals "check_content" = some (some (.ref f8)))
    (l8 : K.lookup f8 = some ⟨oc8, od8, .func (PySem.W.fnOf "check_content" "check_content" (C8.fnArgs s_check_content) (C8.fnBody s_check_content) (C8.fnScope s_check_content) .none kV8 dc8 pm8 an8 cd8 ct8), sl8⟩)
    (c8 : PySem.W.codeIn K cd8 "check_content" = true)
    (k8 : PySem.W.keepIn K (.ref f8) = true)
    (a9 : PySem.W.nsIn K mainGlobals "check_any_content" = some (some (.ref f9)))
    (l9 : K.lookup f9 = some ⟨oc9, od9, .func (PySem.W.fnOf "check_any_content" "check_any_content" (C8.fnArgs s_check_any_content) (C8.fnBody s_check_any_content) (C8.fnScope s_check_any_content) .none kV9 dc9 pm9 an9 cd9 ct9), sl9⟩)
    (c9 : PySem.W.codeIn K cd9 "check_any_content" = true)
    (k9 : PySem.W.keepIn K (.ref f9) = true)
    (a10 : PySem.W.nsIn K mainGlobals "check_lanes" = some (some (.ref f10)))
    (l10 : K.lookup f10 = some ⟨oc10, od10, .func (PySem.W.fnOf "check_lanes" "check_lanes" (C8.fnArgs s_check_lanes) (C8.fnBody s_check_lanes) (C8.fnScope s_check_lanes) .none kV10 dc10 pm10 an10 cd10 ct10), sl10⟩)
    (c10 : PySem.W.codeIn K cd10 "check_lanes" = true)
    (k10 : PySem.W.keepIn K (.ref f10) = true)
    (a11 : PySem.W.nsIn K mainGlobals "check_number" = some (some (.ref f11)))
    (l11 : K.lookup f11 = some ⟨oc11, od11, .func (PySem.W.fnOf "check_number" "check_number" (C8.fnArgs s_check_number) (C8.fnBody s_check_number) (C8.fnScope s_check_number) .none kV11 dc11 pm11 an11 cd11 ct11), sl11⟩)
    (c11 : PySem.W.codeIn K cd11 "check_number" = true)
    (k11 : PySem.W.keepIn K (.ref f11) = true)
    (a12 : PySem.W.nsIn K mainGlobals "check_many" = some (some (.ref f12)))
    (l12 : K.lookup f12 = some ⟨oc12, od12, .func (PySem.W.fnOf "check_many" "check_many" (C8.fnArgs s_check_many) (C8.fnBody s_check_many) (C8.fnScope s_check_many) .none kV12 dc12 pm12 an12 cd12 ct12), sl12⟩)
    (c12 : PySem.W.codeIn K cd12 "check_many" = true)
    (k12 : PySem.W.keepIn K (.ref f12) = true)
    (a13 : PySem.W.nsIn K mainGlobals "check_order" = some (some (.ref f13)))
    (l13 : K.lookup f13 = some ⟨oc13, od13, .func (PySem.W.fnOf "check_order" "check_order" (C8.fnArgs s_check_order) (C8.fnBody s_check_order) (C8.fnScope s_check_order) .none kV13 dc13 pm13 an13 cd13 ct13), sl13⟩)
    (c13 : PySem.W.codeIn K cd13 "check_order" = true)
    (k13 : PySem.W.keepIn K (.ref f13) = true)
    (a14 : PySem.W.nsIn K mainGlobals "raised" = some (some (.ref f14)))
    (l14 : K.lookup f14 = some ⟨oc14, od14, .func (PySem.W.fnOf "raised" "raised" (C8.fnArgs s_raised) (C8.fnBody s_raised) (C8.fnScope s_raised) .none kV14 dc14 pm14 an14 cd14 ct14), sl14⟩)
    (c14 : PySem.W.codeIn K cd14 "raised" = true)
    (k14 : PySem.W.keepIn K (.ref f14) = true)
    (a15 : PySem.W.nsIn K mainGlobals "turned" = some (some (.ref f15)))
    (l15 : K.lookup f15 = some ⟨oc15, od15, .func (PySem.W.fnOf "turned" "turned" (C8.fnArgs s_turned) (C8.fnBody s_turned) (C8.fnScope s_turned) .none kV15 dc15 pm15 an15 cd15 ct15), sl15⟩)
    (c15 : PySem.W.codeIn K cd15 "turned" = true)
    (k15 : PySem.W.keepIn K (.ref f15) = true)
    (a16 : PySem.W.nsIn K mainGlobals "moved" = some (some (.ref f16)))
    (l16 : K.lookup f16 = some ⟨oc16, od16, .func (PySem.W.fnOf "moved" "moved" (C8.fnArgs s_moved) (C8.fnBody s_moved) (C8.fnScope s_moved) .none kV16 dc16 pm16 an16 cd16 ct16), sl16⟩)
    (c16 : PySem.W.codeIn K cd16 "moved" = true)
    (k16 : PySem.W.keepIn K (.ref f16) = true)
    (a17 : PySem.W.nsIn K mainGlobals "is_gate" = some (some (.ref f17)))
    (l17 : K.lookup f17 = some ⟨oc17, od17, .func (PySem.W.fnOf "is_gate" "is_gate" (C8.fnArgs s_is_gate) (C8.fnBody s_is_gate) (C8.fnScope s_is_gate) .none kV17 dc17 pm17 an17 cd17 ct17), sl17⟩)
    (c17 : PySem.W.codeIn K cd17 "is_gate" = true)
    (k17 : PySem.W.keepIn K (.ref f17) = true)
    (a18 : PySem.W.nsIn K mainGlobals "behind_gate" = some (some (.ref f18)))
    (l18 : K.lookup f18 = some ⟨oc18, od18, .func (PySem.W.fnOf "behind_gate" "behind_gate" (C8.fnArgs s_behind_gate) (C8.fnBody s_behind_gate) (C8.fnScope s_behind_gate) .none kV18 dc18 pm18 an18 cd18 ct18), sl18⟩)
    (c18 : PySem.W.codeIn K cd18 "behind_gate" = true)
    (k18 : PySem.W.keepIn K (.ref f18) = true)
    (a19 : PySem.W.nsIn K mainGlobals "turned_gate" = some (some (.ref f19)))
    (l19 : K.lookup f19 = some ⟨oc19, od19, .func (PySem.W.fnOf "turned_gate" "turned_gate" (C8.fnArgs s_turned_gate) (C8.fnBody s_turned_gate) (C8.fnScope s_turned_gate) .none kV19 dc19 pm19 an19 cd19 ct19), sl19⟩)
    (c19 : PySem.W.codeIn K cd19 "turned_gate" = true)
    (k19 : PySem.W.keepIn K (.ref f19) = true)
    (a20 : PySem.W.nsIn K mainGlobals "gate_moved" = some (some (.ref f20)))
    (l20 : K.lookup f20 = some ⟨oc20, od20, .func (PySem.W.fnOf "gate_moved" "gate_moved" (C8.fnArgs s_gate_moved) (C8.fnBody s_gate_moved) (C8.fnScope s_gate_moved) .none kV20 dc20 pm20 an20 cd20 ct20), sl20⟩)
    (c20 : PySem.W.codeIn K cd20 "gate_moved" = true)
    (k20 : PySem.W.keepIn K (.ref f20) = true)
    (a21 : PySem.W.nsIn K mainGlobals "_check_gates" = some (some (.ref f21)))
    (l21 : K.lookup f21 = some ⟨oc21, od21, .func (PySem.W.fnOf "_check_gates" "_check_gates" (C8.fnArgs s_check_gates) (C8.fnBody s_check_gates) (C8.fnScope s_check_gates) .none kV21 dc21 pm21 an21 cd21 ct21), sl21⟩)
    (c21 : PySem.W.codeIn K cd21 "_check_gates" = true)
    (k21 : PySem.W.keepIn K (.ref f21) = true)
    (a22 : PySem.W.nsIn K mainGlobals "check_position" = some (some (.ref f22)))
    (l22 : K.lookup f22 = some ⟨oc22, od22, .func (PySem.W.fnOf "check_position" "check_position" (C8.fnArgs s_check_position) (C8.fnBody s_check_position) (C8.fnScope s_check_position) .none kV22 dc22 pm22 an22 cd22 ct22), sl22⟩)
    (c22 : PySem.W.codeIn K cd22 "check_position" = true)
    (k22 : PySem.W.keepIn K (.ref f22) = true)
    (a23 : PySem.W.nsIn K mainGlobals "contents" = some (some (.ref f23)))
    (l23 : K.lookup f23 = some ⟨oc23, od23, .func (PySem.W.fnOf "contents" "contents" (C8.fnArgs s_contents) (C8.fnBody s_contents) (C8.fnScope s_contents) .none kV23 dc23 pm23 an23 cd23 ct23), sl23⟩)
    (c23 : PySem.W.codeIn K cd23 "contents" = true)
    (k23 : PySem.W.keepIn K (.ref f23) = true)
    (a24 : PySem.W.nsIn K mainGlobals "origins" = some (some (.ref f24)))
    (l24 : K.lookup f24 = some ⟨oc24, od24, .func (PySem.W.fnOf "origins" "origins" (C8.fnArgs s_origins) (C8.fnBody s_origins) (C8.fnScope s_origins) .none kV24 dc24 pm24 an24 cd24 ct24), sl24⟩)
    (c24 : PySem.W.codeIn K cd24 "origins" = true)
    (k24 : PySem.W.keepIn K (.ref f24) = true)
    (a25 : PySem.W.nsIn K mainGlobals "_origins_behind" = some (some (.ref f25)))
    (l25 : K.lookup f25 = some ⟨oc25, od25, .func (PySem.W.fnOf "_origins_behind" "_origins_behind" (C8.fnArgs s_origins_behind) (C8.fnBody s_origins_behind) (C8.fnScope s_origins_behind) .none kV25 dc25 pm25 an25 cd25 ct25), sl25⟩)
    (c25 : PySem.W.codeIn K cd25 "_origins_behind" = true)
    (k25 : PySem.W.keepIn K (.ref f25) = true)
    (a26 : PySem.W.nsIn K mainGlobals "_law_pot" = some (some (.ref f26)))
    (l26 : K.lookup f26 = some ⟨oc26, od26, .func (PySem.W.fnOf "_law_pot" "_law_pot" (C8.fnArgs s_law_pot) (C8.fnBody s_law_pot) (C8.fnScope s_law_pot) .none kV26 dc26 pm26 an26 cd26 ct26), sl26⟩)
    (c26 : PySem.W.codeIn K cd26 "_law_pot" = true)
    (k26 : PySem.W.keepIn K (.ref f26) = true)
    (a27 : PySem.W.nsIn K mainGlobals "_law_draw" = some (some (.ref f27)))
    (l27 : K.lookup f27 = some ⟨oc27, od27, .func (PySem.W.fnOf "_law_draw" "_law_draw" (C8.fnArgs s_law_draw) (C8.fnBody s_law_draw) (C8.fnScope s_law_draw) .none kV27 dc27 pm27 an27 cd27 ct27), sl27⟩)
    (c27 : PySem.W.codeIn K cd27 "_law_draw" = true)
    (k27 : PySem.W.keepIn K (.ref f27) = true)
    (a28 : PySem.W.nsIn K mainGlobals "_law_pick" = some (some (.ref f28)))
    (l28 : K.lookup f28 = some ⟨oc28, od28, .func (PySem.W.fnOf "_law_pick" "_law_pick" (C8.fnArgs s_law_pick) (C8.fnBody s_law_pick) (C8.fnScope s_law_pick) .none kV28 dc28 pm28 an28 cd28 ct28), sl28⟩)
    (c28 : PySem.W.codeIn K cd28 "_law_pick" = true)
    (k28 : PySem.W.keepIn K (.ref f28) = true)
    (a29 : PySem.W.nsIn K mainGlobals "_law_mixed" = some (some (.ref f29)))
    (l29 : K.lookup f29 = some ⟨oc29, od29, .func (PySem.W.fnOf "_law_mixed" "_law_mixed" (C8.fnArgs s_law_mixed) (C8.fnBody s_law_mixed) (C8.fnScope s_law_mixed) .none kV29 dc29 pm29 an29 cd29 ct29), sl29⟩)
    (c29 : PySem.W.codeIn K cd29 "_law_mixed" = true)
    (k29 : PySem.W.keepIn K (.ref f29) = true)
    (a30 : PySem.W.nsIn K mainGlobals "_law_gate" = some (some (.ref f30)))
    (l30 : K.lookup f30 = some ⟨oc30, od30, .func (PySem.W.fnOf "_law_gate" "_law_gate" (C8.fnArgs s_law_gate) (C8.fnBody s_law_gate) (C8.fnScope s_law_gate) .none kV30 dc30 pm30 an30 cd30 ct30), sl30⟩)
    (c30 : PySem.W.codeIn K cd30 "_law_gate" = true)
    (k30 : PySem.W.keepIn K (.ref f30) = true)
    (a31 : PySem.W.nsIn K mainGlobals "_law_gates" = some (some (.ref f31)))
    (l31 : K.lookup f31 = some ⟨oc31, od31, .func (PySem.W.fnOf "_law_gates" "_law_gates" (C8.fnArgs s_law_gates) (C8.fnBody s_law_gates) (C8.fnScope s_law_gates) .none kV31 dc31 pm31 an31 cd31 ct31), sl31⟩)
    (c31 : PySem.W.codeIn K cd31 "_law_gates" = true)
    (k31 : PySem.W.keepIn K (.ref f31) = true)
    (a32 : PySem.W.nsIn K mainGlobals "_law_content" = some (some (.ref f32)))
    (l32 : K.lookup f32 = some ⟨oc32, od32, .func (PySem.W.fnOf "_law_content" "_law_content" (C8.fnArgs s_law_content) (C8.fnBody s_law_content) (C8.fnScope s_law_content) .none kV32 dc32 pm32 an32 cd32 ct32), sl32⟩)
    (c32 : PySem.W.codeIn K cd32 "_law_content" = true)
    (k32 : PySem.W.keepIn K (.ref f32) = true)
    (a33 : PySem.W.nsIn K mainGlobals "_law_done" = some (some (.ref f33)))
    (l33 : K.lookup f33 = some ⟨oc33, od33, .func (PySem.W.fnOf "_law_done" "_law_done" (C8.fnArgs s_law_done) (C8.fnBody s_law_done) (C8.fnScope s_law_done) .none kV33 dc33 pm33 an33 cd33 ct33), sl33⟩)
    (c33 : PySem.W.codeIn K cd33 "_law_done" = true)
    (k33 : PySem.W.keepIn K (.ref f33) = true)
    (a34 : PySem.W.nsIn K mainGlobals "_law_run" = some (some (.ref f34)))
    (l34 : K.lookup f34 = some ⟨oc34, od34, .func (PySem.W.fnOf "_law_run" "_law_run" (C8.fnArgs s_law_run) (C8.fnBody s_law_run) (C8.fnScope s_law_run) .none kV34 dc34 pm34 an34 cd34 ct34), sl34⟩)
    (c34 : PySem.W.codeIn K cd34 "_law_run" = true)
    (k34 : PySem.W.keepIn K (.ref f34) = true)
    (a35 : PySem.W.nsIn K mainGlobals "_law_led" = some (some (.ref f35)))
    (l35 : K.lookup f35 = some ⟨oc35, od35, .func (PySem.W.fnOf "_law_led" "_law_led" (C8.fnArgs s_law_led) (C8.fnBody s_law_led) (C8.fnScope s_law_led) .none kV35 dc35 pm35 an35 cd35 ct35), sl35⟩)
    (c35 : PySem.W.codeIn K cd35 "_law_led" = true)
    (k35 : PySem.W.keepIn K (.ref f35) = true)
    (a36 : PySem.W.nsIn K mainGlobals "_law_origins" = some (some (.ref f36)))
    (l36 : K.lookup f36 = some ⟨oc36, od36, .func (PySem.W.fnOf "_law_origins" "_law_origins" (C8.fnArgs s_law_origins) (C8.fnBody s_law_origins) (C8.fnScope s_law_origins) .none kV36 dc36 pm36 an36 cd36 ct36), sl36⟩)
    (c36 : PySem.W.codeIn K cd36 "_law_origins" = true)
    (k36 : PySem.W.keepIn K (.ref f36) = true)
    (a37 : PySem.W.nsIn K mainGlobals "_law_told_right" = some (some (.ref f37)))
    (l37 : K.lookup f37 = some ⟨oc37, od37, .func (PySem.W.fnOf "_law_told_right" "_law_told_right" (C8.fnArgs s_law_told_right) (C8.fnBody s_law_told_right) (C8.fnScope s_law_told_right) .none kV37 dc37 pm37 an37 cd37 ct37), sl37⟩)
    (c37 : PySem.W.codeIn K cd37 "_law_told_right" = true)
    (k37 : PySem.W.keepIn K (.ref f37) = true)
    (a38 : PySem.W.nsIn K mainGlobals "_law_behind_right" = some (some (.ref f38)))
    (l38 : K.lookup f38 = some ⟨oc38, od38, .func (PySem.W.fnOf "_law_behind_right" "_law_behind_right" (C8.fnArgs s_law_behind_right) (C8.fnBody s_law_behind_right) (C8.fnScope s_law_behind_right) .none kV38 dc38 pm38 an38 cd38 ct38), sl38⟩)
    (c38 : PySem.W.codeIn K cd38 "_law_behind_right" = true)
    (k38 : PySem.W.keepIn K (.ref f38) = true)
    (a39 : PySem.W.nsIn K mainGlobals "_law_turned_right" = some (some (.ref f39)))
    (l39 : K.lookup f39 = some ⟨oc39, od39, .func (PySem.W.fnOf "_law_turned_right" "_law_turned_right" (C8.fnArgs s_law_turned_right) (C8.fnBody s_law_turned_right) (C8.fnScope s_law_turned_right) .none kV39 dc39 pm39 an39 cd39 ct39), sl39⟩)
    (c39 : PySem.W.codeIn K cd39 "_law_turned_right" = true)
    (k39 : PySem.W.keepIn K (.ref f39) = true)
    (a40 : PySem.W.nsIn K mainGlobals "_law_right" = some (some (.ref f40)))
    (l40 : K.lookup f40 = some ⟨oc40, od40, .func (PySem.W.fnOf "_law_right" "_law_right" (C8.fnArgs s_law_right) (C8.fnBody s_law_right) (C8.fnScope s_law_right) .none kV40 dc40 pm40 an40 cd40 ct40), sl40⟩)
    (c40 : PySem.W.codeIn K cd40 "_law_right" = true)
    (k40 : PySem.W.keepIn K (.ref f40) = true)
    (a41 : PySem.W.nsIn K mainGlobals "law" = some (some (.ref f41)))
    (l41 : K.lookup f41 = some ⟨oc41, od41, .func (PySem.W.fnOf "law" "law" (C8.fnArgs s_law) (C8.fnBody s_law) (C8.fnScope s_law) .none kV41 dc41 pm41 an41 cd41 ct41), sl41⟩)
    (c41 : PySem.W.codeIn K cd41 "law" = true)
    (k41 : PySem.W.keepIn K (.ref f41) = true)
    (aC : PySem.W.nsIn K mainGlobals "Net" = some (some (.ref C)))
    (pg : PySem.W.plainGet K C Str.empty = true)
    (hd : PySem.W.hasDictIn K C = true)
    (po : PySem.W.plainOver K C = true)
    (sa : PySem.W.findIn K (.ref C) "__setattr__" = some (some (.builtin "object.__setattr__")))
    (mk : PySem.W.makesIn K C = true)
    (kc : PySem.W.keepIn K (.ref C) = true)
    (nL : PySem.W.findIn K (.ref C) "_lanes" = some none)
    (nG : PySem.W.findIn K (.ref C) "_gates" = some none)
    (rd : PySem.W.readsIn K C (.type "type") = true)
    (ga : PySem.W.specialIn K (.ref C) "__getattribute__" = some (some (.builtin "type.__getattribute__")))
    (vM : PySem.W.findCls K (.ref C) (.type "type") "MOST_GATES" = some (.val (.int 400 tM)))
    (vA : PySem.W.nsIn K mainGlobals "LANES_AT_MOST" = some (some (.int 12 tA)))
    (vT : PySem.W.nsIn K mainGlobals "_TWO_LANE_WORDS" = some (some (.ref aT)))
    (lT : K.lookup aT = some ⟨.type "tuple", dT, .seq #[.str "low" t1, .str "high" t2, .str "sort" t3, .str "copy" t4] nT, sT⟩)
    (qa : PySem.W.findIn K (.ref C) "__class__" = some (some (.builtin "object.__class__")))
    (qn : PySem.W.specialIn K (.builtin "object.__class__") "__get__" = some (some (.builtin "getset_descriptor.__get__")))
    (qt : PySem.W.takesIn K (.builtin "object.__class__") = some true)
    (qm : PySem.W.mroIn K C (.type "object") = some true)
    (oF : PySem.W.selfFirst K C = true)
    (a42 : PySem.W.findIn K (.ref C) "__init__" = some (some (.ref f42)))
    (l42 : K.lookup f42 = some ⟨oc42, od42, .func (PySem.W.fnOf "__init__" "Net.__init__" (C8.fnArgs s_Net_init) (C8.fnBody s_Net_init) (C8.fnScope s_Net_init) (.ref TD) kV42 dc42 pm42 an42 cd42 ct42), sl42⟩)
    (c42 : PySem.W.codeIn K cd42 "Net.__init__" = true)
    (i42 : PySem.W.isFn K (.ref f42) = true)
    (lD : K.lookup TD = some ⟨oD, dO, .seq #[.ref eD] nD, sD⟩)
    (k42 : PySem.W.keepIn K (.ref f42) = true)
    (a43 : PySem.W.findIn K (.ref C) "gates" = some (some (.ref f43)))
    (l43 : K.lookup f43 = some ⟨oc43, od43, .func (PySem.W.fnOf "gates" "Net.gates" (C8.fnArgs s_Net_gates) (C8.fnBody s_Net_gates) (C8.fnScope s_Net_gates) .none kV43 dc43 pm43 an43 cd43 ct43), sl43⟩)
    (c43 : PySem.W.codeIn K cd43 "Net.gates" = true)
    (i43 : PySem.W.isFn K (.ref f43) = true)
    (k43 : PySem.W.keepIn K (.ref f43) = true)
    (a44 : PySem.W.findIn K (.ref C) "__call__" = some (some (.ref f44)))
    (l44 : K.lookup f44 = some ⟨oc44, od44, .func (PySem.W.fnOf "__call__" "Net.__call__" (C8.fnArgs s_Net_call) (C8.fnBody s_Net_call) (C8.fnScope s_Net_call) .none kV44 dc44 pm44 an44 cd44 ct44), sl44⟩)
    (c44 : PySem.W.codeIn K cd44 "Net.__call__" = true)
    (i44 : PySem.W.isFn K (.ref f44) = true)
    (n44 : PySem.W.fnIn K f44 = true)
    (a45 : PySem.W.findIn K (.ref C) (PySem.dunder Operator.Add.info.2) = some (some (.ref f45)))
    (l45 : K.lookup f45 = some ⟨oc45, od45, .func (PySem.W.fnOf "__add__" "Net.__add__" (C8.fnArgs s_Net_add) (C8.fnBody s_Net_add) (C8.fnScope s_Net_add) .none kV45 dc45 pm45 an45 cd45 ct45), sl45⟩)
    (c45 : PySem.W.codeIn K cd45 "Net.__add__" = true)
    (i45 : PySem.W.isFn K (.ref f45) = true)
    (a46 : PySem.W.findIn K (.ref C) "__neg__" = some (some (.ref f46)))
    (l46 : K.lookup f46 = some ⟨oc46, od46, .func (PySem.W.fnOf "__neg__" "Net.__neg__" (C8.fnArgs s_Net_neg) (C8.fnBody s_Net_neg) (C8.fnScope s_Net_neg) .none kV46 dc46 pm46 an46 cd46 ct46), sl46⟩)
    (c46 : PySem.W.codeIn K cd46 "Net.__neg__" = true)
    (i46 : PySem.W.isFn K (.ref f46) = true)
    (a47 : PySem.W.findIn K (.ref C) "__eq__" = some (some (.ref f47)))
    (l47 : K.lookup f47 = some ⟨oc47, od47, .func (PySem.W.fnOf "__eq__" "Net.__eq__" (C8.fnArgs s_Net_eq) (C8.fnBody s_Net_eq) (C8.fnScope s_Net_eq) .none kV47 dc47 pm47 an47 cd47 ct47), sl47⟩)
    (c47 : PySem.W.codeIn K cd47 "Net.__eq__" = true)
    (i47 : PySem.W.isFn K (.ref f47) = true)
    (a48 : PySem.W.findIn K (.ref C) "renumbered" = some (some (.ref f48)))
    (l48 : K.lookup f48 = some ⟨oc48, od48, .func (PySem.W.fnOf "renumbered" "Net.renumbered" (C8.fnArgs s_Net_renumbered) (C8.fnBody s_Net_renumbered) (C8.fnScope s_Net_renumbered) .none kV48 dc48 pm48 an48 cd48 ct48), sl48⟩)
    (c48 : PySem.W.codeIn K cd48 "Net.renumbered" = true)
    (i48 : PySem.W.isFn K (.ref f48) = true)
    (k48 : PySem.W.keepIn K (.ref f48) = true)
    (a49 : PySem.W.findIn K (.ref C) "lanes" = some (some (.ref p49)))
    (r49' : PySem.W.recIn K p49 "property" = some (.ref f49 :: r49))
    (l49 : K.lookup f49 = some ⟨oc49, od49, .func (PySem.W.fnOf "lanes" "Net.lanes" (C8.fnArgs s_Net_lanes) (C8.fnBody s_Net_lanes) (C8.fnScope s_Net_lanes) .none kV49 dc49 pm49 an49 cd49 ct49), sl49⟩)
    (c49 : PySem.W.codeIn K cd49 "Net.lanes" = true)
    (g49 : PySem.W.specialIn K (.ref p49) "__get__" = some (some (.builtin "property.__get__")))
    (t49 : PySem.W.takesIn K (.ref p49) = some true)
    (a50 : PySem.W.findIn K (.ref C) "is_plain" = some (some (.ref p50)))
    (r50' : PySem.W.recIn K p50 "property" = some (.ref f50 :: r50))
    (l50 : K.lookup f50 = some ⟨oc50, od50, .func (PySem.W.fnOf "is_plain" "Net.is_plain" (C8.fnArgs s_Net_is_plain) (C8.fnBody s_Net_is_plain) (C8.fnScope s_Net_is_plain) .none kV50 dc50 pm50 an50 cd50 ct50), sl50⟩)
    (c50 : PySem.W.codeIn K cd50 "Net.is_plain" = true)
    (g50 : PySem.W.specialIn K (.ref p50) "__get__" = some (some (.builtin "property.__get__")))
    (t50 : PySem.W.takesIn K (.ref p50) = some true)
    : ∃ fd : FuncData, (∀ (s : Shared) (v : Value), BindsTo s fd ⟨[v], []⟩ [("_law_script", v)]) ∧ ∀ base : Heap, K.In base → base.Ns mainGlobals mg → FnQ NoG l.prog w K mg base 12 fa fd ["_law_script"] (sp_law K) := by
  have b_abs : mg "abs" = none := PySem.W.mg_none_of X G z_abs
  have b_all : mg "all" = none := PySem.W.mg_none_of X G z_all
  have b_bool : mg "bool" = none := PySem.W.mg_none_of X G z_bool
  have b_divmod : mg "divmod" = none := PySem.W.mg_none_of X G z_divmod
  have b_enumerate : mg "enumerate" = none := PySem.W.mg_none_of X G z_enumerate
  have b_int : mg "int" = none := PySem.W.mg_none_of X G z_int
  have b_isinstance : mg "isinstance" = none := PySem.W.mg_none_of X G z_isinstance
  have b_len : mg "len" = none := PySem.W.mg_none_of X G z_len
  have b_list : mg "list" = none := PySem.W.mg_none_of X G z_list
  have b_max : mg "max" = none := PySem.W.mg_none_of X G z_max
  have b_min : mg "min" = none := PySem.W.mg_none_of X G z_min
  have b_range : mg "range" = none := PySem.W.mg_none_of X G z_range
  have b_repr : mg "repr" = none := PySem.W.mg_none_of X G z_repr
  have b_sorted : mg "sorted" = none := PySem.W.mg_none_of X G z_sorted
  have b_str : mg "str" = none := PySem.W.mg_none_of X G z_str
  have b_tuple : mg "tuple" = none := PySem.W.mg_none_of X G z_tuple
  have b_zip : mg "zip" = none := PySem.W.mg_none_of X G z_zip
  have F1 := funMk (st := s_is_integer) l1 c1
  have d_is_integer : DefAt K mg "is_integer" s_is_integer ["value"] := ⟨f1, _, ⟨F1, PySem.W.mg_of X G a1, k1⟩, C8.Fun.binds F1 rfl fun _ _ _ _ _ _ us hl => match us, hl with | [_], _ => rfl⟩
  have F2 := funMk (st := s_is_count) l2 c2
  have d_is_count : DefAt K mg "is_count" s_is_count ["value"] := ⟨f2, _, ⟨F2, PySem.W.mg_of X G a2, k2⟩, C8.Fun.binds F2 rfl fun _ _ _ _ _ _ us hl => match us, hl with | [_], _ => rfl⟩
  have F3 := funMk (st := s_is_list) l3 c3
  have d_is_list : DefAt K mg "is_list" s_is_list ["value"] := ⟨f3, _, ⟨F3, PySem.W.mg_of X G a3, k3⟩, C8.Fun.binds F3 rfl fun _ _ _ _ _ _ us hl => match us, hl with | [_], _ => rfl⟩
  have F4 := funMk (st := s_is_content) l4 c4
  have d_is_content : DefAt K mg "is_content" s_is_content ["value"] := ⟨f4, _, ⟨F4, PySem.W.mg_of X G a4, k4⟩, C8.Fun.binds F4 rfl fun _ _ _ _ _ _ us hl => match us, hl with | [_], _ => rfl⟩
  have F5 := funMk (st := s_has_lanes) l5 c5
  have d_has_lanes : DefAt K mg "_has_lanes" s_has_lanes ["value"] := ⟨f5, _, ⟨F5, PySem.W.mg_of X G a5, k5⟩, C8.Fun.binds F5 rfl fun _ _ _ _ _ _ us hl => match us, hl with | [_], _ => rfl⟩
  have F6 := funMk (st := s_is_lane) l6 c6
  have d_is_lane : DefAt K mg "is_lane" s_is_lane ["value", "lanes"] := ⟨f6, _, ⟨F6, PySem.W.mg_of X G a6, k6⟩, C8.Fun.binds F6 rfl fun _ _ _ _ _ _ us hl => match us, hl with | [_, _], _ => rfl⟩
  have F7 := funMk (st := s_is_order) l7 c7
  have d_is_order : DefAt K mg "is_order" s_is_order ["value", "lanes"] := ⟨f7, _, ⟨F7, PySem.W.mg_of X G a7, k7⟩, C8.Fun.binds F7 rfl fun _ _ _ _ _ _ us hl => match us, hl with | [_, _], _ => rfl⟩
  have F8 := funMk (st := s_check_content) l8 c8
  have d_check_content : DefAt K mg "check_content" s_check_content ["content", "lanes"] := ⟨f8, _, ⟨F8, PySem.W.mg_of X G a8, k8⟩, C8.Fun.binds F8 rfl fun _ _ _ _ _ _ us hl => match us, hl with | [_, _], _ => rfl⟩
  have F9 := funMk (st := s_check_any_content) l9 c9
  have d_check_any_content : DefAt K mg "check_any_content" s_check_any_content ["content"] := ⟨f9, _, ⟨F9, PySem.W.mg_of X G a9, k9⟩, C8.Fun.binds F9 rfl fun _ _ _ _ _ _ us hl => match us, hl with | [_], _ => rfl⟩
  have F10 := funMk (st := s_check_lanes) l10 c10
  have d_check_lanes : DefAt K mg "check_lanes" s_check_lanes ["lanes", "least"] := ⟨f10, _, ⟨F10, PySem.W.mg_of X G a10, k10⟩, C8.Fun.binds F10 rfl fun _ _ _ _ _ _ us hl => match us, hl with | [_, _], _ => rfl⟩
  have F11 := funMk (st := s_check_number) l11 c11
  have d_check_number : DefAt K mg "check_number" s_check_number ["number"] := ⟨f11, _, ⟨F11, PySem.W.mg_of X G a11, k11⟩, C8.Fun.binds F11 rfl fun _ _ _ _ _ _ us hl => match us, hl with | [_], _ => rfl⟩
  have F12 := funMk (st := s_check_many) l12 c12
  have d_check_many : DefAt K mg "check_many" s_check_many ["many"] := ⟨f12, _, ⟨F12, PySem.W.mg_of X G a12, k12⟩, C8.Fun.binds F12 rfl fun _ _ _ _ _ _ us hl => match us, hl with | [_], _ => rfl⟩
  have F13 := funMk (st := s_check_order) l13 c13
  have d_check_order : DefAt K mg "check_order" s_check_order ["order", "lanes"] := ⟨f13, _, ⟨F13, PySem.W.mg_of X G a13, k13⟩, C8.Fun.binds F13 rfl fun _ _ _ _ _ _ us hl => match us, hl with | [_, _], _ => rfl⟩
  have F14 := funMk (st := s_raised) l14 c14
  have d_raised : DefAt K mg "raised" s_raised ["content", "number"] := ⟨f14, _, ⟨F14, PySem.W.mg_of X G a14, k14⟩, C8.Fun.binds F14 rfl fun _ _ _ _ _ _ us hl => match us, hl with | [_, _], _ => rfl⟩
  have F15 := funMk (st := s_turned) l15 c15
  have d_turned : DefAt K mg "turned" s_turned ["content"] := ⟨f15, _, ⟨F15, PySem.W.mg_of X G a15, k15⟩, C8.Fun.binds F15 rfl fun _ _ _ _ _ _ us hl => match us, hl with | [_], _ => rfl⟩
  have F16 := funMk (st := s_moved) l16 c16
  have d_moved : DefAt K mg "moved" s_moved ["content", "order"] := ⟨f16, _, ⟨F16, PySem.W.mg_of X G a16, k16⟩, C8.Fun.binds F16 rfl fun _ _ _ _ _ _ us hl => match us, hl with | [_, _], _ => rfl⟩
  have F17 := funMk (st := s_is_gate) l17 c17
  have d_is_gate : DefAt K mg "is_gate" s_is_gate ["value", "lanes"] := ⟨f17, _, ⟨F17, PySem.W.mg_of X G a17, k17⟩, C8.Fun.binds F17 rfl fun _ _ _ _ _ _ us hl => match us, hl with | [_, _], _ => rfl⟩
  have F18 := funMk (st := s_behind_gate) l18 c18
  have d_behind_gate : DefAt K mg "behind_gate" s_behind_gate ["gate", "content"] := ⟨f18, _, ⟨F18, PySem.W.mg_of X G a18, k18⟩, C8.Fun.binds F18 rfl fun _ _ _ _ _ _ us hl => match us, hl with | [_, _], _ => rfl⟩
  have F19 := funMk (st := s_turned_gate) l19 c19
  have d_turned_gate : DefAt K mg "turned_gate" s_turned_gate ["gate"] := ⟨f19, _, ⟨F19, PySem.W.mg_of X G a19, k19⟩, C8.Fun.binds F19 rfl fun _ _ _ _ _ _ us hl => match us, hl with | [_], _ => rfl⟩
  have F20 := funMk (st := s_gate_moved) l20 c20
  have d_gate_moved : DefAt K mg "gate_moved" s_gate_moved ["gate", "order"] := ⟨f20, _, ⟨F20, PySem.W.mg_of X G a20, k20⟩, C8.Fun.binds F20 rfl fun _ _ _ _ _ _ us hl => match us, hl with | [_, _], _ => rfl⟩
  have F21 := funMk (st := s_check_gates) l21 c21
  have d_check_gates : DefAt K mg "_check_gates" s_check_gates ["gates", "lanes"] := ⟨f21, _, ⟨F21, PySem.W.mg_of X G a21, k21⟩, C8.Fun.binds F21 rfl fun _ _ _ _ _ _ us hl => match us, hl with | [_, _], _ => rfl⟩
  have F22 := funMk (st := s_check_position) l22 c22
  have d_check_position : DefAt K mg "check_position" s_check_position ["position", "places"] := ⟨f22, _, ⟨F22, PySem.W.mg_of X G a22, k22⟩, C8.Fun.binds F22 rfl fun _ _ _ _ _ _ us hl => match us, hl with | [_, _], _ => rfl⟩
  have F23 := funMk (st := s_contents) l23 c23
  have d_contents : DefAt K mg "contents" s_contents ["net", "content"] := ⟨f23, _, ⟨F23, PySem.W.mg_of X G a23, k23⟩, C8.Fun.binds F23 rfl fun _ _ _ _ _ _ us hl => match us, hl with | [_, _], _ => rfl⟩
  have F24 := funMk (st := s_origins) l24 c24
  have d_origins : DefAt K mg "origins" s_origins ["net", "content"] := ⟨f24, _, ⟨F24, PySem.W.mg_of X G a24, k24⟩, C8.Fun.binds F24 rfl fun _ _ _ _ _ _ us hl => match us, hl with | [_, _], _ => rfl⟩
  have F25 := funMk (st := s_origins_behind) l25 c25
  have d_origins_behind : DefAt K mg "_origins_behind" s_origins_behind ["gate", "numbers", "ahead"] := ⟨f25, _, ⟨F25, PySem.W.mg_of X G a25, k25⟩, C8.Fun.binds F25 rfl fun _ _ _ _ _ _ us hl => match us, hl with | [_, _, _], _ => rfl⟩
  have F26 := funMk (st := s_law_pot) l26 c26
  have d_law_pot : DefAt K mg "_law_pot" s_law_pot ["_law_script", "_law_k"] := ⟨f26, _, ⟨F26, PySem.W.mg_of X G a26, k26⟩, C8.Fun.binds F26 rfl fun _ _ _ _ _ _ us hl => match us, hl with | [_, _], _ => rfl⟩
  have F27 := funMk (st := s_law_draw) l27 c27
  have d_law_draw : DefAt K mg "_law_draw" s_law_draw ["_law_pot_here", "_law_size"] := ⟨f27, _, ⟨F27, PySem.W.mg_of X G a27, k27⟩, C8.Fun.binds F27 rfl fun _ _ _ _ _ _ us hl => match us, hl with | [_, _], _ => rfl⟩
  have F28 := funMk (st := s_law_pick) l28 c28
  have d_law_pick : DefAt K mg "_law_pick" s_law_pick ["_law_pot_here", "_law_some"] := ⟨f28, _, ⟨F28, PySem.W.mg_of X G a28, k28⟩, C8.Fun.binds F28 rfl fun _ _ _ _ _ _ us hl => match us, hl with | [_, _], _ => rfl⟩
  have F29 := funMk (st := s_law_mixed) l29 c29
  have d_law_mixed : DefAt K mg "_law_mixed" s_law_mixed ["_law_pot_here", "_law_some"] := ⟨f29, _, ⟨F29, PySem.W.mg_of X G a29, k29⟩, C8.Fun.binds F29 rfl fun _ _ _ _ _ _ us hl => match us, hl with | [_, _], _ => rfl⟩
  have F30 := funMk (st := s_law_gate) l30 c30
  have d_law_gate : DefAt K mg "_law_gate" s_law_gate ["_law_pot_here", "_law_lanes"] := ⟨f30, _, ⟨F30, PySem.W.mg_of X G a30, k30⟩, C8.Fun.binds F30 rfl fun _ _ _ _ _ _ us hl => match us, hl with | [_, _], _ => rfl⟩
  have F31 := funMk (st := s_law_gates) l31 c31
  have d_law_gates : DefAt K mg "_law_gates" s_law_gates ["_law_pot_here", "_law_lanes", "_law_most"] := ⟨f31, _, ⟨F31, PySem.W.mg_of X G a31, k31⟩, C8.Fun.binds F31 rfl fun _ _ _ _ _ _ us hl => match us, hl with | [_, _, _], _ => rfl⟩
  have F32 := funMk (st := s_law_content) l32 c32
  have d_law_content : DefAt K mg "_law_content" s_law_content ["_law_pot_here", "_law_lanes"] := ⟨f32, _, ⟨F32, PySem.W.mg_of X G a32, k32⟩, C8.Fun.binds F32 rfl fun _ _ _ _ _ _ us hl => match us, hl with | [_, _], _ => rfl⟩
  have F33 := funMk (st := s_law_done) l33 c33
  have d_law_done : DefAt K mg "_law_done" s_law_done ["_law_gate_here", "_law_here"] := ⟨f33, _, ⟨F33, PySem.W.mg_of X G a33, k33⟩, C8.Fun.binds F33 rfl fun _ _ _ _ _ _ us hl => match us, hl with | [_, _], _ => rfl⟩
  have F34 := funMk (st := s_law_run) l34 c34
  have d_law_run : DefAt K mg "_law_run" s_law_run ["_law_gates_here", "_law_content_here"] := ⟨f34, _, ⟨F34, PySem.W.mg_of X G a34, k34⟩, C8.Fun.binds F34 rfl fun _ _ _ _ _ _ us hl => match us, hl with | [_, _], _ => rfl⟩
  have F35 := funMk (st := s_law_led) l35 c35
  have d_law_led : DefAt K mg "_law_led" s_law_led ["_law_gate_here", "_law_here", "_law_own"] := ⟨f35, _, ⟨F35, PySem.W.mg_of X G a35, k35⟩, C8.Fun.binds F35 rfl fun _ _ _ _ _ _ us hl => match us, hl with | [_, _, _], _ => rfl⟩
  have F36 := funMk (st := s_law_origins) l36 c36
  have d_law_origins : DefAt K mg "_law_origins" s_law_origins ["_law_gates_here", "_law_content_here"] := ⟨f36, _, ⟨F36, PySem.W.mg_of X G a36, k36⟩, C8.Fun.binds F36 rfl fun _ _ _ _ _ _ us hl => match us, hl with | [_, _], _ => rfl⟩
  have F37 := funMk (st := s_law_told_right) l37 c37
  have d_law_told_right : DefAt K mg "_law_told_right" s_law_told_right ["_law_pot_here", "_law_net", "_law_gates_here", "_law_content_here"] := ⟨f37, _, ⟨F37, PySem.W.mg_of X G a37, k37⟩, C8.Fun.binds F37 rfl fun _ _ _ _ _ _ us hl => match us, hl with | [_, _, _, _], _ => rfl⟩
  have F38 := funMk (st := s_law_behind_right) l38 c38
  have d_law_behind_right : DefAt K mg "_law_behind_right" s_law_behind_right ["_law_pot_here", "_law_net", "_law_lanes", "_law_content_here"] := ⟨f38, _, ⟨F38, PySem.W.mg_of X G a38, k38⟩, C8.Fun.binds F38 rfl fun _ _ _ _ _ _ us hl => match us, hl with | [_, _, _, _], _ => rfl⟩
  have F39 := funMk (st := s_law_turned_right) l39 c39
  have d_law_turned_right : DefAt K mg "_law_turned_right" s_law_turned_right ["_law_pot_here", "_law_net", "_law_lanes", "_law_content_here"] := ⟨f39, _, ⟨F39, PySem.W.mg_of X G a39, k39⟩, C8.Fun.binds F39 rfl fun _ _ _ _ _ _ us hl => match us, hl with | [_, _, _, _], _ => rfl⟩
  have F40 := funMk (st := s_law_right) l40 c40
  have d_law_right : DefAt K mg "_law_right" s_law_right ["_law_pot_here"] := ⟨f40, _, ⟨F40, PySem.W.mg_of X G a40, k40⟩, C8.Fun.binds F40 rfl fun _ _ _ _ _ _ us hl => match us, hl with | [_], _ => rfl⟩
  have F41 := funMk (st := s_law) l41 c41
  have d_law : DefAt K mg "law" s_law ["_law_script"] := ⟨f41, _, ⟨F41, PySem.W.mg_of X G a41, k41⟩, C8.Fun.binds F41 rfl fun _ _ _ _ _ _ us hl => match us, hl with | [_], _ => rfl⟩
  have F42 := funMk (st := s_Net_init) l42 c42
  have F43 := funMk (st := s_Net_gates) l43 c43
  have F44 := funMk (st := s_Net_call) l44 c44
  have F45 := funMk (st := s_Net_add) l45 c45
  have F46 := funMk (st := s_Net_neg) l46 c46
  have F47 := funMk (st := s_Net_eq) l47 c47
  have F48 := funMk (st := s_Net_renumbered) l48 c48
  have F49 := funMk (st := s_Net_lanes) l49 c49
  have F50 := funMk (st := s_Net_is_plain) l50 c50
  have cl : Cls K C := ⟨pg, hd, po, sa⟩
  have bI : Binds K (PySem.W.fnOf "__init__" "Net.__init__" (C8.fnArgs s_Net_init) (C8.fnBody s_Net_init) (C8.fnScope s_Net_init) (.ref TD) kV42 dc42 pm42 an42 cd42 ct42) ["self", "lanes", "gates"] [] := by
    have FD : FunD K "__init__" "Net.__init__" (C8.fnArgs s_Net_init) (C8.fnBody s_Net_init) (C8.fnScope s_Net_init) [V.ref eD] [] f42 (PySem.W.fnOf "__init__" "Net.__init__" (C8.fnArgs s_Net_init) (C8.fnBody s_Net_init) (C8.fnScope s_Net_init) (.ref TD) kV42 dc42 pm42 an42 cd42 ct42) := ⟨⟨oc42, od42, .ref TD, kV42, dc42, pm42, an42, cd42, ct42, sl42, rfl, l42, c42, .inr ⟨(by intro z; cases z), TD, _, [Value.ref eD], nD, rfl, lD, rfl, .cons rfl .nil⟩, .inl rfl⟩, k42⟩
    obtain ⟨ds, hv, hb⟩ := FD.binds1 (ps := ["self", "lanes", "gates"]) 3 1 (by intro z; cases z) (by rfl) fun T kV doc pm an cdv ct us its h1 h2 => match us, h1, its, h2 with | [_, _, _], _, [_], _ => ⟨_, rfl, rfl⟩
    cases hv
    exact hb
  have T : Txt K mg C := {
    b_abs := b_abs
    b_all := b_all
    b_bool := b_bool
    b_divmod := b_divmod
    b_enumerate := b_enumerate
    b_int := b_int
    b_isinstance := b_isinstance
    b_len := b_len
    b_list := b_list
    b_max := b_max
    b_min := b_min
    b_range := b_range
    b_repr := b_repr
    b_sorted := b_sorted
    b_str := b_str
    b_tuple := b_tuple
    b_zip := b_zip
    d_is_integer := d_is_integer
    d_is_count := d_is_count
    d_is_list := d_is_list
    d_is_content := d_is_content
    d_has_lanes := d_has_lanes
    d_is_lane := d_is_lane
    d_is_order := d_is_order
    d_check_content := d_check_content
    d_check_any_content := d_check_any_content
    d_check_lanes := d_check_lanes
    d_check_number := d_check_number
    d_check_many := d_check_many
    d_check_order := d_check_order
    d_raised := d_raised
    d_turned := d_turned
    d_moved := d_moved
    d_is_gate := d_is_gate
    d_behind_gate := d_behind_gate
    d_turned_gate := d_turned_gate
    d_gate_moved := d_gate_moved
    d_check_gates := d_check_gates
    d_check_position := d_check_position
    d_contents := d_contents
    d_origins := d_origins
    d_origins_behind := d_origins_behind
    d_law_pot := d_law_pot
    d_law_draw := d_law_draw
    d_law_pick := d_law_pick
    d_law_mixed := d_law_mixed
    d_law_gate := d_law_gate
    d_law_gates := d_law_gates
    d_law_content := d_law_content
    d_law_done := d_law_done
    d_law_run := d_law_run
    d_law_led := d_law_led
    d_law_origins := d_law_origins
    d_law_told_right := d_law_told_right
    d_law_behind_right := d_law_behind_right
    d_law_turned_right := d_law_turned_right
    d_law_right := d_law_right
    d_law := d_law
    gLANES_AT_MOST := ⟨_, PySem.W.mg_of X G vA, ⟨_, rfl⟩⟩
    gTWO := ⟨aT, PySem.W.mg_of X G vT, fun H => .inr ⟨_, _, _, lT, rfl, rfl, by show 4 ≤ sizeLine; decide, .cons ⟨_, rfl⟩ (.cons ⟨_, rfl⟩ (.cons ⟨_, rfl⟩ (.cons ⟨_, rfl⟩ .nil)))⟩⟩
    cl := cl
    mgC := PySem.W.mg_of X G aC
    nL := nL
    nG := nG
    cM := ⟨_, _, ⟨rd, ga⟩, ⟨vM, ⟨_, rfl⟩⟩⟩
    i_init := ⟨_, _, F42, ⟨mk, a42, i42, kc⟩, bI⟩
    i_gates := ⟨_, _, F43, ⟨a43, i43, k43⟩, C8.Fun.binds F43 rfl fun _ _ _ _ _ _ us hl => match us, hl with | [_], _ => rfl⟩
    i_ren := ⟨_, _, F48, ⟨a48, i48, k48⟩, C8.Fun.binds F48 rfl fun _ _ _ _ _ _ us hl => match us, hl with | [_, _], _ => rfl⟩
    i_call := ⟨_, _, F44, ⟨a44, i44, n44⟩, C8.Fun.binds F44 rfl fun _ _ _ _ _ _ us hl => match us, hl with | [_, _], _ => rfl⟩
    i_lanes := ⟨_, _, _, F49, ⟨a49, g49, t49, _, r49'⟩, C8.Fun.binds F49 rfl fun _ _ _ _ _ _ us hl => match us, hl with | [_], _ => rfl⟩
    i_plain := ⟨_, _, _, F50, ⟨a50, g50, t50, _, r50'⟩, C8.Fun.binds F50 rfl fun _ _ _ _ _ _ us hl => match us, hl with | [_], _ => rfl⟩
    i_eq := ⟨_, _, F47, a47, i47, C8.Fun.binds F47 rfl fun _ _ _ _ _ _ us hl => match us, hl with | [_, _], _ => rfl⟩
    i_neg := ⟨_, _, F46, a46, i46, C8.Fun.binds F46 rfl fun _ _ _ _ _ _ us hl => match us, hl with | [_], _ => rfl⟩
    i_add := ⟨_, _, F45, a45, i45, C8.Fun.binds F45 rfl fun _ _ _ _ _ _ us hl => match us, hl with | [_, _], _ => rfl⟩
    o_first := oF
    q_ha := qa
    q_hn := qn
    q_ht := qt
    q_hm := qm
    k_origins := ⟨_, _, ⟨F24, PySem.W.mg_of X G a24, k24⟩, kb2 F24 rfl fun _ _ _ _ _ _ _ _ => rfl⟩ }
  have e := hfa.symm.trans (PySem.W.mg_of X G a41)
  cases e
  exact ⟨_, fun s v => .of_eq rfl, fun base _ _ => ok_law T F41⟩
theorem walk {l : PySem.W.OpenLaw} {q : Program} {loose : List Str} {XP : (Str → Option Value) → Heap → Prop} {YP : World → Heap → Prop} {d : DefRec} {K : Params → PySem.W.Frag} (hn : l.most = some 63) (hdf : d.params.defaults = [])
    (hY : ∀ (w : World) (h : Heap), YP w h → (K w.params).In h)
    (F : ∀ (w : World) (mg : Str → Option Value) (fa : Addr) (h : Heap), (K w.params).In h → h.Ns mainGlobals mg → mg d.name = some (.ref fa) →
      ∃ fd : FuncData, (∀ (s : Shared) (u : Value), BindsTo s fd ⟨[u], []⟩ [("_law_script", u)]) ∧ ∀ base : Heap, (K w.params).In base → base.Ns mainGlobals mg → FnQ NoG l.prog w (K w.params) mg base 12 fa fd ["_law_script"] (sp_law (K w.params))) :
    PySem.W.WalkO q loose XP YP l.row.toRowW d [] (fun f vs => PySem.call f vs) :=
  walkQ (n := 63) (x := "_law_script") (sp := fun K => sp_law K) hn (by decide) hdf ⟨rfl, by decide, by decide⟩ hY F fun K G a ns hl hS => ⟨a, ns, rfl, hS, hl, fun _ => rfl⟩
end LL

open PySem PySem.W PyProof.Rows in
set_option maxRecDepth 100000 in
set_option maxHeartbeats 0 in
theorem PySem.Challenge.cw_lanelots_k14_whole_origins_holds : PySem.Challenge.rw_lanelots_k14_whole_origins.Holds := by
  w_on; o_law; k_head; (case hw => w_witness2)
  k_fill
  refine LL.walk (l := PySem.Challenge.rw_lanelots_k14_whole_origins) rfl rfl (fun w h Y => PySem.W.kIn_of Y) ?F
  case F =>
    intro w mg fa h KX G hmg
    refine' LL.all_mk KX G hmg ?z_abs ?z_all ?z_bool ?z_divmod ?z_enumerate ?z_int ?z_isinstance ?z_len ?z_list ?z_max ?z_min ?z_range ?z_repr ?z_sorted ?z_str ?z_tuple ?z_zip ?a1 ?l1 ?c1 ?k1 ?a2 ?l2 ?c2 ?k2 ?a3 ?l3 ?c3 ?k3 ?a4 ?l4 ?c4 ?k4 ?a5 ?l5 ?c5 ?k5 ?a6 ?l6 ?c6 ?k6 ?a7 ?l7 ?c7 ?k7 ?a8 ?l8 ?c8 ?k8 ?a9 ?l9 ?c9 ?k9 ?a10 ?l10 ?c10 ?k10 ?a11 ?l11 ?c11 ?k11 ?a12 ?l12 ?c12 ?k12 ?a13 ?l13 ?c13 ?k13 ?a14 ?l14 ?c14 ?k14 ?a15 ?l15 ?c15 ?k15 ?a16 ?l16 ?c16 ?k16 ?a17 ?l17 ?c17 ?k17 ?a18 ?l18 ?c18 ?k18 ?a19 ?l19 ?c19 ?k19 ?a20 ?l20 ?c20 ?k20 ?a21 ?l21 ?c21 ?k21 ?a22 ?l22 ?c22 ?k22 ?a23 ?l23 ?c23 ?k23 ?a24 ?l24 ?c24 ?k24 ?a25 ?l25 ?c25 ?k25 ?a26 ?l26 ?c26 ?k26 ?a27 ?l27 ?c27 ?k27 ?a28 ?l28 ?c28 ?k28 ?a29 ?l29 ?c29 ?k29 ?a30 ?l30 ?c30 ?k30 ?a31 ?l31 ?c31 ?k31 ?a32 ?l32 ?c32 ?k32 ?a33 ?l33 ?c33 ?k33 ?a34 ?l34 ?c34 ?k34 ?a35 ?l35 ?c35 ?k35 ?a36 ?l36 ?c36 ?k36 ?a37 ?l37 ?c37 ?k37 ?a38 ?l38 ?c38 ?k38 ?a39 ?l39 ?c39 ?k39 ?a40 ?l40 ?c40 ?k40 ?a41 ?l41 ?c41 ?k41 ?aC ?pg ?hd ?po ?sa ?mk ?kc ?nL ?nG ?rd ?ga ?vM ?vA ?vT ?lT ?qa ?qn ?qt ?qm ?oF ?a42 ?l42 ?c42 ?i42 ?lD ?k42 ?a43 ?l43 ?c43 ?i43 ?k43 ?a44 ?l44 ?c44 ?i44 ?n44 ?a45 ?l45 ?c45 ?i45 ?a46 ?l46 ?c46 ?i46 ?a47 ?l47 ?c47 ?i47 ?a48 ?l48 ?c48 ?i48 ?k48 ?a49 ?r49' ?l49 ?c49 ?g49 ?t49 ?a50 ?r50' ?l50 ?c50 ?g50 ?t50
    (case z_abs => k_is)
    (case z_all => k_is)
    (case z_bool => k_is)
    (case z_divmod => k_is)
    (case z_enumerate => k_is)
    (case z_int => k_is)
    (case z_isinstance => k_is)
    (case z_len => k_is)
    (case z_list => k_is)
    (case z_max => k_is)
    (case z_min => k_is)
    (case z_range => k_is)
    (case z_repr => k_is)
    (case z_sorted => k_is)
    (case z_str => k_is)
    (case z_tuple => k_is)
    (case z_zip => k_is)
    (case a1 => k_is)
    (case l1 => k_is)
    (case c1 => k_is)
    (case k1 => k_is)
    (case a2 => k_is)
    (case l2 => k_is)
    (case c2 => k_is)
    (case k2 => k_is)
    (case a3 => k_is)
    (case l3 => k_is)
    (case c3 => k_is)
    (case k3 => k_is)
    (case a4 => k_is)
    (case l4 => k_is)
    (case c4 => k_is)
    (case k4 => k_is)
    (case a5 => k_is)
    (case l5 => k_is)
    (case c5 => k_is)
    (case k5 => k_is)
    (case a6 => k_is)
    (case l6 => k_is)
    (case c6 => k_is)
    (case k6 => k_is)
    (case a7 => k_is)
    (case l7 => k_is)
    (case c7 => k_is)
    (case k7 => k_is)
    (case a8 => k_is)
    (case l8 => k_is)
    (case c8 => k_is)
    (case k8 => k_is)
    (case a9 => k_is)
    (case l9 => k_is)
    (case c9 => k_is)
    (case k9 => k_is)
    (case a10 => k_is)
    (case l10 => k_is)
    (case c10 => k_is)
    (case k10 => k_is)
    (case a11 => k_is)
    (case l11 => k_is)
    (case c11 => k_is)
    (case k11 => k_is)
    (case a12 => k_is)
    (case l12 => k_is)
    (case c12 => k_is)
    (case k12 => k_is)
    (case a13 => k_is)
    (case l13 => k_is)
    (case c13 => k_is)
    (case k13 => k_is)
    (case a14 => k_is)
    (case l14 => k_is)
    (case c14 => k_is)
    (case k14 => k_is)
    (case a15 => k_is)
    (case l15 => k_is)
    (case c15 => k_is)
    (case k15 => k_is)
    (case a16 => k_is)
    (case l16 => k_is)
    (case c16 => k_is)
    (case k16 => k_is)
    (case a17 => k_is)
    (case l17 => k_is)
    (case c17 => k_is)
    (case k17 => k_is)
    (case a18 => k_is)
    (case l18 => k_is)
    (case c18 => k_is)
    (case k18 => k_is)
    (case a19 => k_is)
    (case l19 => k_is)
    (case c19 => k_is)
    (case k19 => k_is)
    (case a20 => k_is)
    (case l20 => k_is)
    (case c20 => k_is)
    (case k20 => k_is)
    (case a21 => k_is)
    (case l21 => k_is)
    (case c21 => k_is)
    (case k21 => k_is)
    (case a22 => k_is)
    (case l22 => k_is)
    (case c22 => k_is)
    (case k22 => k_is)
    (case a23 => k_is)
    (case l23 => k_is)
    (case c23 => k_is)
    (case k23 => k_is)
    (case a24 => k_is)
    (case l24 => k_is)
    (case c24 => k_is)
    (case k24 => k_is)
    (case a25 => k_is)
    (case l25 => k_is)
    (case c25 => k_is)
    (case k25 => k_is)
    (case a26 => k_is)
    (case l26 => k_is)
    (case c26 => k_is)
    (case k26 => k_is)
    (case a27 => k_is)
    (case l27 => k_is)
    (case c27 => k_is)
    (case k27 => k_is)
    (case a28 => k_is)
    (case l28 => k_is)
    (case c28 => k_is)
    (case k28 => k_is)
    (case a29 => k_is)
    (case l29 => k_is)
    (case c29 => k_is)
    (case k29 => k_is)
    (case a30 => k_is)
    (case l30 => k_is)
    (case c30 => k_is)
    (case k30 => k_is)
    (case a31 => k_is)
    (case l31 => k_is)
    (case c31 => k_is)
    (case k31 => k_is)
    (case a32 => k_is)
    (case l32 => k_is)
    (case c32 => k_is)
    (case k32 => k_is)
    (case a33 => k_is)
    (case l33 => k_is)
    (case c33 => k_is)
    (case k33 => k_is)
    (case a34 => k_is)
    (case l34 => k_is)
    (case c34 => k_is)
    (case k34 => k_is)
    (case a35 => k_is)
    (case l35 => k_is)
    (case c35 => k_is)
    (case k35 => k_is)
    (case a36 => k_is)
    (case l36 => k_is)
    (case c36 => k_is)
    (case k36 => k_is)
    (case a37 => k_is)
    (case l37 => k_is)
    (case c37 => k_is)
    (case k37 => k_is)
    (case a38 => k_is)
    (case l38 => k_is)
    (case c38 => k_is)
    (case k38 => k_is)
    (case a39 => k_is)
    (case l39 => k_is)
    (case c39 => k_is)
    (case k39 => k_is)
    (case a40 => k_is)
    (case l40 => k_is)
    (case c40 => k_is)
    (case k40 => k_is)
    (case a41 => k_is)
    (case l41 => k_is)
    (case c41 => k_is)
    (case k41 => k_is)
    (case aC => k_is)
    (case pg => k_is)
    (case hd => k_is)
    (case po => k_is)
    (case sa => k_is)
    (case mk => k_is)
    (case kc => k_is)
    (case nL => k_is)
    (case nG => k_is)
    (case rd => k_is)
    (case ga => k_is)
    (case vM => k_is)
    (case vA => k_is)
    (case vT => k_is)
    (case lT => k_is)
    (case qa => k_is)
    (case qn => k_is)
    (case qt => k_is)
    (case qm => k_is)
    (case oF => k_is)
    (case a42 => k_is)
    (case l42 => k_is)
    (case c42 => k_is)
    (case i42 => k_is)
    (case lD => k_is)
    (case k42 => k_is)
    (case a43 => k_is)
    (case l43 => k_is)
    (case c43 => k_is)
    (case i43 => k_is)
    (case k43 => k_is)
    (case a44 => k_is)
    (case l44 => k_is)
    (case c44 => k_is)
    (case i44 => k_is)
    (case n44 => k_is)
    (case a45 => k_is)
    (case l45 => k_is)
    (case c45 => k_is)
    (case i45 => k_is)
    (case a46 => k_is)
    (case l46 => k_is)
    (case c46 => k_is)
    (case i46 => k_is)
    (case a47 => k_is)
    (case l47 => k_is)
    (case c47 => k_is)
    (case i47 => k_is)
    (case a48 => k_is)
    (case l48 => k_is)
    (case c48 => k_is)
    (case i48 => k_is)
    (case k48 => k_is)
    (case a49 => k_is)
    (case r49' => k_is)
    (case l49 => k_is)
    (case c49 => k_is)
    (case g49 => k_is)
    (case t49 => k_is)
    (case a50 => k_is)
    (case r50' => k_is)
    (case l50 => k_is)
    (case c50 => k_is)
    (case g50 => k_is)
    (case t50 => k_is)
