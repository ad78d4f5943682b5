import PyProof.Rows.All
import Wide.All
import OpenK.AllK
import Wide.FinOn
import HandS.ForMost
import HandS.IsInst
import HandS.Property
import HandS.OwnEq
import HandS.Star
import HandS.ClsMeth
import HandS.Codes
import HandS.Zip
import HandS.WideBits
import HandS.Evl
import HandS.Defaults
import HandS.Strs
import HandS.Walk
import HandS.Style
import HandS.FStr
import KE.KOpsOwn
import HandS.FStrTup
import PySem.Challenge.RW_lanelots_k15_whole_rounds
set_option Elab.async false
set_option linter.all false
set_option maxRecDepth 100000
set_option maxHeartbeats 4000000
namespace LL
open PySem L2 PySem.Spec PyProof.Rows
/-! ### promises that hold where no guard stands (or a known one) -/
/-- what is promised of a def, wherever Γ holds of what is under way -/
structure FnQ (Γ : Around → Prop) (P : Program) (w : World) (K : PySem.W.Frag) (mg : Str → Option Value) (base : Heap) (k : Nat) (f : Addr) (fd : FuncData) (ps : List Str) (sp : Sp) : Prop where
  cnt : ∀ xs G R J, sp xs G R J → xs.length = ps.length
  go : ∀ (B : Around) (envs : List Env) (t : Shared) (G : Hp) (ar : Args) (is : List Value) (xs : List V) (R : VK) (J : XK), Room k B → Γ B → Env0 P w K mg base B envs t G → BindsTo t fd ar (ps.zip is) → Vals xs is → sp xs G R J →
    codeAny (model P w) B (.call (.ref f) ar) (CR C8.CX0 envs P w G t R J) t
abbrev NoG (A : Around) : Prop := A.guards = some []
section
variable {Γ : Around → Prop} {P : Program} {w : World} {K : PySem.W.Frag} {mg : Str → Option Value} {base : Heap}
theorem fnQ0 (hΓ : ∀ A env, Γ A → Γ (A.deeper env)) {x qual : Str} {st : Stmt} {f : Addr} {fd : FuncData} {N ps : List Str} {k : Nat} {sp : Sp} (F : C8.Fun K x qual st f fd) (S : FnScope N ps (C8.fnScope st)) (cnt : ∀ xs G R J, sp xs G R J → xs.length = ps.length)
    (body : ∀ (cdv : Value) (B : Around) (envs : List Env) (t : Shared) (G : Hp) (xs : List V) (R : VK) (J : XK), Room k (B.deeper (envOfC qual (C8.fnScope st) t.heap.objs.size f cdv)) → Γ (B.deeper (envOfC qual (C8.fnScope st) t.heap.objs.size f cdv)) → sp xs G R J →
      ∃ u, PSs (cxOf C8.CX0 P w K mg base N qual (C8.fnScope st) f cdv B envs t G J).nox (C8.fnBody st) u ∧ u { nx := fun _ G' => R .non G', rt := R } (start N xs) G) : FnQ Γ P w K mg base (k + 1) f fd ps sp := by
  obtain ⟨oc, od, dV, kV, doc, pm, an, cdv, ct, osl, rfl, lk, hc⟩ := F.ex
  refine ⟨cnt, fun B envs t G ar is xs R J rm hB e0 hb r hs => ?_⟩
  have inK : K.In t.heap := e0.mod.kin.keeps fun b o e => (e0.bs b o e).1
  have free : t.heap.NoLimit := e0.mod.nolimit.keeps fun b o e => (e0.bs b o e).1
  refine codeAny_call_function rm.depth (inK _ _ lk) rfl S.co S.gen rfl (PySem.W.codeRec_of inK hc) (hb _ _ _ _ (wpAny_newFunctionEnv_cells S.kind (fun ⟨n, v⟩ hy => ?_) fun env he s1 z => ?_))
  · exact (S.par n (List.of_mem_zip hy).1).elim .inl fun q => .inr ⟨q, PySem.W.cellsFrom_some _ _ _ (.inl q)⟩
  subst he
  obtain ⟨u, hu, hq⟩ := body cdv B envs t G xs R J (rm.deeper _) (hΓ _ _ hB) hs
  refine ⟨free.keeps z.toInCall.keep, codeAny_func (wpAny_mono (hu.nox.run [] s1 (start N xs) G _ (inv_start S rm.hd e0 (cnt _ _ _ _ hs) r z) hq) (fun fl s' q => ?_) fun _ _ q => q)⟩
  cases fl with
  | brk => exact (q.choose_spec.choose_spec.2).elim
  | cont => exact (q.choose_spec.choose_spec.2).elim
  | next =>
    obtain ⟨_, G', I, q⟩ := q
    exact ⟨V.non, G', I.os, I.bare, I.base, I.hok, rfl, q⟩
  | ret v =>
    obtain ⟨v', _, G', I, rv, q⟩ := q
    exact ⟨v', G', I.os, I.bare, I.base, I.hok, rv, q⟩
theorem fnQ_of {k : Nat} {f : Addr} {fd : FuncData} {ps : List Str} {sp : Sp} (F : FnOk P w K mg base C8.CX0 k f fd ps sp) : FnQ Γ P w K mg base k f fd ps sp :=
  ⟨F.len, fun B envs t G ar is xs R J rm _ e0 hb r hs => F.run B envs t G ar is xs R J rm e0 hb r hs⟩
/-- a def of the module that is promised so -/
structure CalQ (Γ : Around → Prop) (P : Program) (w : World) (K : PySem.W.Frag) (mg : Str → Option Value) (base : Heap) (k : Nat) (x : Str) (sp : Sp) : Prop where
  ex : ∃ (f : Addr) (fd : FuncData) (ps : List Str), FnQ Γ P w K mg base k f fd ps sp ∧ mg x = some (.ref f) ∧ PySem.W.keepIn K (.ref f) = true ∧ Binds K fd ps []
end
section
variable {Γ : Around → Prop} {X : Cx} {k j : Nat} {x : Str} {sp : Sp} {f : Addr} {fd : FuncData} {ps : List Str} {p pos : Pos} {e : Expr} {es : List Expr} {t : TA}
theorem runQ {pins : List (Addr × Obj)} {σ : L2.St} {G : Hp} {s : Shared} {R : VK} {is : List Value} {xs : List V} (F : FnQ Γ X.prog X.w X.K X.mg X.base k f fd ps sp) (rm : Room k X.A) (hA : Γ X.A) (hb : Binds X.K fd ps []) (I : Inv X pins σ G s) (r : Vals xs is) (hs : sp xs G R C8.E0) :
    wpAny (model X.prog X.w) X.A (call (.ref f) is) (EP X pins σ R) X.xe s := by
  have hl : (is ++ []).length = ps.length := by rw [List.append_nil, ← r.length]; exact F.cnt _ _ _ _ hs
  have b := hb s is I.kIn hl
  rw [List.append_nil] at b
  refine wpAny_call (codeAny_mono (F.go X.A X.stack s G ⟨is, []⟩ is xs R C8.E0 rm hA I.env0 b r hs) fun z s' q => ?_)
  match z, q with
  | .error _, q => exact q.elim
  | .ok (.ret v), q => exact I.after q
theorem pe_cQ (c : CalQ Γ X.prog X.w X.K X.mg X.base k x sp) (rm : Room j X.A) (hk : k ≤ j) (hA : Γ X.A) (hg : Gl X x) (ha : PA X (e :: es) t)
    (hdb : (x == ("__debug__" : Str)) = false := by decide) (he : starEach (e :: es) X.env = (false, eval e X.env) :: starEach es X.env := by rfl) (hpl : (backTo pos (starEach es X.env)).any (·.1) = false := by rfl) :
    PE X (.Call (.Name x p) (e :: es) [] pos) (tCall sp [] C8.E0 t) := by
  obtain ⟨f, fd, ps, F, hm, kp, b⟩ := c.ex
  refine ⟨fun pins s σ G R I h => wpAny_Call_Name_kw (ld_glob I hg hm ?_ hdb)⟩
  refine PySem.W.callWith_K (h₀ := X.base) I.ok.mod.kin kp (thn (ha.run pos pins s σ G _ I h) fun is s1 ⟨xs, G1, I1, r, q⟩ => ⟨I1.kIn, ?_⟩) he hpl
  have q' : sp (xs ++ []) G1 R C8.E0 := q
  rw [List.append_nil] at q'
  exact runQ F (rm.mono hk) hA b I1 r q'
end
theorem noG_deep (A : Around) (env : Env) (h : NoG A) : NoG (A.deeper env) := h
/-! ### the end of a law whose promise is of that kind -/
section
variable {P : Program} {w : World} {K : PySem.W.Frag} {mg mb : Str → Option Value} {k : Nat} {fa a : Addr} {fd : FuncData} {x : Str} {sp : Sp} {t : Shared} {vs : List Value} {ns : List Int}
/-- the one object that may be known at the entry: the script -/
def one (a : Addr) (o : HO) : Hp := fun b => if b = a then some o else none
theorem one_at {a : Addr} {o : HO} : one a o a = some o := if_pos rfl
theorem one_ne {a b : Addr} {o : HO} (n : b ≠ a) : one a o b = none := if_neg n
theorem entryQ (inK : K.In t.heap) (hns : t.heap.Ns mainGlobals mg) (hb : t.heap.Ns builtinsNs mb) (hbb : ∀ x : Str, x ≠ "__name__" → mb x = bootBuiltins x) (free : t.heap.NoLimit) (hg : t.gens = #[]) (rm : Room k callerA)
    (F : ∀ base : Heap, K.In base → base.Ns mainGlobals mg → FnQ NoG P w K mg base k fa fd [x] sp) (bd : ∀ (s : Shared) (u : Value), BindsTo s fd ⟨[u], []⟩ [(x, u)])
    {G : Hp} (only : Only G) (ok : HOk P w G t.heap) (hs : sp [.ref a] G (fun v _ => v = .bl true) C8.E0) (ob : ∃ v : Value, ∃ dx : Array Value, ∃ n, v = .ref a ∧ (∀ b, G b ≠ none → b = a) ∧ t.heap.get? a = some { cls := .type "list", data := .seq dx n }) (off : G a ≠ none → K.lookup a = none) :
    codeAny (model P w) callerA (.call (.ref fa) ⟨[.ref a], []⟩) (fun r s' => r = .ok (.ret (.bool true)) ∧ OldK t.heap s'.heap ∧ s'.os = t.os ∧ AllBare s'.gens) t := by
  obtain ⟨_, dx, n, _, un, ha⟩ := ob
  have stays : ∀ {b o}, t.heap.get? b = some o → G b = none → (hidT t.heap G).get? b = some o := fun e h => hidT_get e h
  have away : ∀ {b : Addr} {m : Str → Option Value}, t.heap.Ns b m → (hidT t.heap G).Ns b m := fun {b m} ⟨o, es, ep, e, d, r⟩ => by
    refine ⟨o, es, ep, stays e ?_, d, r⟩
    match q : G b with
    | none => rfl
    | some u =>
      obtain rfl : b = a := un b (by rw [q]; exact nofun)
      rw [ha] at e
      cases e
      cases d
  have inB : K.In (hidT t.heap G) := fun b o e => by
    refine stays (inK b o e) ?_
    match q : G b with
    | none => rfl
    | some u =>
      obtain rfl : b = a := un b (by rw [q]; exact nofun)
      rw [off (by rw [q]; exact nofun)] at e
      cases e
  obtain ⟨mc, f1, f2⟩ := free
  have md : Mod K mg (hidT t.heap G) := ⟨inB, away hns, ⟨mb, away hb, hbb⟩, mc, away f1, f2⟩
  have env : Env0 P w K mg (hidT t.heap G) callerA [] t G := ⟨rfl, md, fun b o e => of_hidT e, Nat.le_of_eq (hidT_size _ _), trivial, (fun b h => by cases h), ok, .of_eq hg⟩
  refine codeAny_mono ((F _ inB (away hns)).go callerA [] t G ⟨[.ref a], []⟩ [.ref a] [.ref a] _ _ rm rfl env (bd t (.ref a)) (.cons rfl .nil) hs) fun r s' h => ?_
  match r, h with
  | .error _, h => exact h.elim
  | .ok (.ret u), h =>
    obtain ⟨v, G', os, bare, un', ok', rv, q⟩ := h
    obtain rfl : v = .bl true := q
    obtain rfl : u = Value.bool true := rv
    refine ⟨rfl, OldK.of_keep fun b o e => ?_, os, bare⟩
    rcases only b with z | ⟨ob, xs, z⟩
    · exact un'.keep b o e z (fun h => by cases h) (fun h => by cases h)
    · obtain ⟨e1, _⟩ := ok b _ z
      obtain ⟨e2, _⟩ := ok' b _ (un'.frzs b ob _ z)
      rw [e] at e1
      cases e1
      exact e2
theorem entryQ' (inK : K.In t.heap) (hns : t.heap.Ns mainGlobals mg) (hb : t.heap.Ns builtinsNs mb) (hbb : ∀ x : Str, x ≠ "__name__" → mb x = bootBuiltins x) (free : t.heap.NoLimit) (hg : t.gens = #[]) (rm : Room k callerA)
    (F : ∀ base : Heap, K.In base → base.Ns mainGlobals mg → FnQ NoG P w K mg base k fa fd [x] sp) (bd : ∀ (s : Shared) (u : Value), BindsTo s fd ⟨[u], []⟩ [(x, u)])
    (ha : t.heap.get? a = some { cls := .type "list", data := .seq vs.toArray }) (hi : IntsAre vs ns) (hl : ns.length ≤ sizeLine) (hs : ∀ G : Hp, SqL K G a (ns.map V.int) → sp [.ref a] G (fun v _ => v = .bl true) C8.E0) :
    codeAny (model P w) callerA (.call (.ref fa) ⟨[.ref a], []⟩) (fun r s' => r = .ok (.ret (.bool true)) ∧ OldK t.heap s'.heap ∧ s'.os = t.os ∧ AllBare s'.gens) t := by
  match hk : K.lookup a with
  | some o =>
    have e := inK a o hk
    rw [ha] at e
    cases e
    exact entryQ inK hns hb hbb free hg rm F bd (G := fun _ => none) (fun _ => .inl rfl) (fun b u z => by cases z) (hs _ (.inr ⟨_, vs.toArray, _, hk, rfl, rfl, rfl, by rw [List.size_toArray, hi.length]; exact hl, vals_ints hi⟩)) ⟨_, _, _, rfl, fun b z => absurd rfl z, ha⟩ fun z => absurd rfl z
  | none =>
    refine entryQ inK hns hb hbb free hg rm F bd (G := one a (.frz { cls := .type "list", data := .seq vs.toArray } (.lst (ns.map V.int)))) (fun b => ?_) (fun b u z => ?_) (hs _ (.inl (.inr ⟨_, one_at⟩))) ⟨_, _, _, rfl, fun b z => ?_, ha⟩ fun _ => hk
    · by_cases h : b = a
      · exact .inr ⟨_, _, by rw [h]; exact one_at⟩
      · exact .inl (one_ne h)
    · by_cases h : b = a
      · subst h
        obtain rfl := Option.some.inj (one_at.symm.trans z)
        exact ⟨ha, by rw [List.length_map]; exact hl, vs, _, vals_ints hi, ha⟩
      · rw [one_ne h] at z
        cases z
    · by_cases h : b = a
      · exact h
      · exact absurd (one_ne h) z
end
theorem walkQ {l : PySem.W.OpenLaw} {n k : Nat} {q : Program} {loose : List Str} {XP : (Str → Option Value) → Heap → Prop} {YP : World → Heap → Prop} {d : DefRec} {K : Params → PySem.W.Frag} {sp : PySem.W.Frag → Sp} {x : Str} (hn : l.most = some n) (hn2 : n ≤ sizeLine) (hdf : d.params.defaults = []) (rm : Room k callerA)
    (hY : ∀ (w : World) (h : Heap), YP w h → (K w.params).In h)
    (F : ∀ (w : World) (mg : Str → Option Value) (fa : Addr) (h : Heap), (K w.params).In h → h.Ns mainGlobals mg → mg d.name = some (.ref fa) →
      ∃ fd : FuncData, (∀ (s : Shared) (u : Value), BindsTo s fd ⟨[u], []⟩ [(x, u)]) ∧ ∀ base : Heap, (K w.params).In base → base.Ns mainGlobals mg → FnQ NoG l.prog w (K w.params) mg base k fa fd [x] (sp (K w.params)))
    (hs : ∀ (K : PySem.W.Frag) (G : Hp) (a : Addr) (ns : List Int), ns.length ≤ n → SqL K G a (ns.map V.int) → sp K [.ref a] G (fun v _ => v = .bl true) C8.E0) :
    PySem.W.WalkO q loose XP YP l.row.toRowW d [] (fun f vs => PySem.call f vs) :=
  Att.attach_call hn hdf fun w s₀ t mg mb fa o pm cd doc a vs ns G Y _ _ _ hm ho hi hl hg => by
    obtain ⟨fd, bd, hF⟩ := F w mg fa _ (hY w _ Y) G.T.g hm
    exact entryQ' (hY w _ Y) G.T.g G.T.b G.T.builtins G.T.nolimit hg rm hF bd ho hi (Nat.le_trans hl hn2) fun G hS => hs _ G a ns hl hS
end LL

namespace LL
open PySem L2 PySem.Spec PyProof.Rows
/-! ### item by item -/
def All2 {α β : Type} (R : α → β → Prop) (xs : List α) (ys : List β) : Prop := xs.length = ys.length ∧ ∀ (i : Nat) (x : α) (y : β), xs[i]? = some x → ys[i]? = some y → R x y
theorem All2.mono {α β : Type} {R S : α → β → Prop} {xs : List α} {ys : List β} (h : ∀ x y, R x y → S x y) (a : All2 R xs ys) : All2 S xs ys := ⟨a.1, fun i x y h1 h2 => h x y (a.2 i x y h1 h2)⟩
theorem All2.get {α β : Type} {R : α → β → Prop} {xs : List α} {ys : List β} {i : Nat} {x : α} (a : All2 R xs ys) (h : xs[i]? = some x) : ∃ y, ys[i]? = some y ∧ R x y := by
  have hl := (List.getElem?_eq_some_iff.mp h).1
  rw [a.1] at hl
  exact ⟨ys[i], List.getElem?_eq_getElem hl, a.2 i x _ h (List.getElem?_eq_getElem hl)⟩
theorem All2.get' {α β : Type} {R : α → β → Prop} {xs : List α} {ys : List β} {i : Nat} {y : β} (a : All2 R xs ys) (h : ys[i]? = some y) : ∃ x, xs[i]? = some x ∧ R x y := by
  have hl := (List.getElem?_eq_some_iff.mp h).1
  rw [← a.1] at hl
  exact ⟨xs[i], List.getElem?_eq_getElem hl, a.2 i _ y (List.getElem?_eq_getElem hl) h⟩
theorem All2.nil {α β : Type} {R : α → β → Prop} : All2 R [] [] := ⟨rfl, fun i x y h _ => by simp at h⟩
theorem All2.snoc {α β : Type} {R : α → β → Prop} {xs : List α} {ys : List β} {x : α} {y : β} (a : All2 R xs ys) (h : R x y) : All2 R (xs ++ [x]) (ys ++ [y]) := by
  refine ⟨by rw [List.length_append, List.length_append, a.1]; rfl, fun i u v h1 h2 => ?_⟩
  rcases Nat.lt_trichotomy i xs.length with hi | hi | hi
  · rw [List.getElem?_append_left hi] at h1
    rw [List.getElem?_append_left (by rw [← a.1]; exact hi)] at h2
    exact a.2 i u v h1 h2
  · subst hi
    rw [List.getElem?_concat_length] at h1
    rw [a.1, List.getElem?_concat_length] at h2
    rw [← Option.some.inj h1, ← Option.some.inj h2]
    exact h
  · rw [List.getElem?_eq_none (by rw [List.length_append, List.length_singleton]; omega)] at h1
    cases h1
end LL

namespace LL
open PySem L2 PySem.Spec PyProof.Rows
/-! ### repr(..) of data -/
section
variable {X : Cx}
def rRepr (K : PySem.W.Frag) : List V → Hp → VK → Prop := fun xs H Q => ∃ (a : Addr) (d : PyData), xs = [V.ref a] ∧ Dp K H (.ref a) d ∧ d.showable = true ∧ d.hasDict = false ∧ d.depth ≤ 60 ∧ d.shown.length ≤ sizeLine ∧ Q (.str d.shown) H
theorem call_repr (hg : NoG X.A) (hu : X.A.units + 100 < cLine) : CallR X (.builtin "repr") (rRepr X.K) := by
  intro pins s σ H xs us Q I r h
  obtain ⟨a, d, rfl, hd, h1, h2, h3, h4, q⟩ := h
  obtain ⟨u, rfl, ru⟩ := vals1 r
  cases ru
  obtain ⟨as, hr⟩ := Dp.reads I d _ _ hd rfl
  exact repr_of_reads' (h₀ := s.heap) hr h1 (fun z => absurd (h2.symm.trans z) nofun) hg (by omega) (fun _ _ e => e) (fun h' u tk hk => ⟨.str _, H, I.kept hk, ⟨u, rfl⟩, q⟩) h4
/-! ### what is no data -/
/-- a list in which an object of a class stands -/
def Odd (H : Hp) (a : Addr) : Prop := ∃ p C dx fs xs, H a = some (.lst xs) ∧ V.ref p ∈ xs ∧ H p = some (.ins C dx fs)
theorem readsAll_mem {h : Heap} {v : Value} : ∀ {l : List Value} {ds : List PyData} {as : List Addr}, ReadsAll h l ds as → v ∈ l → ∃ d bs, Reads h v d bs
  | _, _, _, .cons r rs, hv => (List.mem_cons.mp hv).elim (fun e => ⟨_, _, e ▸ r⟩) fun e => readsAll_mem rs e
theorem vals_mem {p : Addr} : ∀ {xs : List V} {its : List Value}, Vals xs its → V.ref p ∈ xs → Value.ref p ∈ its
  | _, _, .cons r rs, hv => (List.mem_cons.mp hv).elim (fun e => by
      subst e
      cases r
      exact List.mem_cons_self) fun e => List.mem_cons_of_mem _ (vals_mem rs e)
theorem odd_reads {pins : List (Addr × Obj)} {σ : L2.St} {H : Hp} {s : Shared} (I : Inv X pins σ H s) {a : Addr} (o : Odd H a) {d : PyData} {as : List Addr} (r : Reads s.heap (.ref a) d as) : False := by
  obtain ⟨p, C, dx, fs, xs, ha, hm, hp⟩ := o
  obtain ⟨_, its, n, rv, e⟩ := I.hok a _ ha
  obtain ⟨mA, J, _⟩ := ins_get I.hok hp
  obtain ⟨od, J, _⟩ := J.look
  have noP : ∀ {d as}, ¬ Reads s.heap (.ref p) d as := fun r => by
    cases r with
    | list h1 h2 => rw [J.at_] at h1; cases h1; rw [J.cls] at h2; cases h2
    | tuple h1 h2 => rw [J.at_] at h1; cases h1; rw [J.cls] at h2; cases h2
    | dict h1 h2 => rw [J.at_] at h1; cases h1; rw [J.cls] at h2; cases h2
  cases r with
  | list h1 h2 h3 h4 =>
    rw [e] at h1
    cases h1
    cases h3
    obtain ⟨d, bs, q⟩ := readsAll_mem h4 (vals_mem rv hm)
    exact noP q
  | tuple h1 h2 => rw [e] at h1; cases h1; injection h2 with z; exact absurd z (by decide)
  | dict h1 h2 => rw [e] at h1; cases h1; injection h2 with z; exact absurd z (by decide)
/-! ### a list that is under way -/
/-- the list at a, and nothing else, is being told -/
def Und (a : Addr) (A : Around) : Prop := ∃ rest kw, A.guards = some [.builtin "list.__repr__.loop" ⟨.ref a :: rest, kw⟩]
theorem und_deep (a : Addr) (A : Around) (env : Env) (h : Und a A) : Und a (A.deeper env) := h
theorem clear_und {a b : Addr} {rest : List Value} {kw : List (Str × Value)} (n : b ≠ a) : Clear [.builtin "list.__repr__.loop" ⟨.ref a :: rest, kw⟩] b := (Clear.nil b).cons fun e => n e.symm
/-- {x} of a list of data, while another list is told -/
def tFmtD (K : PySem.W.Frag) (a : Addr) (te : TE) : TE := fun σ H Q => te σ H fun x H1 => ∃ (l : Addr) (xs : List V) (ds : List PyData), x = .ref l ∧ SqL K H1 l xs ∧ DpAll K H1 xs ds ∧ Odd H1 a ∧ PyData.showableAll ds = true ∧ PyData.hasDictAll ds = false ∧ PyData.depthAll ds ≤ 60 ∧ (listText (PyData.shownAll ds)).length ≤ sizeLine ∧ Q (.str (listText (PyData.shownAll ds))) H1
theorem pe_fmtD {a : Addr} {e : Expr} {te : TE} {pos : Pos} {k : Nat} (hA : Und a X.A) (hr : Room k X.A) (he : PE X e te) : PE X (.FormattedValue e (-1) none pos) (tFmtD X.K a te) := by
  refine ⟨fun pins s σ H Q I h => ?_⟩
  refine wpAny_FormattedValue_plain (thn (he.run pins s σ H _ I h) fun v s1 hv => ?_)
  obtain ⟨x, H1, I1, r1, l, xs, ds, rfl, hl, hd, odd, h1, h2, h3, h4, q⟩ := hv
  cases r1
  obtain ⟨its, rv, ⟨o, n, ho, hc, _, hda⟩, _⟩ := I1.list hl
  obtain ⟨as, hR⟩ := Dp.readsAll I1 ds _ its hd rv
  obtain ⟨rest, kw, hgd⟩ := hA
  have hun := hr.un
  have fin : ∀ (h' : Heap) (u tk : Tok), (∀ b o, s1.heap.get? b = some o → h'.get? b = some o) → ∃ x t, Value.str (listText (PyData.shownAll ds)) u = .str x t ∧ EP X pins σ Q (.str (listText (PyData.shownAll ds)) u) { s1 with heap := h', toks := tk } :=
    fun h' u tk hk => ⟨_, _, rfl, .str _, H1, I1.kept hk, ⟨u, rfl⟩, q⟩
  refine wpAny_formatField_slot (T := "list") (fun _ _ => nofun) (by omega) ⟨o, ho, hc⟩ F.slot_list_format F.slot_list_str F.slot_list_repr.toG ?_
  obtain ⟨bs, hb, hk⟩ := ReprAllK.of_readsAll (prog := X.prog) (w := X.w) hR h1 (fun z => absurd (h2.symm.trans z) nofun) (fun t ht => Nat.le_trans (listText_mem_le ht) h4)
  have hR' := Reads.list ho hc hda (by simpa using hR)
  have hna : l ∉ bs := not_mem_of_deeper hR' (by simp only [PyData.depth]; omega) hb
  cases its with
  | nil =>
    cases hR
    simp only [PyData.shownAll, listText_nil] at fin ⊢
    exact call_list_repr_empty (s := { s1 with toks := s1.toks + 1 }) ⟨o, ho, hc⟩ ho hda (fin s1.heap _ _ fun _ _ e => e)
  | cons y its =>
    refine call_list_reprK (s := { s1 with toks := s1.toks + 1 }) (g := [.builtin "list.__repr__.loop" ⟨.ref a :: rest, kw⟩]) (h₀ := s1.heap) ho hc hda hna (by simpa using hk.length_eq) (fun i y e => hk.item i y (by simpa using e)) hgd (fun b hb' => clear_und fun z => ?_) ?_ (fun _ _ e => e) (fun h' u tk hk => fin h' u tk hk) h4
    · subst z
      rcases List.mem_cons.mp hb' with z | z
      · subst z
        exact odd_reads I1 odd hR'
      · obtain ⟨d, as', r, _⟩ := hb _ z
        exact odd_reads I1 odd r
    · show X.A.units + 1 + 1 + _ < cLine
      omega
end
end LL

namespace LL
open PySem L2 PySem.Spec PyProof.Rows PySem.Builtin PySem.Builtin.List
/-! ### what stands in a list that is told -/
/-- x is told as t, while the list at a is under way -/
def Tells (X : Cx) (n : Nat) (a : Addr) (D : V → Str → Hp → Prop) : Prop :=
  ∀ (B : Around) (pins : List (Addr × Obj)) (s : Shared) (σ : L2.St) (G : Hp) (x : V) (t : Str) (u : Value) (c : Nat), Room n B → B.frames = X.A.frames → Und a B → Inv X pins σ G s → RelV x u → D x t G → Odd G a → c + t.length ≤ sizeLine →
    wpAny (model X.prog X.w) B (pyReprUnder c u) (fun t' s' => t' = t ∧ ∃ G', Inv X pins σ G' s' ∧ Ext G G') X.xe s
/-- as data -/
def TData (K : PySem.W.Frag) : V → Str → Hp → Prop := fun x t G => ∃ d, Dp K G x d ∧ d.showable = true ∧ d.hasDict = false ∧ d.depth ≤ 60 ∧ d.shown.length ≤ sizeLine ∧ t = d.shown
theorem tells_data {X : Cx} {n : Nat} {a : Addr} : Tells X n a (TData X.K) := by
  intro B pins s σ G x t u c rm fr ⟨rest, kw, hB⟩ I ru ⟨d, hd, h1, h2, h3, h4, e⟩ odd hz
  subst e
  obtain ⟨as, r⟩ := Dp.reads I d _ _ hd ru
  obtain ⟨bs, hb, hk⟩ := ReprK.of_reads (prog := X.prog) (w := X.w) r h1 (fun z => absurd (h2.symm.trans z) nofun) h4
  have hun := rm.un
  exact hk c hz B _ _ s _ hB (fun b m => clear_und fun z => by
    subst z
    obtain ⟨d', as', r', _⟩ := hb _ m
    exact odd_reads I odd r') (by omega) (fun _ _ e => e) fun h' tk k => ⟨rfl, G, I.kept k, Ext.rfl'⟩
/-- an object of the class at C, by its own __repr__ -/
def TOwn (C : Addr) (R : Addr → Str → Hp → Prop) : V → Str → Hp → Prop := fun x t G => ∃ p dx fs, x = .ref p ∧ G p = some (.ins C dx fs) ∧ R p t G
def spRepr (a : Addr) (R : Addr → Str → Hp → Prop) : Sp := fun vs G Q _ => ∃ p t, vs = [.ref p] ∧ R p t G ∧ Odd G a ∧ ∀ G', Ext G G' → Q (.str t) G'
theorem byBound {K : PySem.W.Frag} {M : Model} {B : Around} {J : Value → Shared → Prop} {s : Shared} {x C f : Addr} {ox : Obj} {od : Option Obj} {nm : Str} {last : Value → List Value → Sem Value} {Q : Option Value → Shared → Prop} (inK : K.In s.heap) (at_ : PySem.W.InstAt s.heap x ox C od)
    (hs : PySem.W.findIn K (.ref C) nm = some (some (.ref f))) (hf : PySem.W.isFn K (.ref f) = true) (h : wpAny M B (last (.ref f) [.ref x]) (fun v => Q (some v)) J s) : wpAny M B (callSpecialIfBoundBy? last (.ref x) nm) Q J s := by
  have bnd := PySem.W.bind_fn (M := M) inK (.ref x) (beq_iff_eq.mp hf)
  have end_ : wpAny M B (last (.ref f) [.ref x] >>= fun v => pure (some v)) Q J s := wpAny_bind (wpAny_mono h (fun v s' z => wpAny_pure z) fun _ _ z => z)
  simp only [callSpecialIfBoundBy?, bindSpecialIfBound?]
  refine wpAny_holding (wpAny_bind (wpAny_bind (wpAny_bind (at_.type.here ((PySem.W.looks_findIn inK hs).here (wpAny_bind (wpAny_askSetting (wpAny_ite ?_))))))))
  split
  · exact wpAny_bind (bnd.here (wpAny_pure end_))
  · exact wpAny_tryCatch (wpAny_bind (bnd.here (wpAny_pure end_)))
theorem tells_own {X : Cx} {n : Nat} {a C f : Addr} {fd : FuncData} {ps : List Str} {R : Addr → Str → Hp → Prop} (F : FnQ (Und a) X.prog X.w X.K X.mg X.base n f fd ps (spRepr a R)) (hs : PySem.W.findIn X.K (.ref C) "__repr__" = some (some (.ref f))) (hf : PySem.W.isFn X.K (.ref f) = true) (hb : Binds X.K fd ps []) :
    Tells X n a (TOwn C R) := by
  intro B pins s σ G x t u c rm fr hB I ru ⟨p, dx, fs, e, hp, hR⟩ odd hz
  subst e
  cases ru
  obtain ⟨mA, J, _⟩ := ins_get I.hok hp
  obtain ⟨od, J, _⟩ := J.look
  have hun := rm.un
  refine wpAny_pyReprUnder_ref (by omega) ?_
  unfold pyReprObjUnder pyReprObjBy
  refine wpAny_bind (wpAny_cRoomFor (by omega) (wpAny_bind (wpAny_bind (J.type.here ((PySem.W.looks_findIn I.kIn hs).here ?_)))))
  show wpAny _ _ (if (some (Value.ref f)).isNone = true then _ else _) _ _ _
  rw [if_neg (by simp)]
  refine wpAny_bind (byBound I.kIn J hs hf ?_)
  have sp : spRepr a R [.ref p] G (fun v G' => v = .str t ∧ Ext G G') C8.E0 := ⟨p, t, rfl, hR, odd, fun G' e => ⟨rfl, e⟩⟩
  have e0 : Env0 X.prog X.w X.K X.mg X.base B X.stack s G := ⟨fr.trans I.env0.frames, I.env0.mod, I.env0.bs, I.env0.bsz, I.env0.funs, I.env0.frf, I.env0.hok, I.env0.bare⟩
  have bd := hb s [.ref p] I.kIn (by simpa using F.cnt _ _ _ _ sp)
  refine wpAny_call (codeAny_mono (F.go B X.stack s G ⟨[.ref p], []⟩ [.ref p] [.ref p] _ C8.E0 rm hB e0 (by simpa using bd) (.cons rfl .nil) sp) fun z s' q => ?_)
  match z, q with
  | .error _, q => exact q.elim
  | .ok (.ret v), q =>
    obtain ⟨y, G', I', ry, ey, ex⟩ := I.after q
    subst ey
    obtain ⟨tk, rfl⟩ := ry
    exact wpAny_bind (wpAny_isInstance (T := "str") (b := true) (typeIs_str _ _ _) isSubtype_str_str (wpAny_pure ⟨t, tk, rfl, rfl, G', I', ex⟩))
/-! ### the list, item by item -/
structure Aside (X : Cx) (pins : List (Addr × Obj)) (P : Addr) : Prop where
  loc : P ≠ X.env.locals
  fs : P ∉ X.fs
  new : X.s_0.heap.objs.size ≤ P
  cell : ∀ x c, X.env.cells.lookup x = some c → c ≠ P
  pin : ∀ p ∈ X.pn ++ pins, p.1 ≠ P
section
variable {X : Cx} {pins : List (Addr × Obj)} {σ : L2.St}
theorem Aside.of {G : Hp} {s : Shared} (I : Inv X pins σ G s) : Aside X pins s.heap.objs.size := by
  refine ⟨fun z => ?_, I.nofs (Nat.le_refl _), I.sz, fun x c e z => ?_, fun p hp z => ?_⟩
  · exact absurd (z ▸ I.lt) (Nat.lt_irrefl _)
  · obtain ⟨v, hv⟩ := I.cell x c e
    subst z
    exact absurd (Heap.lt_size hv.choose_spec.1) (Nat.lt_irrefl _)
  · have := (I.pin p hp).1
    rw [z] at this
    exact absurd (Heap.lt_size this) (Nat.lt_irrefl _)
def pobj (acc : Array Value) (c : Nat) : Obj := { cls := .type "list", dict := none, data := .seq acc c, slots := #[] }
theorem Aside.on {G : Hp} {s : Shared} {P : Addr} {acc : Array Value} {c : Nat} (k : Aside X pins P) (I : Inv X pins σ G s) (h : s.heap.get? P = some (pobj acc c)) (hn : G P = none) : Inv X ((P, pobj acc c) :: pins) σ G s :=
  I.pins_of fun p hp => (List.mem_cons.mp hp).elim (fun e => by
    subst e
    exact ⟨h, hn, k.loc, k.fs, fun v => nofun⟩) fun m => I.pin p (List.mem_append_right _ m)
theorem Aside.off {G : Hp} {s : Shared} {P : Addr} {o : Obj} (I : Inv X ((P, o) :: pins) σ G s) : Inv X pins σ G s ∧ s.heap.get? P = some o ∧ G P = none :=
  ⟨I.pins_of fun p hp => I.pin p (List.mem_append_right _ (List.mem_cons_of_mem _ hp)), let q := I.pin (P, o) (List.mem_append_right _ List.mem_cons_self); ⟨q.1, q.2.1⟩⟩
theorem loopDepth (B : Around) (ar : Args) : (B.under (.builtin "list.__repr__.loop" ar)).depth = B.depth + 1 := by
  first | rfl | simp [Around.under, Code.weight, Code.isCreation, Code.isGuard, Code.isCaller, Code.frames, Code.isFrame, guardIds]
/-- the loop of list.__repr__ over items that are told one by one -/
theorem tellLoop {n : Nat} {D : V → Str → Hp → Prop} {a P : Addr} {B : Around} {xs : List V} {ts : List Str} {H : Hp} {R : Result → Shared → Prop} (hD : ∀ x t G G', Ext G G' → D x t G → D x t G') (T : Tells X n a D) (rm : Room (n + 1) B) (fr : B.frames = X.A.frames) (hg : NoG B) (kP : Aside X pins P) (naP : a ≠ P)
    (ha : H a = some (.lst xs)) (odd : Odd H a) (hA : All2 (fun x t => D x t H) xs ts) (hz : (listText ts).length ≤ sizeLine) (hE : ∀ e s', X.xe e s' → R (.error e) s')
    (fin : ∀ s' u G', Inv X pins σ G' s' → Ext H G' → R (.ok (.ret (.str (listText ts) u))) s') :
    ∀ (m i : Nat) (s : Shared) (G : Hp) (acc : Array Value) (c : Nat) (done : List (Str × Tok)), xs.length - i = m → i ≤ xs.length → Inv X pins σ G s → Ext H G → G P = none → s.heap.get? P = some (pobj acc c) → acc.toList = strValues done → done.map (·.1) = ts.take i →
      codeAny (model X.prog X.w) B (.builtin "list.__repr__.loop" ⟨[.ref a, rawInt i, .ref P, rawInt ((piled (ts.take i) : Nat) : Int)], []⟩) R s := by
  have w1 : (listText ts).length = (textFrom 0 "[" ts).length + 1 := by
    show (textFrom 0 "[" ts ++ ("]" : Str)).length = _
    rw [strLen_append]
    rfl
  have w2 := textFrom_len ts 0 "["
  have w3 := piled_le_listText ts
  have small : ∀ t ∈ ts, t.length ≤ sizeLine := fun t ht => by
    have := w2.2.1 t ht
    omega
  intro m
  induction m with
  | zero =>
    intro i s G acc c done hm hi I ex hn hP h1 h2
    obtain rfl : i = xs.length := by omega
    obtain ⟨_, its, k, rv, e⟩ := I.hok a _ (ex _ _ ha)
    refine codeAny_builtin F.entry_list_repr_loop ?_
    show wpAny _ _ («list.__repr__.loop» ⟨[.ref a, .int (xs.length : Nat) 0, .ref P, .int ((piled (ts.take xs.length) : Nat) : Int) 0], []⟩) _ _ s
    rw [repr_loop_tree]
    refine wpAny_bind (wpAny_listItems e rfl ?_)
    have none_ : its.toArray[((xs.length : Nat) : Int).toNat]? = none := by simp [rv.length]
    simp only [none_]
    unfold reprEnd
    refine wpAny_bind (wpAny_listItems hP rfl ?_)
    rw [h1, repr_fold]
    refine wpAny_bind (wpAny_pure ?_)
    rw [h2, hA.1, List.take_length]
    exact wpAny_bind (wpAny_mkStr (wpAny_pure (fin _ _ G (I.tok _) ex)) hz)
  | succ m ih =>
    intro i s G acc c done hm hi I ex hn hP h1 h2
    have hlt : i < xs.length := by omega
    have hlt2 : i < ts.length := hA.1 ▸ hlt
    have gx := List.getElem?_eq_getElem hlt
    have gt := List.getElem?_eq_getElem hlt2
    obtain ⟨_, its, k, rv, e⟩ := I.hok a _ (ex _ _ ha)
    obtain ⟨u, gu, ru⟩ := rv.get gx
    have q1 := piled_take_succ gt
    have q2 := piled_take_le ts (i + 1)
    refine codeAny_builtin F.entry_list_repr_loop ?_
    show wpAny _ _ («list.__repr__.loop» ⟨[.ref a, .int i 0, .ref P, .int ((piled (ts.take i) : Nat) : Int) 0], []⟩) _ _ s
    rw [repr_loop_tree]
    refine wpAny_bind (wpAny_listItems e rfl ?_)
    have some_ : its.toArray[((i : Nat) : Int).toNat]? = some u := by simpa using gu
    simp only [some_]
    rw [Int.toNat_natCast]
    refine wpAny_bind (wpAny_holding (wpAny_mono (T (B.under (.builtin "list.__repr__.loop" ⟨[.ref a, rawInt i, .ref P, rawInt ((piled (ts.take i) : Nat) : Int)], []⟩)) _ s σ G xs[i] ts[i] u (piled (ts.take i) + 1) ?_ ?_ ?_ (kP.on I hP hn) ru (hD _ _ _ _ ex (hA.2 i _ _ gx gt)) ?_ (by omega)) (fun t' s1 z => ?_) fun e s' z => hE e s' z))
    · exact ⟨rm.hd, by rw [loopDepth]; have := rm.dp; omega, by rw [units_under_list_loop]; have := rm.un; omega⟩
    · exact fr
    · exact ⟨_, _, guards_under_guard (isGuard_list_loop _) hg⟩
    · obtain ⟨p, C, dx, fs, ys, o1, o2, o3⟩ := odd
      exact ⟨p, C, dx, fs, ys, ex _ _ o1, o2, ex _ _ o3⟩
    obtain ⟨rfl, G1, I1, ex1⟩ := z
    obtain ⟨I2, hP2, hn2⟩ := Aside.off I1
    refine wpAny_bind (wpAny_mkStr (wpAny_bind ?_) (small _ (List.getElem_mem hlt2)))
    show wpAny _ _ (updateSeq P _) _ _ _
    have len : acc.size ≤ sizeLine := by
      have e1 : acc.toList.length = acc.size := Array.length_toList
      have e2 : (strValues done).length = (done.map (·.1)).length := by simp [strValues]
      rw [h1, e2, h2, List.length_take] at e1
      have := (I.list (SqL.of (K := X.K) (ex _ _ ha))).choose_spec.2.2
      omega
    refine wpAny_updateSeq hP2 rfl (wpAny_pure ⟨F.quiet_list_repr_loop _, ?_⟩) len
    rw [show ((i : Nat) : Int) + 1 = ((i + 1 : Nat) : Int) by omega, show piled (ts.take i) + (ts[i].length + 2) = piled (ts.take (i + 1)) by omega]
    refine ih (i + 1) _ G1 (acc.push (.str ts[i] s1.toks)) _ (done ++ [(ts[i], s1.toks)]) (by omega) hlt ((I2.tok _).turned (it := P) (fun b o nb h => (Heap.get?_update_other _ _ (Ne.symm nb)).trans h) hn2 kP.loc (.inr kP.new) kP.cell kP.pin) (ex.trans ex1) hn2 (Heap.get?_update_self _ hP2 rfl) (by simp [h1, strValues]) (by rw [List.map_append, h2, List.take_add_one, gt]; rfl)
/-- repr of a list, by what is told of its items -/
def rReprL (D : V → Str → Hp → Prop) : List V → Hp → VK → Prop := fun xs H Q => ∃ (a : Addr) (ys : List V) (ts : List Str), xs = [V.ref a] ∧ H a = some (.lst ys) ∧ ys ≠ [] ∧ Odd H a ∧ All2 (fun x t => D x t H) ys ts ∧ (listText ts).length ≤ sizeLine ∧ ∀ H', Ext H H' → Q (.str (listText ts)) H'
theorem call_reprL {n : Nat} {D : V → Str → Hp → Prop} (hD : ∀ x t G G', Ext G G' → D x t G → D x t G') (T : ∀ a, Tells X n a D) (hg : NoG X.A) (rm : Room (n + 2) X.A) : CallR X (.builtin "repr") (rReprL D) := by
  intro pins s σ H xs us Q I r ⟨a, ys, ts, e, ha, hne, odd, hA, hz, q⟩
  subst e
  obtain ⟨u, rfl, ru⟩ := vals1 r
  cases ru
  obtain ⟨_, its, k, rv, e⟩ := I.hok a _ ha
  have rm1 : Room (n + 1) X.A.in1 := rm.in1
  have hun := rm.un
  refine call_repr_slot (by omega) (show s.TypeIs (.ref a) "list" from ⟨_, e, rfl⟩) F.slot_list_repr.toG ?_
  refine wpAny_call (codeAny_call_builtin F.slot_list_repr.plain F.entry_list_repr (F.slot_list_repr.check _ _ _ _ _ _ _ _ ⟨_, e, rfl⟩ (F.args_list_repr_1 _) ?_))
  match its, rv, e with
  | [], rv, e =>
    exact absurd (List.length_eq_zero_iff.mp rv.length) hne
  | y :: its, rv, e =>
    refine wpAny_list_repr_head (A := X.A.in1.in1) (g := []) hg (fun _ _ _ m => nomatch m) e rfl (wpAny_bind (m := newList []) (wpAny_newObj_type (wpAny_pure ⟨F.quiet_list_repr_loop _, ?_⟩)))
    have I1 : Inv X pins σ H { s with heap := s.heap.push (pobj #[] 0) } := I.kept fun b o h => Heap.get?_push_of_some _ h
    exact tellLoop hD (T a) rm1 rfl hg (Aside.of I) (Nat.ne_of_lt (Heap.lt_size e)) ha odd hA hz (fun _ _ h => h) (fun s' u G' I' ex => ⟨_, _, rfl, .str _, G', I', ⟨u, rfl⟩, q G' ex⟩) _ 0 _ H #[] _ [] rfl (Nat.zero_le _) I1 Ext.rfl' (I.hok.fresh (Nat.le_refl _)) (Heap.get?_push_size _ rfl) rfl rfl
end
end LL

namespace LL
open PySem L2 PySem.Spec PyProof.Rows
/-! ### a + b, a * 3, -a by the text's own defs -/
section
variable {X : Cx} {n : Nat} {C f : Addr} {fd : FuncData} {ps : List Str} {sp : Sp} {op : Operator}
theorem back_of {pins : List (Addr × Obj)} {σ : L2.St} {Q : VK} {v : Value} {s' : Shared} (h : EP X pins σ Q v s') : PySem.W.CmpBack (EP X pins σ Q) v s' := by
  obtain ⟨y, G, I, r, q⟩ := h
  have back : EP X pins σ Q v s' := ⟨y, G, I, r, q⟩
  cases v with
  | notImplemented =>
    cases y with
    | int i => obtain ⟨_, z⟩ := r; cases z
    | str i => obtain ⟨_, z⟩ := r; cases z
    | byt i => obtain ⟨_, z⟩ := r; cases z
    | flt i => obtain ⟨_, z⟩ := r; cases z
    | _ => cases r
  | _ => exact back
/-- both of the class at C -/
def rOwn2 (C : Addr) (sp : Sp) : R2 := fun x y H Q => ∃ a b dx dy fs gs, x = .ref a ∧ y = .ref b ∧ H a = some (.ins C dx fs) ∧ H b = some (.ins C dy gs) ∧ sp [.ref a, .ref b] H Q C8.E0
theorem op_own2 (F : FnOk X.prog X.w X.K X.mg X.base C8.CX0 n f fd ps sp) (rm : Room n X.A) (hc : PySem.W.selfFirst X.K C = true) (hs : PySem.W.findIn X.K (.ref C) (PySem.dunder op.info.2) = some (some (.ref f))) (hf : PySem.W.isFn X.K (.ref f) = true) (hb : Binds X.K fd ps []) :
    OpR X (binaryOp op) (rOwn2 C sp) := by
  intro pins s σ H x y u v Q I rx ry ⟨a, b, dx, dy, fs, gs, e1, e2, ha, hb', h⟩
  subst e1 e2
  cases rx
  cases ry
  obtain ⟨mA, J, _⟩ := ins_get I.hok ha
  obtain ⟨mB, J', _⟩ := ins_get I.hok hb'
  obtain ⟨od, J, _⟩ := J.look
  obtain ⟨od', J', _⟩ := J'.look
  obtain ⟨m, hF⟩ := I.fr
  exact PySem.W.binop_K hF I.ok.mod.kin J J'.type hc hs hf (wpAny_mono (run_fn (vs := [V.ref a, V.ref b]) F rm hb .nil C8.pass0 I (.cons rfl (.cons rfl .nil)) h) (fun _ _ z => back_of z) fun _ _ z => z)
/-- an int on the right -/
def rOwnI (C : Addr) (sp : Sp) : R2 := fun x y H Q => ∃ a i dx fs, x = .ref a ∧ y = .int i ∧ H a = some (.ins C dx fs) ∧ sp [.ref a, .int i] H Q C8.E0
theorem op_ownI {fo ro : Option Value} (F : FnOk X.prog X.w X.K X.mg X.base C8.CX0 n f fd ps sp) (rm : Room n X.A) (hc : PySem.W.selfFirst X.K C = true) (hs : PySem.W.findIn X.K (.ref C) (PySem.dunder op.info.2) = some (some (.ref f))) (hf : PySem.W.isFn X.K (.ref f) = true) (hb : Binds X.K fd ps [])
    (hr : PySem.W.findIn X.K (.ref C) (dunderR op.info.2) = some none) (h1 : PySem.W.findIn X.K (.type "int") (PySem.dunder op.info.2) = some fo) (h2 : PySem.W.findIn X.K (.type "int") (dunderR op.info.2) = some ro) (hsub : PySem.W.subIn X.K (.type "int") (.ref C) = some false) :
    OpR X (binaryOp op) (rOwnI C sp) := by
  intro pins s σ H x y u v Q I rx ry ⟨a, i, dx, fs, e1, e2, ha, h⟩
  subst e1 e2
  cases rx
  obtain ⟨t, rfl⟩ := ry
  obtain ⟨mA, J, _⟩ := ins_get I.hok ha
  obtain ⟨od, J, _⟩ := J.look
  obtain ⟨m, hF⟩ := I.fr
  exact PySem.W.ksp_binT (T := "int") (b := .int i t) hF I.ok.mod.kin J rfl hc hs hf hr (.inl rfl) h1 h2 hsub (wpAny_mono (run_fn (vs := [V.ref a, V.int i]) F rm hb .nil C8.pass0 I (.cons rfl (.cons ⟨t, rfl⟩ .nil)) h) (fun _ _ z => back_of z) fun _ _ z => z)
/-- -a -/
def rOwnN (C : Addr) (sp : Sp) : V → Hp → VK → Prop := fun x H Q => ∃ a dx fs, x = .ref a ∧ H a = some (.ins C dx fs) ∧ sp [.ref a] H Q C8.E0
theorem un_own (F : FnOk X.prog X.w X.K X.mg X.base C8.CX0 n f fd ps sp) (rm : Room n X.A) (hs : PySem.W.findIn X.K (.ref C) "__neg__" = some (some (.ref f))) (hf : PySem.W.isFn X.K (.ref f) = true) (hb : Binds X.K fd ps []) : UnR X (unaryOp .USub) (rOwnN C sp) := by
  intro pins s σ H x v Q I rx ⟨a, dx, fs, e, ha, h⟩
  subst e
  cases rx
  obtain ⟨mA, J, _⟩ := ins_get I.hok ha
  obtain ⟨od, J, _⟩ := J.look
  obtain ⟨m, hF⟩ := I.fr
  exact PySem.W.ksp_neg hF I.ok.mod.kin J hs hf (run_fn (vs := [V.ref a]) F rm hb .nil C8.pass0 I (.cons rfl .nil) h)
end
/-! ### calls by names alone -/
/-- a def of the module that may be called by the names ks -/
structure CalK (P : Program) (w : World) (K : PySem.W.Frag) (mg : Str → Option Value) (base : Heap) (k : Nat) (x : Str) (sp : Sp) (ks : List Str) (gV : List V → List V → List V) : Prop where
  ex : ∃ (f : Addr) (fd : FuncData) (ps : List Str) (g : List Value → List Value → List Value), FnOk P w K mg base C8.CX0 k f fd ps sp ∧ mg x = some (.ref f) ∧ PySem.W.keepIn K (.ref f) = true ∧ KBinds K fd ps ks g gV
def tCallK0 (sp : Sp) (gV : List V → List V → List V) (tk : TA) : TE := fun σ H Q => tk σ H fun zs H2 => sp (gV [] zs) H2 Q C8.E0
theorem pe_cK {X : Cx} {k j : Nat} {x : Str} {sp : Sp} {ks : List Str} {gV : List V → List V → List V} {p pos : Pos} {kws : List Keyword} {tk : TA} (c : CalK X.prog X.w X.K X.mg X.base k x sp ks gV) (hr : Room j X.A) (hk : k ≤ j) (hg : Gl X x)
    (hkw : PK X kws tk) (hall : (backToKw pos (keywordEach kws X.env)).all (·.1.isSome) = true := by rfl) (hks : (backToKw pos (keywordEach kws X.env)).filterMap (·.1) = ks := by rfl)
    (hdb : (x == ("__debug__" : Str)) = false := by decide) (hpl : ((backTo pos (starEach [] X.env)).any (·.1) || (backToKw pos (keywordEach kws X.env)).any (·.1.isNone)) = false := by rfl) :
    PE X (.Call (.Name x p) [] kws pos) (tCallK0 sp gV tk) := by
  obtain ⟨f, fd, ps, g, F, hm, kp, hb⟩ := c.ex
  refine ⟨fun pins s σ H Q I h => wpAny_Call_Name_kw (ld_glob I hg hm ?_ hdb)⟩
  refine PySem.W.callWith_KW0 (h₀ := X.base) I.ok.mod.kin kp hall (thn (hkw.run pos pins s σ H _ I h) fun ws s2 ⟨zs, H2, I2, rz, q2⟩ => ⟨I2.kIn, ?_⟩) hpl
  rw [hks]
  exact run_fnk F (hr.mono hk) hb C8.pass0 I2 .nil rz q2
end LL

namespace LL
open PySem PySem.Builtin PySem.Spec PyProof.Rows
/-! ### sum(lists, []) -/
abbrev lobj (xs : List Value) (k : Nat) : Obj := { cls := .type "list", data := .seq xs.toArray k }
section
variable {prog : Program} {w : World} {A : Around} {R : Result → Shared → Prop} {I : Addr} {fp wr : List Addr} {G : Array GenState → Array GenState → Prop} {n : Nat} {P : Nat → Value → Prop} {St : Nat → Shared → Prop}
theorem sumlists (W : WalksS prog w A.in1 I fp wr G n P St) (S : Addr) (off : S ∉ fp) (h0 : Heap) (known : ∀ b o, h0.get? b = some o → b ≠ S ∧ b ∉ wr) (val : Nat → List Value) (hval : ∀ i v, P i v → ∃ b k, v = .ref b ∧ h0.get? b = some (lobj (val i) k)) (few : ((List.range n).flatMap val).length ≤ sizeLine) (low : ∀ b ∈ wr, b < S) (low0 : h0.objs.size ≤ S) :
    ∀ (k i : Nat) (s : Shared) (T : Addr) (c c' : Nat), n - i = k → i ≤ n → St i s → (∀ b o, h0.get? b = some o → s.heap.get? b = some o) → s.heap.get? S = some (lobj [.ref T] c) → s.heap.get? T = some (lobj ((List.range i).flatMap val) c') → T ≠ S → T ∉ wr →
      (i ≠ 0 → h0.objs.size ≤ T) → (∀ s' T' c', Moved (S :: wr) G s s' → s'.heap.get? T' = some (lobj ((List.range n).flatMap val) c') → (n ≠ 0 → h0.objs.size ≤ T') → R (.ok (.ret (.ref T'))) s') →
      codeAny (model prog w) A (.builtin "sum.loop" ⟨[.ref I, .ref S, rawInt 2, rawInt 0], []⟩) R s := by
  have offw : S ∉ wr := fun h => off (W.sub _ h)
  have up : ∀ b ∈ wr, b ∈ S :: wr := fun b hb => List.mem_cons_of_mem _ hb
  intro k
  induction k with
  | zero =>
    intro i s T c c' hk hi hst h0s hS hT nT oT fr hR
    obtain rfl : i = n := by omega
    refine codeAny_builtin F.entry_sum_loop (by
      rw [Around.under_plainId F.plain_sum_loop _]
      show wpAny _ A.in1 (seqItems? (.ref S) >>= _) _ _ s
      refine wpAny_bind (wpAny_seqItems hS rfl ?_)
      show wpAny _ A.in1 (tryCatch (pyNext (.ref I)) _ >>= _) _ _ s
      exact wpAny_bind (wpAny_tryCatch (W.done s _ _ hst fun s' hm => wpAny_pure (hR s' T c' (hm.mono up) (hm.heap T _ oT hT) fr))))
  | succ k ih =>
    intro i s T c c' hk hi hst h0s hS hT nT oT fr hR
    have lt : i < n := by omega
    have grow : (List.range (i + 1)).flatMap val = (List.range i).flatMap val ++ val i := by
      rw [List.range_succ, List.flatMap_append]
      simp
    have part : ((List.range (i + 1)).flatMap val).length ≤ ((List.range n).flatMap val).length := by
      have e : List.range n = List.range (i + 1) ++ (List.range (n - (i + 1))).map (fun x => (i + 1) + x) := by
        rw [← List.range_add]
        congr 1
        omega
      rw [e, List.flatMap_append, List.length_append]
      omega
    refine codeAny_builtin F.entry_sum_loop (by
      rw [Around.under_plainId F.plain_sum_loop _]
      show wpAny _ A.in1 (seqItems? (.ref S) >>= _) _ _ s
      refine wpAny_bind (wpAny_seqItems hS rfl ?_)
      show wpAny _ A.in1 (tryCatch (pyNext (.ref I)) _ >>= _) _ _ s
      refine wpAny_bind (wpAny_tryCatch (W.item i s _ _ lt hst fun v s' hP hst' hm => ?_))
      obtain ⟨b, kb, rfl, hb⟩ := hval i v hP
      have hS' := hm.heap S _ offw hS
      have hT' := hm.heap T _ oT hT
      have hb' := hm.heap b _ (known b _ hb).2 (h0s b _ hb)
      show wpAny _ A.in1 ((holding [Value.ref b] (binaryOp .Add (.ref T) (.ref b))).attempt >>= _) _ _ _
      refine wpAny_bind (wpAny_attempt (wpAny_holding (PySem.P.add_list hT' hb' ?_ (by rw [grow, List.length_append] at part; simp only [List.size_toArray]; omega))))
      have hS1 : (s'.heap.push (lobj ((List.range (i + 1)).flatMap val) 0)).get? S = some (lobj [.ref T] c) := Heap.get?_push_of_some _ hS'
      rw [show ((List.range i).flatMap val).toArray ++ (val i).toArray = ((List.range (i + 1)).flatMap val).toArray by rw [grow]; simp]
      show wpAny _ A.in1 (updateSeq S (fun _ => #[.ref s'.heap.objs.size]) >>= _) _ _ _
      refine wpAny_bind (wpAny_updateSeq hS1 rfl ?_)
      have hS2 := Heap.get?_update_self (Obj.mapSeq fun _ => #[Value.ref s'.heap.objs.size]) hS1 rfl
      refine wpAny_bind (wpAny_letGo ?_)
      refine wpAny_bind (wpAny_updateSeq hS2 rfl (wpAny_pure ⟨plainId_quiet F.plain_sum_loop _, ?_⟩))
      have neS : s'.heap.objs.size ≠ S := fun z => absurd (Heap.lt_size (z ▸ hS')) (Nat.lt_irrefl _)
      have keep : ∀ b o, b ≠ S → s'.heap.get? b = some o → (((s'.heap.push (lobj ((List.range (i + 1)).flatMap val) 0)).update S (Obj.mapSeq fun _ => #[Value.ref s'.heap.objs.size])).update S (Obj.mapSeq fun _ => #[Value.ref s'.heap.objs.size])).get? b = some o := fun b o nb e =>
        (Heap.get?_update_other _ _ (Ne.symm nb)).trans ((Heap.get?_update_other _ _ (Ne.symm nb)).trans (Heap.get?_push_of_some _ e))
      have above : S < s'.heap.objs.size := Heap.lt_size hS'
      have big : h0.objs.size ≤ s'.heap.objs.size := Nat.le_trans low0 (Nat.le_of_lt above)
      refine ih (i + 1) _ s'.heap.objs.size _ 0 (by omega) lt (W.frame _ s' _ _ hst' (by first | exact Nat.le_refl _ | exact Nat.le_succ _ | omega) fun b hb o e => keep b o (fun h : b = S => off (h ▸ hb)) e) (fun b o e => keep b o (known b o e).1 (hm.heap b o (known b o e).2 (h0s b o e)))
        (Heap.get?_update_self _ hS2 rfl) ((Heap.get?_update_other _ _ neS.symm).trans ((Heap.get?_update_other _ _ neS.symm).trans (Heap.get?_push_size _ rfl))) neS (fun h => absurd (Nat.lt_trans (low _ h) above) (Nat.lt_irrefl _)) (fun _ => big) fun s'' T'' c'' hm'' e'' f'' => hR s'' T'' c'' (Moved.trans W.gtrans ((hm.mono up).then_heap (by first | exact Nat.le_refl _ | exact Nat.le_succ _ | omega) fun b o hb e => keep b o (fun h : b = S => hb (by rw [h]; exact List.mem_cons_self)) e) hm'') e'' f''
      )
end
section
variable {prog : Program} {w : World} {A : Around} {E : Value → Shared → Prop} {s : Shared}
theorem args_sum2 (a b : Value) : argsOk "sum" ⟨[a, b], []⟩ := by unfold argsOk; kernel_rfl
theorem sumcall {l e : Addr} {ol oe : Obj} {its : List Value} {vals : Nat → List Value} {c ce : Nat} {Q : Value → Shared → Prop} (hh : A.handled = none) (hl : s.heap.get? l = some (lobj its c)) (he : s.heap.get? e = some (lobj [] ce)) (ne : its ≠ [])
    (hv : ∀ (i : Nat) v, its[i]? = some v → ∃ b k, v = .ref b ∧ s.heap.get? b = some (lobj (vals i) k)) (few : ((List.range its.length).flatMap vals).length ≤ sizeLine)
    (h : ∀ h' tk T c', s.heap.objs.size ≤ T → h'.get? T = some (lobj ((List.range its.length).flatMap vals) c') → (∀ b o, s.heap.get? b = some o → h'.get? b = some o) → Q (.ref T) { s with heap := h', toks := tk }) : wpAny (model prog w) A (call (.builtin "sum") [.ref l, .ref e]) Q E s := by
  refine call_function_tree F.kind_sum F.plain_sum F.entry_sum (args_sum2 _ _) ?_
  unfold Builtin.«sum»
  simp only [List.length_cons, List.length_nil]
  rw [if_neg (by decide)]
  refine wpAny_bind (wpAny_of_eq (show Builtin.Builtins.bindParams "sum" ["start"] 0 ⟨[.ref e], []⟩ = pure [some (.ref e)] from rfl) ?_)
  have hL : s.heap.IsList l its.toArray := ⟨_, hl, rfl, c, rfl⟩
  refine wpAny_bind (wpAny_pyIter_list hL ?_)
  refine wpAny_bind (wpAny_pure ?_)
  simp only [List.forIn_cons, List.forIn_nil]
  have ty : ∀ h' tk, (∀ b o, s.heap.get? b = some o → h'.get? b = some o) → Shared.TypeIs { s with heap := h', toks := tk } (.ref e) "list" := fun h' tk k => ⟨_, k _ _ he, rfl⟩
  have k1 : ∀ b o, s.heap.get? b = some o → (s.heap.push { cls := .type "list_iterator", data := .fields #[.ref l, .int 0 0] }).get? b = some o := fun b o q => Heap.get?_push_of_some _ q
  refine wpAny_bind (wpAny_bind (wpAny_bind (wpAny_isInstance (T := "list") (b := false) (ty _ _ k1) PySem.F.sub_list_str ?_)))
  simp only [Bool.false_eq_true, if_false]
  refine wpAny_pure (wpAny_bind (wpAny_bind (wpAny_isInstance (T := "list") (b := false) (ty _ _ k1) PySem.F.sub_list_bytes ?_)))
  simp only [Bool.false_eq_true, if_false]
  refine wpAny_pure (wpAny_bind (wpAny_bind (wpAny_isInstance (T := "list") (b := false) (ty _ _ k1) PySem.F.sub_list_bytearray ?_)))
  simp only [Bool.false_eq_true, if_false]
  refine wpAny_pure (wpAny_pure (wpAny_bind (wpAny_newObj_type ?_)))
  have lt : l < s.heap.objs.size := Heap.lt_size hl
  have lte : e < s.heap.objs.size := Heap.lt_size he
  have sz : (s.heap.push { cls := .type "list_iterator", data := .fields #[.ref l, .int 0 0] }).objs.size = s.heap.objs.size + 1 := Heap.size_push ..
  have hh2 : A.in1.handled = none := by simp [hh]
  refine wpAny_pure ⟨plainId_quiet F.plain_sum_loop _, sumlists ((Walks.list hh2 s.heap.objs.size l (Nat.ne_of_lt lt) its.toArray).toS) _ ?off s.heap ?known vals ?hval (by simpa using few) ?low ?low0 _ 0 _ e _ _ rfl (Nat.zero_le _) ?st (fun b o q => Heap.get?_push_of_some _ (k1 b o q)) (Heap.get?_push_size _ rfl) (Heap.get?_push_of_some _ (k1 _ _ he)) ?neS ?now (fun z => absurd rfl z) ?fin⟩
  case off =>
    rw [sz]
    simp only [List.mem_cons, List.not_mem_nil, or_false, not_or]
    exact ⟨Nat.ne_of_gt (Nat.lt_succ_self _), Nat.ne_of_gt (Nat.lt_succ_of_lt lt)⟩
  case known =>
    intro b o q
    have := Heap.lt_size q
    rw [sz]
    simp only [List.mem_cons, List.not_mem_nil, or_false]
    exact ⟨Nat.ne_of_lt (Nat.lt_succ_of_lt this), Nat.ne_of_lt this⟩
  case hval => exact fun i v q => hv i v (by simpa using q)
  case low =>
    intro b hb
    rw [sz]
    simp only [List.mem_cons, List.not_mem_nil, or_false] at hb
    subst hb
    exact Nat.lt_succ_self _
  case low0 =>
    rw [sz]
    exact Nat.le_succ _
  case st => exact ⟨⟨_, Heap.get?_push_of_some _ (Heap.get?_push_size _ rfl), rfl, rfl⟩, (hL.push _).push _⟩
  case neS =>
    rw [sz]
    exact Nat.ne_of_lt (Nat.lt_succ_of_lt lte)
  case now =>
    simp only [List.mem_cons, List.not_mem_nil, or_false]
    exact Nat.ne_of_lt lte
  case fin =>
    intro s' T c' hm hT hn
    obtain ⟨h', g', d', tk', os'⟩ := s'
    obtain rfl : g' = s.gens := hm.gens
    obtain rfl : d' = s.drawn := hm.drawn
    obtain rfl : os' = s.os := hm.os
    refine h h' tk' T c' (hn (by simpa using ne)) (by simpa using hT) fun b o q => hm.heap b o ?_ (Heap.get?_push_of_some _ (k1 b o q))
    have := Heap.lt_size q
    rw [sz]
    simp only [List.mem_cons, List.not_mem_nil, or_false, not_or]
    exact ⟨Nat.ne_of_lt (Nat.lt_succ_of_lt this), Nat.ne_of_lt this⟩
end
section
open L2
variable {X : Cx}
/-- sum(lists, []): one list of all items -/
def rSumL : List V → L2.Hp → VK → Prop := fun xs H Q => ∃ (l e : Addr) (ys : List V) (zs : List (List V)), xs = [V.ref l, V.ref e] ∧ H l = some (.lst ys) ∧ H e = some (.lst []) ∧ ys ≠ [] ∧ All2 (fun y z => ∃ b, y = V.ref b ∧ H b = some (.lst z)) ys zs ∧ zs.flatten.length ≤ sizeLine ∧
  ∀ p, H p = none → Q (.ref p) (upd H p (.lst zs.flatten))
theorem flat_vals : ∀ {ws : List (List Value)} {zs : List (List V)}, All2 (fun z w => Vals z w) zs ws → Vals zs.flatten ws.flatten
  | [], [], _ => .nil
  | [], _ :: _, h => by cases h.1
  | _ :: _, [], h => by cases h.1
  | w :: ws, z :: zs, h => by
    rw [List.flatten_cons, List.flatten_cons]
    exact (h.2 0 z w rfl rfl).append (flat_vals ⟨Nat.succ.inj h.1, fun i x y a b => h.2 (i + 1) x y a b⟩)
theorem cr_sumL (hc : X.calm = true) : CallR X (.builtin "sum") rSumL := by
  intro pins s σ H xs us Q I r ⟨l, e, ys, zs, ex, hl, he, ne, hA, few, q⟩
  subst ex
  obtain ⟨u, v, rfl, ru, rv⟩ := vals2 r
  cases ru
  cases rv
  obtain ⟨_, its, c, ri, gl⟩ := I.hok l _ hl
  obtain ⟨_, ite, ce, re, ge⟩ := I.hok e _ he
  cases re
  have row : ∀ i : Nat, ∃ w : List Value, ∀ z, zs[i]? = some z → Vals z w ∧ ∃ b k, its[i]? = some (Value.ref b) ∧ s.heap.get? b = some (lobj w k) := fun i => by
    cases e : zs[i]? with
    | none => exact ⟨[], fun z h => nomatch h⟩
    | some z =>
      obtain ⟨y, hy, b, ey, hb⟩ := hA.get' e
      subst ey
      obtain ⟨_, w, k, rw', gw⟩ := I.hok b _ hb
      obtain ⟨u, hu, ru⟩ := ri.get hy
      cases ru
      exact ⟨w, fun z' h => by cases h; exact ⟨rw', b, k, hu, gw⟩⟩
  let vals : Nat → List Value := fun i => (row i).choose
  have hvals : ∀ i z, zs[i]? = some z → Vals z (vals i) ∧ ∃ b k, its[i]? = some (Value.ref b) ∧ s.heap.get? b = some (lobj (vals i) k) := fun i => (row i).choose_spec
  have len : its.length = zs.length := by rw [← ri.length, hA.1]
  have flat : (List.range its.length).flatMap vals = ((List.range zs.length).map vals).flatten := by rw [len]; rfl
  have rel : Vals zs.flatten ((List.range zs.length).map vals).flatten := flat_vals ⟨by simp, fun i z w hz hw => by
    have hi := (List.getElem?_eq_some_iff.mp hz).1
    rw [List.getElem?_map, List.getElem?_range hi] at hw
    cases hw
    exact (hvals i z hz).1⟩
  refine sumcall (vals := vals) (ol := lobj [] 0) (oe := lobj [] 0) (I.ok.hd hc) gl ge (fun z => ne (List.length_eq_zero_iff.mp (by rw [ri.length, z]; rfl))) (fun i v hv => ?_) (by rw [flat, ← rel.length]; exact few) fun h' tk T c' hT gT k => ?_
  · have hi : i < zs.length := by
      have := (List.getElem?_eq_some_iff.mp hv).1
      omega
    obtain ⟨_, b, k, e1, e2⟩ := hvals i _ (List.getElem?_eq_getElem hi)
    rw [hv] at e1
    exact ⟨b, k, Option.some.inj e1, e2⟩
  · rw [flat] at gT
    have hn : H T = none := I.hok.fresh hT
    exact ⟨.ref T, _, I.laid (t' := tk) (o := .lst zs.flatten) k hT ⟨few, _, c', rel, gT⟩, rfl, q T hn⟩
end
end LL

namespace LL
open PySem L2 PySem.Spec PyProof.Rows
/-! ### how long data are as texts -/
mutual
def tame : PyData → Bool
  | .int i => decide (i.natAbs < 10 ^ 40)
  | .list xs => tameAll xs
  | .tuple xs => tameAll xs
  | .dict _ => false
  | .str y => decide ((reprText y).length ≤ 40)
  | _ => true
def tameAll : List PyData → Bool
  | [] => true
  | x :: r => tame x && tameAll r
end
mutual
def wt : PyData → Nat
  | .list xs => wtAll xs + 2
  | .tuple xs => wtAll xs + 3
  | _ => 45
def wtAll : List PyData → Nat
  | [] => 0
  | x :: r => wt x + 2 + wtAll r
end
theorem listText_le : ∀ ts : List Str, (listText ts).length ≤ piled ts + 2
  | [] => by
    rw [listText_nil]
    decide +kernel
  | t :: r => by
    have h := textFrom_length_pos r 1 (("[" : Str) ++ (if (0 : Nat) > 0 then ", " else "" : String) ++ t) (Nat.succ_pos 0)
    have e : ((("[" : Str) ++ (if (0 : Nat) > 0 then ", " else "" : String) ++ t)).length = 1 + t.length := by
      rw [strLen_append, strLen_append]
      rfl
    have q : (listText (t :: r)).length = (textFrom 1 (("[" : Str) ++ (if (0 : Nat) > 0 then ", " else "" : String) ++ t) r).length + 1 := by
      show (textFrom 1 (("[" : Str) ++ (if (0 : Nat) > 0 then ", " else "" : String) ++ t) r ++ ("]" : Str)).length = _
      rw [strLen_append]
      rfl
    rw [q, h, e, piled_cons]
    omega
mutual
theorem told : ∀ {d : PyData}, tame d = true → d.shown.length ≤ wt d ∧ d.showable = true ∧ d.hasDict = false
  | .none, _ => ⟨by decide +kernel, rfl, rfl⟩
  | .bool b, _ => ⟨by cases b <;> decide +kernel, rfl, rfl⟩
  | .int i, h => by
    have h' : i.natAbs < 10 ^ 40 := by simpa [tame] using h
    have q := int_text_length_le10 (k := 40) (by decide) h'
    refine ⟨?_, ?_, rfl⟩
    · show (Str.ofString (toString i)).length ≤ 45
      rw [PySem.ofString_length]
      omega
    · show decide (i.natAbs.log2 < 1920) = true
      exact decide_eq_true (by
        by_cases z : i.natAbs = 0
        · rw [z]
          decide
        · exact (Nat.log2_lt z).mpr (Nat.lt_trans h' (by decide +kernel)))
  | .str y, h => by
    have h' : (reprText y).length ≤ 40 := by simpa [tame] using h
    exact ⟨Nat.le_trans h' (show 40 ≤ 45 by decide), rfl, rfl⟩
  | .list xs, h => by
    have h' : tameAll xs = true := h
    obtain ⟨a, b, c⟩ := toldAll h'
    refine ⟨?_, b, c⟩
    have := listText_le (PyData.shownAll xs)
    show (listText (PyData.shownAll xs)).length ≤ wtAll xs + 2
    omega
  | .tuple xs, h => by
    have h' : tameAll xs = true := h
    obtain ⟨a, b, c⟩ := toldAll h'
    refine ⟨?_, b, c⟩
    have := fmt_text (PyData.shownAll xs)
    show (tupleText (PyData.shownAll xs)).length ≤ wtAll xs + 3
    omega
  | .dict _, h => by cases h
theorem toldAll : ∀ {ds : List PyData}, tameAll ds = true → piled (PyData.shownAll ds) ≤ wtAll ds ∧ PyData.showableAll ds = true ∧ PyData.hasDictAll ds = false
  | [], _ => ⟨Nat.zero_le _, rfl, rfl⟩
  | d :: ds, h => by
    have h' : tame d = true ∧ tameAll ds = true := by simpa [tameAll] using h
    obtain ⟨a, b, c⟩ := told h'.1
    obtain ⟨a', b', c'⟩ := toldAll h'.2
    refine ⟨?_, ?_, ?_⟩
    · show piled (d.shown :: PyData.shownAll ds) ≤ wt d + 2 + wtAll ds
      rw [piled_cons]
      omega
    · show (d.showable && PyData.showableAll ds) = true
      rw [b, b']
      rfl
    · show (d.hasDict || PyData.hasDictAll ds) = false
      rw [c, c']
      rfl
end
end LL

namespace LL
open PySem L2 PySem.Spec PyProof.Rows
def top (i : Nat) : Stmt := PySem.Challenge.pw_lanelots_k15_whole_rounds.main.body.getD i (.Pass ⟨0, 0, 0, 0⟩)
abbrev s_is_integer : Stmt := top 13
abbrev N_is_integer : List Str := ["value"]
theorem sc_is_integer : FnScope N_is_integer ["value"] (C8.fnScope s_is_integer) := C8.fnScope_by (by decide +kernel)
abbrev s_is_count : Stmt := top 14
abbrev N_is_count : List Str := ["value"]
theorem sc_is_count : FnScope N_is_count ["value"] (C8.fnScope s_is_count) := C8.fnScope_by (by decide +kernel)
abbrev s_is_list : Stmt := top 15
abbrev N_is_list : List Str := ["value"]
theorem sc_is_list : FnScope N_is_list ["value"] (C8.fnScope s_is_list) := C8.fnScope_by (by decide +kernel)
abbrev s_is_content : Stmt := top 16
abbrev N_is_content : List Str := ["value", "number"]
theorem sc_is_content : FnScope N_is_content ["value"] (C8.fnScope s_is_content) := C8.fnScope_by (by decide +kernel)
abbrev s_has_lanes : Stmt := top 17
abbrev N_has_lanes : List Str := ["value"]
theorem sc_has_lanes : FnScope N_has_lanes ["value"] (C8.fnScope s_has_lanes) := C8.fnScope_by (by decide +kernel)
abbrev s_is_lane : Stmt := top 18
abbrev N_is_lane : List Str := ["value", "lanes"]
theorem sc_is_lane : FnScope N_is_lane ["value", "lanes"] (C8.fnScope s_is_lane) := C8.fnScope_by (by decide +kernel)
abbrev s_check_content : Stmt := top 19
abbrev N_check_content : List Str := ["content", "lanes"]
theorem sc_check_content : FnScope N_check_content ["content", "lanes"] (C8.fnScope s_check_content) := C8.fnScope_by (by decide +kernel)
abbrev s_check_lanes : Stmt := top 20
abbrev N_check_lanes : List Str := ["lanes", "least"]
theorem sc_check_lanes : FnScope N_check_lanes ["lanes", "least"] (C8.fnScope s_check_lanes) := C8.fnScope_by (by decide +kernel)
abbrev s_check_many : Stmt := top 21
abbrev N_check_many : List Str := ["many"]
theorem sc_check_many : FnScope N_check_many ["many"] (C8.fnScope s_check_many) := C8.fnScope_by (by decide +kernel)
abbrev s_is_gate : Stmt := top 24
abbrev N_is_gate : List Str := ["value", "lanes", "word", "i", "last"]
theorem sc_is_gate : FnScope N_is_gate ["value", "lanes"] (C8.fnScope s_is_gate) := C8.fnScope_by (by decide +kernel)
abbrev s_behind_gate : Stmt := top 25
abbrev N_behind_gate : List Str := ["gate", "content", "word", "i", "last", "found"]
theorem sc_behind_gate : FnScope N_behind_gate ["gate", "content"] (C8.fnScope s_behind_gate) := C8.fnScope_by (by decide +kernel)
abbrev s_Net_init : Stmt := inClass (top 27) 2
abbrev N_Net_init : List Str := ["self", "lanes", "gates", "gate"]
theorem sc_Net_init : FnScope N_Net_init ["self", "lanes", "gates"] (C8.fnScope s_Net_init) := C8.fnScope_by (by decide +kernel)
abbrev s_Net_lanes : Stmt := inClass (top 27) 4
abbrev N_Net_lanes : List Str := ["self"]
theorem sc_Net_lanes : FnScope N_Net_lanes ["self"] (C8.fnScope s_Net_lanes) := C8.fnScope_by (by decide +kernel)
abbrev s_Net_is_plain : Stmt := inClass (top 27) 5
abbrev N_Net_is_plain : List Str := ["self", "gate"]
theorem sc_Net_is_plain : FnScope N_Net_is_plain ["self"] (C8.fnScope s_Net_is_plain) := C8.fnScope_by (by decide +kernel)
abbrev s_Net_call : Stmt := inClass (top 27) 10
abbrev N_Net_call : List Str := ["self", "content", "told", "gate"]
theorem sc_Net_call : FnScope N_Net_call ["self", "content"] (C8.fnScope s_Net_call) := C8.fnScope_by (by decide +kernel)
abbrev s_Net_add : Stmt := inClass (top 27) 11
abbrev N_Net_add : List Str := ["self", "other"]
theorem sc_Net_add : FnScope N_Net_add ["self", "other"] (C8.fnScope s_Net_add) := C8.fnScope_by (by decide +kernel)
abbrev s_Net_mul : Stmt := inClass (top 27) 12
abbrev N_Net_mul : List Str := ["self", "other", "many"]
theorem sc_Net_mul : FnScope N_Net_mul ["self", "other"] (C8.fnScope s_Net_mul) := C8.fnScope_by (by decide +kernel)
abbrev s_Net_eq : Stmt := inClass (top 27) 14
abbrev N_Net_eq : List Str := ["self", "other"]
theorem sc_Net_eq : FnScope N_Net_eq ["self", "other"] (C8.fnScope s_Net_eq) := C8.fnScope_by (by decide +kernel)
abbrev s_Net_repr : Stmt := inClass (top 27) 15
abbrev N_Net_repr : List Str := ["self"]
theorem sc_Net_repr : FnScope N_Net_repr ["self"] (C8.fnScope s_Net_repr) := C8.fnScope_by (by decide +kernel)
abbrev s_Net_cut : Stmt := inClass (top 27) 21
abbrev N_Net_cut : List Str := ["self", "position"]
theorem sc_Net_cut : FnScope N_Net_cut ["self", "position"] (C8.fnScope s_Net_cut) := C8.fnScope_by (by decide +kernel)
abbrev s_check_gates : Stmt := top 28
abbrev N_check_gates : List Str := ["gates", "lanes", "position", "gate"]
theorem sc_check_gates : FnScope N_check_gates ["gates", "lanes"] (C8.fnScope s_check_gates) := C8.fnScope_by (by decide +kernel)
abbrev s_check_position : Stmt := top 29
abbrev N_check_position : List Str := ["position", "places"]
theorem sc_check_position : FnScope N_check_position ["position", "places"] (C8.fnScope s_check_position) := C8.fnScope_by (by decide +kernel)
abbrev s_rounds : Stmt := top 32
abbrev N_rounds : List Str := ["net", "content", "many"]
theorem sc_rounds : FnScope N_rounds ["net", "content", "many"] (C8.fnScope s_rounds) := C8.fnScope_by (by decide +kernel)
abbrev s_passed : Stmt := top 33
abbrev N_passed : List Str := ["net", "content", "many", "found", "_"]
theorem sc_passed : FnScope N_passed ["net", "content", "many"] (C8.fnScope s_passed) := C8.fnScope_by (by decide +kernel)
abbrev s_law_pot : Stmt := top 35
abbrev N_law_pot : List Str := ["_law_script", "_law_k", "_law_cell"]
theorem sc_law_pot : FnScope N_law_pot ["_law_script", "_law_k"] (C8.fnScope s_law_pot) := C8.fnScope_by (by decide +kernel)
abbrev s_law_draw : Stmt := top 36
abbrev N_law_draw : List Str := ["_law_pot_here", "_law_size", "_law_digit"]
theorem sc_law_draw : FnScope N_law_draw ["_law_pot_here", "_law_size"] (C8.fnScope s_law_draw) := C8.fnScope_by (by decide +kernel)
abbrev s_law_pick : Stmt := top 37
abbrev N_law_pick : List Str := ["_law_pot_here", "_law_some"]
theorem sc_law_pick : FnScope N_law_pick ["_law_pot_here", "_law_some"] (C8.fnScope s_law_pick) := C8.fnScope_by (by decide +kernel)
abbrev s_law_gate : Stmt := top 38
abbrev N_law_gate : List Str := ["_law_pot_here", "_law_lanes", "_law_kind", "_law_one"]
theorem sc_law_gate : FnScope N_law_gate ["_law_pot_here", "_law_lanes"] (C8.fnScope s_law_gate) := C8.fnScope_by (by decide +kernel)
abbrev s_law_gates : Stmt := top 39
abbrev N_law_gates : List Str := ["_law_pot_here", "_law_lanes", "_law_most", "_law_turn"]
theorem sc_law_gates : FnScope N_law_gates ["_law_pot_here", "_law_lanes", "_law_most"] (C8.fnScope s_law_gates) := C8.fnScope_by (by decide +kernel)
abbrev s_law_content : Stmt := top 40
abbrev N_law_content : List Str := ["_law_pot_here", "_law_lanes", "_law_wide", "_law_lane"]
theorem sc_law_content : FnScope N_law_content ["_law_pot_here", "_law_lanes"] (C8.fnScope s_law_content) := C8.fnScope_by (by decide +kernel)
abbrev s_law_done : Stmt := top 41
abbrev N_law_done : List Str := ["_law_gate_here", "_law_here", "_law_kind", "_law_one", "_law_two", "_law_found"]
theorem sc_law_done : FnScope N_law_done ["_law_gate_here", "_law_here"] (C8.fnScope s_law_done) := C8.fnScope_by (by decide +kernel)
abbrev s_law_run : Stmt := top 42
abbrev N_law_run : List Str := ["_law_gates_here", "_law_content_here", "_law_found", "_law_gate_here"]
theorem sc_law_run : FnScope N_law_run ["_law_gates_here", "_law_content_here"] (C8.fnScope s_law_run) := C8.fnScope_by (by decide +kernel)
abbrev s_law_rounds : Stmt := top 43
abbrev N_law_rounds : List Str := ["_law_gates_here", "_law_content_here", "_law_many", "_law_found", "_law_turn"]
theorem sc_law_rounds : FnScope N_law_rounds ["_law_gates_here", "_law_content_here", "_law_many"] (C8.fnScope s_law_rounds) := C8.fnScope_by (by decide +kernel)
abbrev s_law_told_right : Stmt := top 44
abbrev N_law_told_right : List Str := ["_law_pot_here", "_law_net", "_law_gates_here", "_law_content_here", "_law_many", "_law_due", "_law_shown", "_law_told", "_law_row", "_law_part", "_law_number"]
theorem sc_law_told_right : FnScope N_law_told_right ["_law_pot_here", "_law_net", "_law_gates_here", "_law_content_here"] (C8.fnScope s_law_told_right) := C8.fnScope_by (by decide +kernel)
abbrev s_law_made_right : Stmt := top 45
abbrev N_law_made_right : List Str := ["_law_pot_here", "_law_net", "_law_gates_here", "_law_content_here", "_law_many", "_law_spot", "_law_near", "_law_far"]
theorem sc_law_made_right : FnScope N_law_made_right ["_law_pot_here", "_law_net", "_law_gates_here", "_law_content_here"] (C8.fnScope s_law_made_right) := C8.fnScope_by (by decide +kernel)
abbrev s_law_long_right : Stmt := top 46
abbrev N_law_long_right : List Str := ["_law_pot_here", "_law_lanes", "_law_gates_here", "_law_net", "_law_content_here", "_law_many", "_law_due", "_law_turn"]
theorem sc_law_long_right : FnScope N_law_long_right ["_law_pot_here", "_law_lanes"] (C8.fnScope s_law_long_right) := C8.fnScope_by (by decide +kernel)
abbrev s_law_right : Stmt := top 47
abbrev N_law_right : List Str := ["_law_pot_here", "_law_lanes", "_law_gates_here", "_law_net", "_law_turn", "_law_content_here", "_law_known", "_law_gate_here"]
theorem sc_law_right : FnScope N_law_right ["_law_pot_here"] (C8.fnScope s_law_right) := C8.fnScope_by (by decide +kernel)
abbrev s_law : Stmt := top 48
abbrev N_law : List Str := ["_law_script", "_law_k"]
theorem sc_law : FnScope N_law ["_law_script"] (C8.fnScope s_law) := C8.fnScope_by (by decide +kernel)
/-! ### defs of the module -/
def DefAt (K : PySem.W.Frag) (mg : Str → Option Value) (x : Str) (st : Stmt) (ps : List Str) : Prop := ∃ f fd, C8.Def K mg x st f fd ∧ Binds K fd ps []
section
variable {P : Program} {w : World} {K : PySem.W.Frag} {mg : Str → Option Value} {base : Heap}
theorem DefAt.cal {x : Str} {st : Stmt} {N ps : List Str} {k : Nat} {sp : Sp} (D : DefAt K mg x st ps) (S : FnScope N ps (C8.fnScope st)) (len : ∀ vs H Q E, sp vs H Q E → vs.length = ps.length)
    (hbody : ∀ (f : Addr) (cdv : Value) (A : Around) (outer : List Env) (s : Shared) (H : Hp) (vs : List V) (Q : VK) (E : XK), Room k (A.deeper (envOfC x (C8.fnScope st) s.heap.objs.size f cdv)) → sp vs H Q E →
      ∃ t, PSs (cxOf CX0 P w K mg base N x (C8.fnScope st) f cdv A outer s H E).nox (C8.fnBody st) t ∧ t { nx := fun _ H' => Q .non H', rt := Q } (start N vs) H) : C8.Cal P w K mg base (k + 1) x sp [] := by
  obtain ⟨f, fd, F, b⟩ := D
  exact C8.cal0 F b .nil S len (hbody f)
end
/-- three arguments by name, the last one first -/
def rot3 {α : Type} (us zs : List α) : List α := match us, zs with | [], [m, c, n] => [n, c, m] | _, _ => []
/-- two arguments by name, the last one first -/
def rot2 {α : Type} (us zs : List α) : List α := match us, zs with | [], [c, n] => [n, c] | _, _ => []
structure Txt (K : PySem.W.Frag) (mg : Str → Option Value) (C : Addr) : Prop where
  b_abs : mg "abs" = none
  b_all : mg "all" = none
  b_bool : mg "bool" = none
  b_divmod : mg "divmod" = none
  b_enumerate : mg "enumerate" = none
  b_int : mg "int" = none
  b_isinstance : mg "isinstance" = none
  b_len : mg "len" = none
  b_list : mg "list" = none
  b_max : mg "max" = none
  b_min : mg "min" = none
  b_range : mg "range" = none
  b_repr : mg "repr" = none
  b_str : mg "str" = none
  b_sum : mg "sum" = none
  b_tuple : mg "tuple" = none
  d_is_integer : DefAt K mg "is_integer" s_is_integer ["value"]
  d_is_count : DefAt K mg "is_count" s_is_count ["value"]
  d_is_list : DefAt K mg "is_list" s_is_list ["value"]
  d_is_content : DefAt K mg "is_content" s_is_content ["value"]
  d_has_lanes : DefAt K mg "_has_lanes" s_has_lanes ["value"]
  d_is_lane : DefAt K mg "is_lane" s_is_lane ["value", "lanes"]
  d_check_content : DefAt K mg "check_content" s_check_content ["content", "lanes"]
  d_check_lanes : DefAt K mg "check_lanes" s_check_lanes ["lanes", "least"]
  d_check_many : DefAt K mg "check_many" s_check_many ["many"]
  d_is_gate : DefAt K mg "is_gate" s_is_gate ["value", "lanes"]
  d_behind_gate : DefAt K mg "behind_gate" s_behind_gate ["gate", "content"]
  d_check_gates : DefAt K mg "_check_gates" s_check_gates ["gates", "lanes"]
  d_check_position : DefAt K mg "check_position" s_check_position ["position", "places"]
  d_rounds : DefAt K mg "rounds" s_rounds ["net", "content", "many"]
  d_passed : DefAt K mg "passed" s_passed ["net", "content", "many"]
  d_law_pot : DefAt K mg "_law_pot" s_law_pot ["_law_script", "_law_k"]
  d_law_draw : DefAt K mg "_law_draw" s_law_draw ["_law_pot_here", "_law_size"]
  d_law_pick : DefAt K mg "_law_pick" s_law_pick ["_law_pot_here", "_law_some"]
  d_law_gate : DefAt K mg "_law_gate" s_law_gate ["_law_pot_here", "_law_lanes"]
  d_law_gates : DefAt K mg "_law_gates" s_law_gates ["_law_pot_here", "_law_lanes", "_law_most"]
  d_law_content : DefAt K mg "_law_content" s_law_content ["_law_pot_here", "_law_lanes"]
  d_law_done : DefAt K mg "_law_done" s_law_done ["_law_gate_here", "_law_here"]
  d_law_run : DefAt K mg "_law_run" s_law_run ["_law_gates_here", "_law_content_here"]
  d_law_rounds : DefAt K mg "_law_rounds" s_law_rounds ["_law_gates_here", "_law_content_here", "_law_many"]
  d_law_told_right : DefAt K mg "_law_told_right" s_law_told_right ["_law_pot_here", "_law_net", "_law_gates_here", "_law_content_here"]
  d_law_made_right : DefAt K mg "_law_made_right" s_law_made_right ["_law_pot_here", "_law_net", "_law_gates_here", "_law_content_here"]
  d_law_long_right : DefAt K mg "_law_long_right" s_law_long_right ["_law_pot_here", "_law_lanes"]
  d_law_right : DefAt K mg "_law_right" s_law_right ["_law_pot_here"]
  d_law : DefAt K mg "law" s_law ["_law_script"]
  gLANES_AT_MOST : ∃ u, mg "LANES_AT_MOST" = some u ∧ RelV (.int 12) u
  gMOST_ROUNDS : ∃ u, mg "MOST_ROUNDS" = some u ∧ RelV (.int 1000) u
  gTWO : ∃ a, mg "_TWO_LANE_WORDS" = some (.ref a) ∧ ∀ H : Hp, SqT K H a [.str "low", .str "high", .str "sort", .str "copy"]
  cl : Cls K C
  mgC : mg "Net" = some (.ref C)
  nL : NoAttr K C "_lanes"
  nG : NoAttr K C "_gates"
  cM : ∃ mc u, ClX.CRead K C mc ∧ ClX.CVal K C mc "MOST_GATES" (.int 400) u
  cI : ∃ u, Con K C "MOST_GATES" (.int 400) u
  i_init : ∃ f fd, C8.Fun K "__init__" "Net.__init__" s_Net_init f fd ∧ Mk K C f ∧ Binds K fd ["self", "lanes", "gates"] []
  i_call : ∃ f fd, C8.Fun K "__call__" "Net.__call__" s_Net_call f fd ∧ StX.CallO K C f ∧ Binds K fd ["self", "content"] []
  i_lanes : ∃ p g fd, C8.Fun K "lanes" "Net.lanes" s_Net_lanes g fd ∧ PropOf K C "lanes" p g ∧ Binds K fd ["self"] []
  i_plain : ∃ p g fd, C8.Fun K "is_plain" "Net.is_plain" s_Net_is_plain g fd ∧ PropOf K C "is_plain" p g ∧ Binds K fd ["self"] []
  i_eq : ∃ f fd, C8.Fun K "__eq__" "Net.__eq__" s_Net_eq f fd ∧ PySem.W.findIn K (.ref C) "__eq__" = some (some (.ref f)) ∧ PySem.W.isFn K (.ref f) = true ∧ Binds K fd ["self", "other"] []
  i_cut : ∃ f fd, C8.Fun K "cut" "Net.cut" s_Net_cut f fd ∧ Meth K C "cut" f ∧ Binds K fd ["self", "position"] []
  i_repr : ∃ f fd, C8.Fun K "__repr__" "Net.__repr__" s_Net_repr f fd ∧ PySem.W.findIn K (.ref C) "__repr__" = some (some (.ref f)) ∧ PySem.W.isFn K (.ref f) = true ∧ Binds K fd ["self"] []
  i_add : ∃ f fd, C8.Fun K "__add__" "Net.__add__" s_Net_add f fd ∧ PySem.W.findIn K (.ref C) (PySem.dunder Operator.Add.info.2) = some (some (.ref f)) ∧ PySem.W.isFn K (.ref f) = true ∧ Binds K fd ["self", "other"] []
  i_mul : ∃ f fd, C8.Fun K "__mul__" "Net.__mul__" s_Net_mul f fd ∧ PySem.W.findIn K (.ref C) (PySem.dunder Operator.Mult.info.2) = some (some (.ref f)) ∧ PySem.W.isFn K (.ref f) = true ∧ Binds K fd ["self", "other"] []
  o_first : PySem.W.selfFirst K C = true
  o_rmul : PySem.W.findIn K (.ref C) (PySem.dunderR Operator.Mult.info.2) = some none
  o_int1 : ∃ fo, PySem.W.findIn K (.type "int") (PySem.dunder Operator.Mult.info.2) = some fo
  o_int2 : ∃ ro, PySem.W.findIn K (.type "int") (PySem.dunderR Operator.Mult.info.2) = some ro
  o_sub : PySem.W.subIn K (.type "int") (.ref C) = some false
  q_ha : PySem.W.findIn K (.ref C) "__class__" = some (some (.builtin "object.__class__"))
  q_hn : PySem.W.specialIn K (.builtin "object.__class__") "__get__" = some (some (.builtin "getset_descriptor.__get__"))
  q_ht : PySem.W.takesIn K (.builtin "object.__class__") = some true
  q_hm : PySem.W.mroIn K C (.type "object") = some true
  k_rounds : ∃ f fd, C8.Def K mg "rounds" s_rounds f fd ∧ KBinds K fd ["net", "content", "many"] ["many", "content", "net"] rot3 rot3
  k_passed : ∃ f fd, C8.Def K mg "passed" s_passed f fd ∧ KBinds K fd ["net", "content", "many"] ["many", "content", "net"] rot3 rot3
end LL

namespace LL
open PySem L2 PySem.Spec PyProof.Rows
section
variable {P : Program} {w : World} {K : PySem.W.Frag} {mg : Str → Option Value} {base : Heap} {C : Addr}

/-! ### what is read -/
theorem tyx_L {H : Hp} {a : Addr} {xs : List V} (h : SqL K H a xs) : TyX K H (.ref a) (.type "list") := by
  rcases h with (h | ⟨o, h⟩) | ⟨o, its, n, h, c, _⟩
  · exact .base (.lst h)
  · exact .base (.frz h)
  · exact .kList h c
theorem tyx_T {H : Hp} {a : Addr} {xs : List V} (h : SqT K H a xs) : TyX K H (.ref a) (.type "tuple") := by
  rcases h with (h | ⟨o, h⟩) | ⟨o, its, n, h, c, _⟩
  · exact .base (.tup h)
  · exact .fTuple h
  · exact .kTuple h c
theorem _root_.L2.Same.new {H : Hp} {p : Addr} {o : HO} (h : H p = none) : Same H (upd H p o) := fun a u e => by
  rw [upd_ne (ne_of_none e h)]
  exact e
theorem _root_.L2.Same.seqT {H H' : Hp} {a : Addr} {xs : List V} (e : Same H H') (h : SqT K H a xs) : SqT K H' a xs := by
  rcases h with (h | ⟨o, h⟩) | h
  · exact .inl (.inl (e _ _ h))
  · exact .inl (.inr ⟨o, e _ _ h⟩)
  · exact .inr h
/-- an object that H does not know may change -/
theorem _root_.L2.Same.mut {H H' : Hp} {p : Addr} {o : HO} (e : Same H H') (h : H p = none) : Same H (upd H' p o) := fun a u ha => by
  rw [upd_ne (ne_of_none ha h)]
  exact e a u ha

theorem q_bl {Q : VK} {H : Hp} {b : Bool} (e : b = true) (k : Q (.bl true) H) : Q (.bl b) H := by
  rw [e]
  exact k
theorem q_bl2 {Q : VK} {H : Hp} {b c : Bool} (e : b = c) (k : Q (.bl c) H) : Q (.bl b) H := by
  rw [e]
  exact k
theorem itF {c : Bool} {A B : Prop} (e : c = false) (h : B) : if c = true then A else B := by
  rw [e]
  exact iteF h
theorem itT {c : Bool} {A B : Prop} (e : c = true) (h : A) : if c = true then A else B := by
  rw [e]
  exact iteT h
theorem q_int {Q : VK} {H : Hp} {i j : Int} (e : i = j) (k : Q (.int j) H) : Q (.int i) H := by
  rw [e]
  exact k
theorem yesI {σ : L2.St} {H : Hp} {A B : Hp → Prop} (h : A H) : tYes σ H (fun b H3 => if b = true then A H3 else B H3) := by
  show (if true = true then A H else B H)
  rw [if_pos rfl]
  exact h
theorem get_int {ns : List Int} {i : Nat} {x : V} (hi : (ns.map V.int)[i]? = some x) : ∃ n, x = V.int n ∧ ns[i]? = some n := by
  rw [List.getElem?_map] at hi
  cases e : ns[i]? with
  | none => rw [e] at hi; cases hi
  | some n => rw [e] at hi; exact ⟨n, (Option.some.inj hi).symm, rfl⟩
theorem size100 {n : Nat} (h : n ≤ 100000) : n < sizeLine := Nat.lt_of_le_of_lt h (by decide)
/-- a comprehension whose elements are made without a change of what stood: the list of these values -/
theorem lc_pure {J : It} {n : Nat} {G : Hp → Prop} {Y : Nat → Hp → V → Hp → Prop} (w : Walk J n G Y) {g : TG} {te : TE} {vs : List Nat} {σ : L2.St} {H1 : Hp} {D : Addr} {Qd : Hp → Prop} (vals : List V) (hn : vals.length = n) (hD : H1 D = none) (hsz : n ≤ 100000)
    (hG : ∀ H, Same H1 H → G H)
    (hs : ∀ i x H H' (Q : VK), i < n → Same H1 H → Y i H x H' → (∀ y H3, vals[i]? = some y → Same H H3 → Q y H3) → g x (wipe σ vs) H' fun σ2 H2 => wipe σ2 vs = wipe σ vs ∧ te σ2 H2 Q)
    (hd : ∀ H, Same H1 H → H D = some (.lst vals) → Qd H) :
    ∃ W : Nat → Nat → Hp → Prop, (∃ m, W 0 m (upd H1 D (.lst []))) ∧ ∀ i m H, W i m H →
      (J.stop i H ∧ Qd H) ∨ (J.go i H ∧ ∃ Nx : Hp → Prop, (∀ H', Nx H' → ∃ m', m' < m ∧ W (i + 1) m' H') ∧ ∀ x H', J.yld i H x H' → g x (wipe σ vs) H' fun σ2 H2 => wipe σ2 vs = wipe σ vs ∧ tYes σ2 H2 fun b H3 =>
        if b = true then te σ2 H3 fun y H4 => ∃ acc, H4 D = some (.lst acc) ∧ acc.length < sizeLine ∧ Nx (upd H4 D (.lst (acc ++ [y]))) else Nx H3) := by
  refine lc_it w (tt := tYes) (fun i H => Same H1 H ∧ H D = some (.lst (vals.take i))) ⟨Same.new hD, by rw [upd_same]; rfl⟩ (fun i H _ p => hG H p.1) (fun i x H H' hi p y => ?_) (fun H p => hd H p.1 (by have := p.2; rw [← hn, List.take_length] at this; exact this))
  have q := hs i x H H' (fun y H4 => ∃ acc, H4 D = some (.lst acc) ∧ acc.length < sizeLine ∧ (Same H1 (upd H4 D (.lst (acc ++ [y]))) ∧ upd H4 D (.lst (acc ++ [y])) D = some (.lst (vals.take (i + 1))))) hi p.1 y (fun y H3 hy s3 => by
    refine ⟨_, s3 _ _ p.2, size100 ?_, (p.1.trans s3).mut hD, ?_⟩
    · rw [List.length_take]
      omega
    · rw [upd_same]
      congr 2
      rw [List.take_add_one, hy]
      rfl)
  exact q
theorem pi_or {X : Cx} {tg it : Expr} {w1 w2 : TI} (h1 : PI X tg it w1) (h2 : PI X tg it w2) : PI X tg it (fun σ H R => w1 σ H R ∨ w2 σ H R) := ⟨fun pins s σ H R I h => h.elim (h1.run pins s σ H R I) (h2.run pins s σ H R I)⟩
/-! ### is_integer, is_count, is_list -/
def sp_is_integer : Sp := fun vs H Q _ => ∃ i, vs = [V.int i] ∧ Q (.bl true) H
theorem c_is_integer (T : Txt K mg C) : C8.Cal P w K mg base 1 "is_integer" sp_is_integer [] := by
  refine T.d_is_integer.cal sc_is_integer (fun vs H Q E h => ?_) (fun f cdv A outer s H vs Q E hr h => ?_)
  · obtain ⟨i, rfl, _⟩ := h
    rfl
  · obtain ⟨i, rfl, k⟩ := h
    refine ⟨_, (pss_one (ps_ret (pe_and (pe_callB call_isi (by rfl) T.b_isinstance (by decide +kernel) (pa_cons (pv 0) (pa_cons (pe_bltn (v := .ty "int") (by rfl) T.b_int (by decide +kernel) rfl) pa_nil))) (pe_one (pe_not (pe_callB call_isi (by rfl) T.b_isinstance (by decide +kernel) (pa_cons (pv 0) (pa_cons (pe_bltn (v := .ty "bool") (by rfl) T.b_bool (by decide +kernel) rfl) pa_nil)))))))), ?_⟩
    refine ⟨_, rfl, _, _, _, _, true, rfl, .ty _, .base (.int i), kit_ty (by decide +kernel), true, rfl, iteT ?_⟩
    refine ⟨_, rfl, _, _, _, _, false, rfl, .ty _, .base (.int i), kit_ty (by decide +kernel), false, rfl, ?_⟩
    exact k
def sp_is_count : Sp := fun vs H Q _ => ∃ i, vs = [V.int i] ∧ Q (.bl (decide (0 ≤ i))) H
theorem c_is_count (T : Txt K mg C) : C8.Cal P w K mg base 2 "is_count" sp_is_count [] := by
  refine T.d_is_count.cal sc_is_count (fun vs H Q E h => ?_) (fun f cdv A outer s H vs Q E hr h => ?_)
  · obtain ⟨i, rfl, _⟩ := h
    rfl
  · obtain ⟨i, rfl, k⟩ := h
    refine ⟨_, (pss_one (ps_ret (pe_and (C8.pe_c (c_is_integer T) hr (by decide) rfl (pa_cons (pv 0) pa_nil)) (pe_one (pe_cmpR op_ge (pv 0) pe_int (nomark _)))))), ?_⟩
    refine ⟨_, rfl, i, rfl, true, rfl, iteT ?_⟩
    exact ⟨_, rfl, _, _, rfl, rfl, k⟩
def sp_is_list (K : PySem.W.Frag) : Sp := fun vs H Q _ => ∃ a xs, vs = [V.ref a] ∧ (SqL K H a xs ∨ SqT K H a xs) ∧ ∀ H', Same H H' → Q (.bl true) H'
theorem kitAny1 {t : String} {us : List Value} (h : PySem.W.kitOne K (.type t) (us.headD .none) = some true) (hn : us ≠ []) : PySem.W.kitAny K (.type t) us = some true := by
  cases us with
  | nil => exact absurd rfl hn
  | cons c r =>
    unfold PySem.W.kitAny
    rw [show PySem.W.kitOne K (.type t) c = some true from h]
theorem kitAny2 {t : String} {c d : Value} (h : PySem.W.kitOne K (.type t) c = some false) (h2 : PySem.W.kitOne K (.type t) d = some true) : PySem.W.kitAny K (.type t) [c, d] = some true := by
  unfold PySem.W.kitAny
  rw [h]
  exact kitAny1 (us := [d]) h2 (by intro z; cases z)
theorem c_is_list (T : Txt K mg C) : C8.Cal P w K mg base 1 "is_list" (sp_is_list K) [] := by
  refine T.d_is_list.cal sc_is_list (fun vs H Q E h => ?_) (fun f cdv A outer s H vs Q E hr h => ?_)
  · obtain ⟨a, xs, rfl, _⟩ := h
    rfl
  · obtain ⟨a, xs, rfl, hx, k⟩ := h
    refine ⟨_, (pss_one (ps_ret (pe_callB call_isiT (by rfl) T.b_isinstance (by decide +kernel) (pa_cons (pv 0) (pa_cons (pe_tup (pa_cons (pe_bltn (v := .ty "list") (by rfl) T.b_list (by decide +kernel) rfl) (pa_cons (pe_bltn (v := .ty "tuple") (by rfl) T.b_tuple (by decide +kernel) rfl) pa_nil))) pa_nil))))), ?_⟩
    refine ⟨_, rfl, (by show 2 ≤ sizeLine; decide), fun p hp => ?_⟩
    have s1 : Same H (upd H p (.tup [.ty "list", .ty "tuple"])) := Same.new hp
    have c : Paired ClsV [.ty "list", .ty "tuple"] [.type "list", .type "tuple"] := .cons (.ty _) (.cons (.ty _) .nil)
    rcases hx with hx | hx
    · exact ⟨.ref a, p, _, _, _, true, rfl, upd_same, c, tyx_L (s1.seq hx), kitAny1 (kit_ty (by decide +kernel)) (by intro z; cases z), k _ s1⟩
    · exact ⟨.ref a, p, _, _, _, true, rfl, upd_same, c, tyx_T (s1.seqT hx), kitAny2 (kit_ty (by decide +kernel)) (kit_ty (by decide +kernel)), k _ s1⟩
/-! ### _has_lanes, is_content -/
/-- a content, a list -/
def Ct (K : PySem.W.Frag) (H : Hp) (a : Addr) (ns : List Int) : Prop := (SqL K H a (ns.map V.int) ∨ SqT K H a (ns.map V.int)) ∧ 1 ≤ ns.length ∧ ns.length ≤ 12
theorem Ct.to {H H' : Hp} {a : Addr} {ns : List Int} (s : Same H H') (c : Ct K H a ns) : Ct K H' a ns := ⟨c.1.imp s.seq s.seqT, c.2⟩
def sp_has_lanes (K : PySem.W.Frag) : Sp := fun vs H Q _ => ∃ a ns, vs = [V.ref a] ∧ Ct K H a ns ∧ ∀ H', Same H H' → Q (.bl true) H'
theorem c_has_lanes (T : Txt K mg C) : C8.Cal P w K mg base 2 "_has_lanes" (sp_has_lanes K) [] := by
  refine T.d_has_lanes.cal sc_has_lanes (fun vs H Q E h => ?_) (fun f cdv A outer s H vs Q E hr h => ?_)
  · obtain ⟨a, xs, rfl, _⟩ := h
    rfl
  · obtain ⟨a, ns, rfl, c, k⟩ := h
    refine ⟨_, (pss_one (ps_ret (pe_and (C8.pe_c (c_is_list T) hr (by decide) rfl (pa_cons (pv 0) pa_nil)) (pe_one (pe_chain op_le op_le pe_int (pe_callB call_len_seq (by rfl) T.b_len (by decide +kernel) (pa_cons (pv 0) pa_nil)) (C8.pe_gc rfl T.gLANES_AT_MOST)))))), ?_⟩
    refine ⟨_, rfl, a, _, rfl, c.1, fun H1 s1 => ⟨true, rfl, iteT ?_⟩⟩
    refine ⟨_, rfl, a, _, rfl, (c.to s1).1, 1, _, rfl, rfl, _, rfl, ?_⟩
    rw [decide_eq_true (show (1 : Int) ≤ ((ns.map V.int).length : Int) by have := c.2.1; rw [List.length_map]; omega)]
    refine iteT ⟨_, _, rfl, rfl, ?_⟩
    exact q_bl (decide_eq_true (show ((ns.map V.int).length : Int) ≤ 12 by have := c.2.2; rw [List.length_map]; omega)) (k _ s1)
def sp_is_content (K : PySem.W.Frag) : Sp := fun vs H Q _ => ∃ a ns, vs = [V.ref a] ∧ Ct K H a ns ∧ ∀ H', Same H H' → Q (.bl true) H'
theorem c_is_content (T : Txt K mg C) : C8.Cal P w K mg base 3 "is_content" (sp_is_content K) [] := by
  refine T.d_is_content.cal sc_is_content (fun vs H Q E h => ?_) (fun f cdv A outer s H vs Q E hr h => ?_)
  · obtain ⟨a, xs, rfl, _⟩ := h
    rfl
  · obtain ⟨a, ns, rfl, c, k⟩ := h
    refine ⟨_, (pss_one (ps_ret (pe_and (C8.pe_c (c_has_lanes T) hr (by decide) rfl (pa_cons (pv 0) pa_nil)) (pe_one (pe_callB (cr_all rfl) (by rfl) T.b_all (by decide +kernel) (pa_cons (pe_lc (own := [("number", 1)]) (g := (gName 1)) (tt := tYes) rfl sc_is_content.nd (pi_or (pi_list (pv 0)) (pi_tup (pv 0))) (blkOk_by (N := N_is_content) (sc := C8.fnScope s_is_content) (by decide +kernel)) (fun _ _ _ _ _ => (pg_name (i := 1) sc_is_content.nd rfl (Or.inl rfl))) (fun _ _ _ _ _ => pts_nil) (fun _ _ _ _ _ => (C8.pe_c (c_is_integer T) hr (by decide) rfl (pa_cons (pv 1) pa_nil)))) pa_nil)))))), ?_⟩
    refine ⟨_, rfl, a, ns, rfl, c, fun H1 s1 => ⟨true, rfl, iteT ?_⟩⟩
    have c1 := c.to s1
    have few : (ns.map V.int).length ≤ 12 := by rw [List.length_map]; exact c.2.2
    rcases c1.1 with hq | hq
    · refine .inl ⟨_, rfl, a, rfl, ⟨_, hq⟩, fun D hD => lc_pure (walk_list (K := K) (a := a) (xs := ns.map V.int)) ((List.replicate (ns.map V.int).length true).map V.bl) (by simp) hD (by omega) (fun H' s => s.seq hq) (fun i x H H' Q' hi s y q => ?_) (fun H' s hd => ?_)⟩
      · obtain ⟨rfl, hx⟩ := y
        obtain ⟨n, rfl, hn⟩ := get_int hx
        exact ⟨rfl, _, rfl, n, rfl, q _ _ (by rw [List.getElem?_map, List.getElem?_replicate, if_pos hi]; rfl) (Same.refl _)⟩
      · refine ⟨D, _, rfl, SqL.of hd, ?_⟩
        rw [show (List.replicate (ns.map V.int).length true).all id = true by simp]
        exact k _ (s1.trans s)
    · refine .inr ⟨_, rfl, a, rfl, ⟨_, hq⟩, fun D hD => lc_pure (walk_tup (K := K) (a := a) (xs := ns.map V.int)) ((List.replicate (ns.map V.int).length true).map V.bl) (by simp) hD (by omega) (fun H' s => s.seqT hq) (fun i x H H' Q' hi s y q => ?_) (fun H' s hd => ?_)⟩
      · obtain ⟨rfl, hx⟩ := y
        obtain ⟨n, rfl, hn⟩ := get_int hx
        exact ⟨rfl, _, rfl, n, rfl, q _ _ (by rw [List.getElem?_map, List.getElem?_replicate, if_pos hi]; rfl) (Same.refl _)⟩
      · refine ⟨D, _, rfl, SqL.of hd, ?_⟩
        rw [show (List.replicate (ns.map V.int).length true).all id = true by simp]
        exact k _ (s1.trans s)
end
end LL

namespace LL
open PySem L2 PySem.Spec PyProof.Rows
section
variable {P : Program} {w : World} {K : PySem.W.Frag} {mg : Str → Option Value} {base : Heap} {C : Addr}
def sp_is_lane : Sp := fun vs H Q _ => ∃ i n, vs = [V.int i, V.int n] ∧ 0 ≤ i ∧ Q (.bl (decide (i < n))) H
theorem c_is_lane (T : Txt K mg C) : C8.Cal P w K mg base 3 "is_lane" sp_is_lane [] := by
  refine T.d_is_lane.cal sc_is_lane (fun vs H Q E h => ?_) (fun f cdv A outer s H vs Q E hr h => ?_)
  · obtain ⟨i, n, rfl, _⟩ := h
    rfl
  · obtain ⟨i, n, rfl, h0, k⟩ := h
    refine ⟨_, (pss_one (ps_ret (pe_and (C8.pe_c (c_is_count T) hr (by decide) rfl (pa_cons (pv 0) pa_nil)) (pe_one (pe_cmpR op_lt (pv 0) (pv 1) (nomark _)))))), ?_⟩
    refine ⟨_, rfl, i, rfl, _, rfl, ?_⟩
    rw [decide_eq_true h0]
    exact iteT ⟨_, rfl, _, rfl, _, _, rfl, rfl, k⟩
def sp_check_content (K : PySem.W.Frag) : Sp := fun vs H Q _ => ∃ (a : Addr) (ns : List Int) (n : Int), vs = [V.ref a, V.int n] ∧ Ct K H a ns ∧ (ns.length : Int) = n ∧ ∀ H', Same H H' → Q .non H'
theorem c_check_content (T : Txt K mg C) : C8.Cal P w K mg base 4 "check_content" (sp_check_content K) [] := by
  refine T.d_check_content.cal sc_check_content (fun vs H Q E h => ?_) (fun f cdv A outer s H vs Q E hr h => ?_)
  · obtain ⟨a, ns, n, rfl, _⟩ := h
    rfl
  · obtain ⟨a, ns, n, rfl, c, hn, k⟩ := h
    refine ⟨_, (pss_one (ps_if (PW.pt (pw_or (pt_not (pt_val (C8.pe_c (c_is_content T) hr (by decide) rfl (pa_cons (pv 0) pa_nil)))) (pw_or1 (pt_cmpR op_ne (pe_callB call_len_seq (by rfl) T.b_len (by decide +kernel) (pa_cons (pv 0) pa_nil)) (pv 1) (nomark _)))))
       (pss_one ps_never)
       pss_nil)), ?_⟩
    refine ⟨_, rfl, a, ns, rfl, c, fun H1 s1 => ⟨true, rfl, iteF ⟨_, rfl, a, _, rfl, (c.to s1).1, _, rfl, rfl, _, rfl, ?_⟩⟩⟩
    exact iteNS (show V.int ((ns.map V.int).length : Int) = V.int n by rw [List.length_map, hn]) (k _ s1)
def sp_check_many : Sp := fun vs H Q _ => ∃ i, vs = [V.int i] ∧ 0 ≤ i ∧ Q .non H
theorem c_check_many (T : Txt K mg C) : C8.Cal P w K mg base 3 "check_many" sp_check_many [] := by
  refine T.d_check_many.cal sc_check_many (fun vs H Q E h => ?_) (fun f cdv A outer s H vs Q E hr h => ?_)
  · obtain ⟨i, rfl, _⟩ := h
    rfl
  · obtain ⟨i, rfl, h0, k⟩ := h
    refine ⟨_, (pss_one (ps_if (pt_not (pt_val (C8.pe_c (c_is_count T) hr (by decide) rfl (pa_cons (pv 0) pa_nil))))
       (pss_one ps_never)
       pss_nil)), ?_⟩
    refine ⟨_, rfl, i, rfl, _, rfl, ?_⟩
    exact iteNS h0 k
end
end LL

namespace LL
open PySem L2 PySem.Spec PyProof.Rows
/-! ### gates, as data -/
inductive Gt where
  | low (i j : Nat) | high (i j : Nat) | sort (i j : Nat) | copy (i j : Nat) | add (i : Nat) (c : Int)
def Gt.vals : Gt → List V
  | .low i j => [.str "low", .int i, .int j]
  | .high i j => [.str "high", .int i, .int j]
  | .sort i j => [.str "sort", .int i, .int j]
  | .copy i j => [.str "copy", .int i, .int j]
  | .add i c => [.str "add", .int i, .int c]
def Gt.ok (n : Nat) : Gt → Prop
  | .low i j => i < n ∧ j < n ∧ i ≠ j
  | .high i j => i < n ∧ j < n ∧ i ≠ j
  | .sort i j => i < n ∧ j < n ∧ i ≠ j
  | .copy i j => i < n ∧ j < n ∧ i ≠ j
  | .add i _ => i < n
def at0 (ns : List Int) (i : Nat) : Int := ns.getD i 0
def mn (a b : Int) : Int := if b < a then b else a
def mx (a b : Int) : Int := if b > a then b else a
def Gt.done : Gt → List Int → List Int
  | .low i j, ns => ns.set i (mn (at0 ns i) (at0 ns j))
  | .high i j, ns => ns.set i (mx (at0 ns i) (at0 ns j))
  | .sort i j, ns => (ns.set i (mn (at0 ns i) (at0 ns j))).set j (mx (at0 ns i) (at0 ns j))
  | .copy i j, ns => ns.set i (at0 ns j)
  | .add i c, ns => ns.set i (at0 ns i + c)
theorem done_length (g : Gt) (ns : List Int) : (g.done ns).length = ns.length := by
  cases g <;> simp [Gt.done]
def runs (gs : List Gt) (ns : List Int) : List Int := gs.foldl (fun x g => g.done x) ns
theorem runs_length : ∀ (gs : List Gt) (ns : List Int), (runs gs ns).length = ns.length
  | [], _ => rfl
  | g :: r, ns => by
    show (runs r (g.done ns)).length = _
    rw [runs_length r, done_length]
/-- the contents ahead of all gates and behind each -/
def rowsOf (gs : List Gt) (ns : List Int) : List (List Int) := (List.range (gs.length + 1)).map fun k => runs (gs.take k) ns
theorem runs_take_succ {gs : List Gt} {ns : List Int} {i : Nat} {g : Gt} (h : gs[i]? = some g) : runs (gs.take (i + 1)) ns = g.done (runs (gs.take i) ns) := by
  rw [List.take_add_one, h]
  unfold runs
  rw [List.foldl_append]
  rfl
/-! ### what stands in the heap -/
def IsG (K : PySem.W.Frag) (H : Hp) (v : V) (g : Gt) : Prop := ∃ t, v = .ref t ∧ SqT K H t g.vals
def IsI (K : PySem.W.Frag) (H : Hp) (v : V) (ns : List Int) : Prop := ∃ a, v = .ref a ∧ SqL K H a (ns.map V.int)
def Ls {α : Type} (K : PySem.W.Frag) (R : V → α → Prop) (H : Hp) (a : Addr) (ys : List α) : Prop := ∃ xs, SqL K H a xs ∧ All2 R xs ys
abbrev Gs (K : PySem.W.Frag) (H : Hp) (a : Addr) (gs : List Gt) : Prop := Ls K (IsG K H) H a gs
abbrev Rws (K : PySem.W.Frag) (H : Hp) (a : Addr) (rows : List (List Int)) : Prop := Ls K (IsI K H) H a rows
theorem IsG.to {K : PySem.W.Frag} {H H' : Hp} (s : Same H H') {v : V} {g : Gt} (h : IsG K H v g) : IsG K H' v g := let ⟨t, e, q⟩ := h; ⟨t, e, s.seqT q⟩
theorem IsI.to {K : PySem.W.Frag} {H H' : Hp} (s : Same H H') {v : V} {g : List Int} (h : IsI K H v g) : IsI K H' v g := let ⟨t, e, q⟩ := h; ⟨t, e, s.seq q⟩
theorem Gs.to {K : PySem.W.Frag} {H H' : Hp} (s : Same H H') {a : Addr} {gs : List Gt} (h : Gs K H a gs) : Gs K H' a gs := let ⟨xs, q, r⟩ := h; ⟨xs, s.seq q, r.mono fun _ _ z => z.to s⟩
theorem Rws.to {K : PySem.W.Frag} {H H' : Hp} (s : Same H H') {a : Addr} {gs : List (List Int)} (h : Rws K H a gs) : Rws K H' a gs := let ⟨xs, q, r⟩ := h; ⟨xs, s.seq q, r.mono fun _ _ z => z.to s⟩
/-! ### places -/
theorem int_at {ns : List Int} {i : Nat} (h : i < ns.length) : (ns.map V.int)[i]? = some (.int (at0 ns i)) := by
  rw [List.getElem?_map, List.getElem?_eq_getElem h]
  show some (V.int ns[i]) = some (V.int (ns.getD i 0))
  rw [List.getD_eq_getElem?_getD, List.getElem?_eq_getElem h]
  rfl
theorem ixN_nat {n i : Nat} (h : i < n) : ixN n (i : Int) = some i := by
  unfold ixN
  rw [if_pos (by omega), if_pos (by omega)]
  simp
theorem int_atI {ns : List Int} {i : Nat} (h : i < ns.length) : atI (ns.map V.int) (i : Int) = some (.int (at0 ns i)) := atI_nat (int_at h)
theorem map_set_int (ns : List Int) (i : Nat) (z : Int) : (ns.map V.int).set i (.int z) = (ns.set i z).map V.int := by
  rw [List.map_set]
section
variable {P : Program} {w : World} {K : PySem.W.Frag} {mg : Str → Option Value} {base : Heap} {C : Addr}
/-! ### is_gate, behind_gate -/
def sp_is_gate (K : PySem.W.Frag) : Sp := fun vs H Q _ => ∃ (t : Addr) (g : Gt) (n : Nat), vs = [V.ref t, V.int n] ∧ SqT K H t g.vals ∧ g.ok n ∧ Q (.bl true) H
theorem c_is_gate (T : Txt K mg C) : C8.Cal P w K mg base 4 "is_gate" (sp_is_gate K) [] := by
  refine T.d_is_gate.cal sc_is_gate (fun vs H Q E h => ?_) (fun f cdv A outer s H vs Q E hr h => ?_)
  · obtain ⟨t, g, n, rfl, _⟩ := h
    rfl
  · obtain ⟨t, g, n, rfl, hg, ho, k⟩ := h
    obtain ⟨aT, mgT, hT⟩ := T.gTWO
    refine ⟨_, (pss_cons (ps_if (PW.pt (pw_or (pt_not (pt_val (pe_callB call_isi (by rfl) T.b_isinstance (by decide +kernel) (pa_cons (pv 0) (pa_cons (pe_bltn (v := .ty "tuple") (by rfl) T.b_tuple (by decide +kernel) rfl) pa_nil))))) (pw_or1 (pt_cmpR op_ne (pe_callB call_len_seq (by rfl) T.b_len (by decide +kernel) (pa_cons (pv 0) pa_nil)) pe_int (nomark _)))))
       (pss_one (ps_ret pe_bl))
       pss_nil)
      (pss_cons (ps_asg (pv 0) (pg_tup (n := 3) rfl (pgs_cons (pg_name (i := 2) sc_is_gate.nd rfl (Or.inl rfl)) (pgs_cons (pg_name (i := 3) sc_is_gate.nd rfl (Or.inl rfl)) (pgs_cons (pg_name (i := 4) sc_is_gate.nd rfl (Or.inl rfl)) pgs_nil)))))
      (pss_cons (ps_if (PW.pt (pw_or (pt_not (pt_val (pe_callB call_isi (by rfl) T.b_isinstance (by decide +kernel) (pa_cons (pv 2) (pa_cons (pe_bltn (v := .ty "str") (by rfl) T.b_str (by decide +kernel) rfl) pa_nil))))) (pw_or1 (pt_not (pt_val (C8.pe_c (c_is_lane T) hr (by decide) rfl (pa_cons (pv 3) (pa_cons (pv 1) pa_nil))))))))
       (pss_one (ps_ret pe_bl))
       pss_nil)
      (pss_cons (ps_if (pt_cmpR op_eq (pv 2) pe_str (nomark _))
       (pss_one (ps_ret (C8.pe_c (c_is_integer T) hr (by decide) rfl (pa_cons (pv 4) pa_nil))))
       pss_nil)
      (pss_one (ps_ret (pe_and (pe_cmpR op_in_seq (pv 2) (C8.pe_gc (v := .ref aT) rfl ⟨_, mgT, rfl⟩) (by rfl)) (pe_and (C8.pe_c (c_is_lane T) hr (by decide) rfl (pa_cons (pv 4) (pa_cons (pv 1) pa_nil))) (pe_one (pe_cmpR op_ne (pv 4) (pv 3) (nomark _))))))))))), ?_⟩
    refine ⟨_, rfl, _, _, _, _, true, rfl, .ty _, tyx_T hg, kit_ty (by decide +kernel), true, rfl, iteF ?_⟩
    have hl : g.vals.length = 3 := by cases g <;> rfl
    refine ⟨_, rfl, t, _, rfl, .inr hg, by rfl, _, rfl, iteNS (show V.int ((g.vals.length : Nat) : Int) = V.int 3 by rw [hl]; rfl) ?_⟩
    cases g with
    | add i c =>
      have hi : i < n := ho
      refine ⟨_, rfl, t, _, rfl, hg, rfl, _, _, rfl, _, _, rfl, _, _, rfl, rfl, ?_⟩
      refine ⟨_, rfl, _, _, _, _, true, rfl, .ty _, .base (.str _), kit_ty (by decide +kernel), true, rfl, iteF ?_⟩
      refine ⟨_, rfl, _, rfl, i, n, rfl, Int.natCast_nonneg i, _, rfl, ?_⟩
      refine iteNS (show (i : Int) < n by omega) ?_
      refine ⟨_, rfl, rfl, _, rfl, ?_⟩
      refine itT (by decide +kernel) ?_
      exact ⟨_, rfl, c, rfl, k⟩
    | low i j =>
      obtain ⟨hi, hj, hij⟩ := ho
      refine ⟨_, rfl, t, _, rfl, hg, rfl, _, _, rfl, _, _, rfl, _, _, rfl, rfl, ?_⟩
      refine ⟨_, rfl, _, _, _, _, true, rfl, .ty _, .base (.str _), kit_ty (by decide +kernel), true, rfl, iteF ?_⟩
      refine ⟨_, rfl, _, rfl, i, n, rfl, Int.natCast_nonneg i, _, rfl, ?_⟩
      refine iteNS (show (i : Int) < n by omega) ?_
      refine ⟨_, rfl, rfl, _, rfl, ?_⟩
      refine itF (by decide +kernel) ?_
      refine ⟨_, rfl, aT, _, rfl, .inr (hT _), rfl, rfl, _, rfl, ?_⟩
      refine itT (by decide +kernel) ?_
      refine ⟨_, rfl, _, rfl, j, n, rfl, Int.natCast_nonneg j, _, rfl, ?_⟩
      refine itT (decide_eq_true (show (j : Int) < n by omega)) ?_
      refine ⟨_, rfl, _, rfl, rfl, ?_⟩
      exact q_bl (by rw [Bool.not_eq_true', decide_eq_false_iff_not]; intro z; injection z with z; omega) k
    | high i j =>
      obtain ⟨hi, hj, hij⟩ := ho
      refine ⟨_, rfl, t, _, rfl, hg, rfl, _, _, rfl, _, _, rfl, _, _, rfl, rfl, ?_⟩
      refine ⟨_, rfl, _, _, _, _, true, rfl, .ty _, .base (.str _), kit_ty (by decide +kernel), true, rfl, iteF ?_⟩
      refine ⟨_, rfl, _, rfl, i, n, rfl, Int.natCast_nonneg i, _, rfl, ?_⟩
      refine iteNS (show (i : Int) < n by omega) ?_
      refine ⟨_, rfl, rfl, _, rfl, ?_⟩
      refine itF (by decide +kernel) ?_
      refine ⟨_, rfl, aT, _, rfl, .inr (hT _), rfl, rfl, _, rfl, ?_⟩
      refine itT (by decide +kernel) ?_
      refine ⟨_, rfl, _, rfl, j, n, rfl, Int.natCast_nonneg j, _, rfl, ?_⟩
      refine itT (decide_eq_true (show (j : Int) < n by omega)) ?_
      refine ⟨_, rfl, _, rfl, rfl, ?_⟩
      exact q_bl (by rw [Bool.not_eq_true', decide_eq_false_iff_not]; intro z; injection z with z; omega) k
    | sort i j =>
      obtain ⟨hi, hj, hij⟩ := ho
      refine ⟨_, rfl, t, _, rfl, hg, rfl, _, _, rfl, _, _, rfl, _, _, rfl, rfl, ?_⟩
      refine ⟨_, rfl, _, _, _, _, true, rfl, .ty _, .base (.str _), kit_ty (by decide +kernel), true, rfl, iteF ?_⟩
      refine ⟨_, rfl, _, rfl, i, n, rfl, Int.natCast_nonneg i, _, rfl, ?_⟩
      refine iteNS (show (i : Int) < n by omega) ?_
      refine ⟨_, rfl, rfl, _, rfl, ?_⟩
      refine itF (by decide +kernel) ?_
      refine ⟨_, rfl, aT, _, rfl, .inr (hT _), rfl, rfl, _, rfl, ?_⟩
      refine itT (by decide +kernel) ?_
      refine ⟨_, rfl, _, rfl, j, n, rfl, Int.natCast_nonneg j, _, rfl, ?_⟩
      refine itT (decide_eq_true (show (j : Int) < n by omega)) ?_
      refine ⟨_, rfl, _, rfl, rfl, ?_⟩
      exact q_bl (by rw [Bool.not_eq_true', decide_eq_false_iff_not]; intro z; injection z with z; omega) k
    | copy i j =>
      obtain ⟨hi, hj, hij⟩ := ho
      refine ⟨_, rfl, t, _, rfl, hg, rfl, _, _, rfl, _, _, rfl, _, _, rfl, rfl, ?_⟩
      refine ⟨_, rfl, _, _, _, _, true, rfl, .ty _, .base (.str _), kit_ty (by decide +kernel), true, rfl, iteF ?_⟩
      refine ⟨_, rfl, _, rfl, i, n, rfl, Int.natCast_nonneg i, _, rfl, ?_⟩
      refine iteNS (show (i : Int) < n by omega) ?_
      refine ⟨_, rfl, rfl, _, rfl, ?_⟩
      refine itF (by decide +kernel) ?_
      refine ⟨_, rfl, aT, _, rfl, .inr (hT _), rfl, rfl, _, rfl, ?_⟩
      refine itT (by decide +kernel) ?_
      refine ⟨_, rfl, _, rfl, j, n, rfl, Int.natCast_nonneg j, _, rfl, ?_⟩
      refine itT (decide_eq_true (show (j : Int) < n by omega)) ?_
      refine ⟨_, rfl, _, rfl, rfl, ?_⟩
      exact q_bl (by rw [Bool.not_eq_true', decide_eq_false_iff_not]; intro z; injection z with z; omega) k
end
end LL

namespace LL
open PySem L2 PySem.Spec PyProof.Rows
section
variable {P : Program} {w : World} {K : PySem.W.Frag} {mg : Str → Option Value} {base : Heap} {C : Addr}
def sp_behind_gate (K : PySem.W.Frag) : Sp := fun vs H Q _ => ∃ (t a : Addr) (g : Gt) (ns : List Int), vs = [V.ref t, V.ref a] ∧ SqT K H t g.vals ∧ SqL K H a (ns.map V.int) ∧ g.ok ns.length ∧ ∀ H' p, Same H H' → H p = none → H' p = some (.lst ((g.done ns).map V.int)) → Q (.ref p) H'
theorem c_behind_gate (T : Txt K mg C) : C8.Cal P w K mg base 1 "behind_gate" (sp_behind_gate K) [] := by
  refine T.d_behind_gate.cal sc_behind_gate (fun vs H Q E h => ?_) (fun f cdv A outer s H vs Q E hr h => ?_)
  · obtain ⟨t, a, g, ns, rfl, _⟩ := h
    rfl
  · obtain ⟨t, a, g, ns, rfl, hg, ha, ho, k⟩ := h
    refine ⟨_, (pss_cons (ps_asg (pv 0) (pg_tup (n := 3) rfl (pgs_cons (pg_name (i := 2) sc_behind_gate.nd rfl (Or.inl rfl)) (pgs_cons (pg_name (i := 3) sc_behind_gate.nd rfl (Or.inl rfl)) (pgs_cons (pg_name (i := 4) sc_behind_gate.nd rfl (Or.inl rfl)) pgs_nil)))))
      (pss_cons (ps_set (i := 5) sc_behind_gate.nd rfl (Or.inl rfl) (pe_callTy call_list_of (by rfl) T.b_list (by decide +kernel) (pa_cons (pv 1) pa_nil)))
      (pss_cons (ps_if (pt_cmpR op_eq (pv 2) pe_str (nomark _))
       (pss_one (ps_asg (pe_op op_add (pe_ix ix_list (pv 1) (pv 3) (fun _ _ => rfl)) (pv 4)) (pg_sub (pv 5) (pv 3) set_list)))
       (pss_one (ps_if (pt_cmpR op_eq (pv 2) pe_str (nomark _))
         (pss_one (ps_asg (pe_ix ix_list (pv 1) (pv 4) (fun _ _ => rfl)) (pg_sub (pv 5) (pv 3) set_list)))
         (pss_one (ps_if (pt_cmpR op_eq (pv 2) pe_str (nomark _))
           (pss_one (ps_asg (pe_callB (call_min2 rfl) (by rfl) T.b_min (by decide +kernel) (pa_cons (pe_ix ix_list (pv 1) (pv 3) (fun _ _ => rfl)) (pa_cons (pe_ix ix_list (pv 1) (pv 4) (fun _ _ => rfl)) pa_nil))) (pg_sub (pv 5) (pv 3) set_list)))
           (pss_one (ps_if (pt_cmpR op_eq (pv 2) pe_str (nomark _))
             (pss_one (ps_asg (pe_callB (call_max2 rfl) (by rfl) T.b_max (by decide +kernel) (pa_cons (pe_ix ix_list (pv 1) (pv 3) (fun _ _ => rfl)) (pa_cons (pe_ix ix_list (pv 1) (pv 4) (fun _ _ => rfl)) pa_nil))) (pg_sub (pv 5) (pv 3) set_list)))
             (pss_cons (ps_asg (pe_callB (call_min2 rfl) (by rfl) T.b_min (by decide +kernel) (pa_cons (pe_ix ix_list (pv 1) (pv 3) (fun _ _ => rfl)) (pa_cons (pe_ix ix_list (pv 1) (pv 4) (fun _ _ => rfl)) pa_nil))) (pg_sub (pv 5) (pv 3) set_list))
              (pss_one (ps_asg (pe_callB (call_max2 rfl) (by rfl) T.b_max (by decide +kernel) (pa_cons (pe_ix ix_list (pv 1) (pv 3) (fun _ _ => rfl)) (pa_cons (pe_ix ix_list (pv 1) (pv 4) (fun _ _ => rfl)) pa_nil))) (pg_sub (pv 5) (pv 4) set_list)))))))))))
      (pss_one (ps_ret (pv 5)))))), ?_⟩
    cases g with
    | add i c =>
      have hi : i < ns.length := ho
      refine ⟨_, rfl, t, _, rfl, hg, rfl, _, _, rfl, _, _, rfl, _, _, rfl, rfl, ?_⟩
      refine ⟨_, rfl, a, _, rfl, .inl ha, fun p hp => ?_⟩
      have s1 : Same H (upd H p (.lst (ns.map V.int))) := Same.new hp
      refine ⟨_, rfl, rfl, _, rfl, ?_⟩
      refine itT (by decide +kernel) ?_
      refine ⟨_, rfl, _, rfl, a, _, _, _, rfl, rfl, s1.seq ha, int_atI hi, _, rfl, _, _, rfl, rfl, ?_⟩
      refine ⟨_, rfl, _, rfl, p, _, _, i, rfl, rfl, upd_same, ixN_nat (by rw [List.length_map]; exact hi), ?_⟩
      refine ⟨_, rfl, k _ p (s1.mut hp) hp ?_⟩
      rw [upd_same, map_set_int]
      rfl
    | low i j =>
      obtain ⟨hi, hj, hij⟩ := ho
      refine ⟨_, rfl, t, _, rfl, hg, rfl, _, _, rfl, _, _, rfl, _, _, rfl, rfl, ?_⟩
      refine ⟨_, rfl, a, _, rfl, .inl ha, fun p hp => ?_⟩
      have s1 : Same H (upd H p (.lst (ns.map V.int))) := Same.new hp
      refine ⟨_, rfl, rfl, _, rfl, ?_⟩
      refine itF (by decide +kernel) ?_
      refine ⟨_, rfl, rfl, _, rfl, ?_⟩
      refine itF (by decide +kernel) ?_
      refine ⟨_, rfl, rfl, _, rfl, ?_⟩
      refine itT (by decide +kernel) ?_
      refine ⟨_, rfl, _, rfl, a, _, _, _, rfl, rfl, s1.seq ha, int_atI hi, _, rfl, _, rfl, a, _, _, _, rfl, rfl, s1.seq ha, int_atI hj, _, _, rfl, ?_⟩
      refine ⟨_, rfl, _, rfl, p, _, _, i, rfl, rfl, upd_same, ixN_nat (by rw [List.length_map]; exact hi), ?_⟩
      refine ⟨_, rfl, k _ p (s1.mut hp) hp ?_⟩
      rw [upd_same, map_set_int]
      rfl
    | high i j =>
      obtain ⟨hi, hj, hij⟩ := ho
      refine ⟨_, rfl, t, _, rfl, hg, rfl, _, _, rfl, _, _, rfl, _, _, rfl, rfl, ?_⟩
      refine ⟨_, rfl, a, _, rfl, .inl ha, fun p hp => ?_⟩
      have s1 : Same H (upd H p (.lst (ns.map V.int))) := Same.new hp
      refine ⟨_, rfl, rfl, _, rfl, ?_⟩
      refine itF (by decide +kernel) ?_
      refine ⟨_, rfl, rfl, _, rfl, ?_⟩
      refine itF (by decide +kernel) ?_
      refine ⟨_, rfl, rfl, _, rfl, ?_⟩
      refine itF (by decide +kernel) ?_
      refine ⟨_, rfl, rfl, _, rfl, ?_⟩
      refine itT (by decide +kernel) ?_
      refine ⟨_, rfl, _, rfl, a, _, _, _, rfl, rfl, s1.seq ha, int_atI hi, _, rfl, _, rfl, a, _, _, _, rfl, rfl, s1.seq ha, int_atI hj, _, _, rfl, ?_⟩
      refine ⟨_, rfl, _, rfl, p, _, _, i, rfl, rfl, upd_same, ixN_nat (by rw [List.length_map]; exact hi), ?_⟩
      refine ⟨_, rfl, k _ p (s1.mut hp) hp ?_⟩
      rw [upd_same, map_set_int]
      rfl
    | sort i j =>
      obtain ⟨hi, hj, hij⟩ := ho
      refine ⟨_, rfl, t, _, rfl, hg, rfl, _, _, rfl, _, _, rfl, _, _, rfl, rfl, ?_⟩
      refine ⟨_, rfl, a, _, rfl, .inl ha, fun p hp => ?_⟩
      have s1 : Same H (upd H p (.lst (ns.map V.int))) := Same.new hp
      refine ⟨_, rfl, rfl, _, rfl, ?_⟩
      refine itF (by decide +kernel) ?_
      refine ⟨_, rfl, rfl, _, rfl, ?_⟩
      refine itF (by decide +kernel) ?_
      refine ⟨_, rfl, rfl, _, rfl, ?_⟩
      refine itF (by decide +kernel) ?_
      refine ⟨_, rfl, rfl, _, rfl, ?_⟩
      refine itF (by decide +kernel) ?_
      refine ⟨_, rfl, _, rfl, a, _, _, _, rfl, rfl, s1.seq ha, int_atI hi, _, rfl, _, rfl, a, _, _, _, rfl, rfl, s1.seq ha, int_atI hj, _, _, rfl, ?_⟩
      refine ⟨_, rfl, _, rfl, p, _, _, i, rfl, rfl, upd_same, ixN_nat (by rw [List.length_map]; exact hi), ?_⟩
      have s2 := s1.mut (p := p) (o := .lst ((ns.map V.int).set i (.int (mn (at0 ns i) (at0 ns j))))) hp
      refine ⟨_, rfl, _, rfl, a, _, _, _, rfl, rfl, s2.seq ha, int_atI hi, _, rfl, _, rfl, a, _, _, _, rfl, rfl, s2.seq ha, int_atI hj, _, _, rfl, ?_⟩
      refine ⟨_, rfl, _, rfl, p, _, _, j, rfl, rfl, upd_same, ixN_nat (by rw [List.length_set, List.length_map]; exact hj), ?_⟩
      refine ⟨_, rfl, k _ p (s2.mut hp) hp ?_⟩
      rw [upd_same, map_set_int, map_set_int]
      rfl
    | copy i j =>
      obtain ⟨hi, hj, hij⟩ := ho
      refine ⟨_, rfl, t, _, rfl, hg, rfl, _, _, rfl, _, _, rfl, _, _, rfl, rfl, ?_⟩
      refine ⟨_, rfl, a, _, rfl, .inl ha, fun p hp => ?_⟩
      have s1 : Same H (upd H p (.lst (ns.map V.int))) := Same.new hp
      refine ⟨_, rfl, rfl, _, rfl, ?_⟩
      refine itF (by decide +kernel) ?_
      refine ⟨_, rfl, rfl, _, rfl, ?_⟩
      refine itT (by decide +kernel) ?_
      refine ⟨_, rfl, _, rfl, a, _, _, _, rfl, rfl, s1.seq ha, int_atI hj, ?_⟩
      refine ⟨_, rfl, _, rfl, p, _, _, i, rfl, rfl, upd_same, ixN_nat (by rw [List.length_map]; exact hi), ?_⟩
      refine ⟨_, rfl, k _ p (s1.mut hp) hp ?_⟩
      rw [upd_same, map_set_int]
      rfl
/-- tuple(xs) -/
abbrev rTupOf (K : PySem.W.Frag) : List V → Hp → VK → Prop := fun xs H Q => ∃ p ys, xs = [V.ref p] ∧ ((SqL K H p ys ∧ ∀ (l : Addr), H l = none → Q (V.ref l) (upd H l (HO.tup ys))) ∨ SqT K H p ys ∧ Q (V.ref p) H)
/-! ### nets -/
def pf (l : Addr) (n : Int) : List (Str × V) := [("_lanes", .int n), ("_gates", .ref l)]
theorem pf_eq (l : Addr) (n : Int) : putF "_gates" (.ref l) (putF "_lanes" (.int n) []) = pf l n := by
  show (if ("_lanes" : Str) = "_gates" then _ else (("_lanes" : Str), V.int n) :: putF "_gates" (.ref l) []) = _
  rw [if_neg (by decide +kernel)]
  rfl
theorem pf_lanes (l : Addr) (n : Int) : (pf l n).lookup ("_lanes" : Str) = some (.int n) := by rfl
theorem pf_gates (l : Addr) (n : Int) : (pf l n).lookup ("_gates" : Str) = some (.ref l) := by rfl
structure NetAt (K : PySem.W.Frag) (C : Addr) (H : Hp) (p : Addr) (n : Nat) (gs : List Gt) : Prop where
  at_ : ∃ dx l xs, H p = some (.ins C dx (pf l n)) ∧ H l = some (.lst xs) ∧ All2 (IsG K H) xs gs
  low : 1 ≤ n
  high : n ≤ 12
  ok : ∀ g ∈ gs, g.ok n
  few : gs.length ≤ 400
theorem NetAt.old {H : Hp} {p : Addr} {n : Nat} {gs : List Gt} (h : NetAt K C H p n gs) : ∃ dx l, H p = some (.ins C dx (pf l n)) ∧ Gs K H l gs := let ⟨dx, l, xs, h1, h2, h3⟩ := h.at_; ⟨dx, l, h1, xs, SqL.of h2, h3⟩
theorem NetAt.to {H H' : Hp} {p : Addr} {n : Nat} {gs : List Gt} (s : Same H H') (h : NetAt K C H p n gs) : NetAt K C H' p n gs := by
  obtain ⟨⟨dx, l, xs, h1, h2, h3⟩, a, b, c, d⟩ := h
  exact ⟨⟨dx, l, xs, s _ _ h1, s _ _ h2, h3.mono fun _ _ z => z.to s⟩, a, b, c, d⟩
def sp_check_lanes : Sp := fun vs H Q _ => ∃ (n : Int), vs = [V.int n, V.int 1] ∧ 1 ≤ n ∧ n ≤ 12 ∧ Q .non H
theorem c_check_lanes (T : Txt K mg C) : C8.Cal P w K mg base 2 "check_lanes" sp_check_lanes [] := by
  refine T.d_check_lanes.cal sc_check_lanes (fun vs H Q E h => ?_) (fun f cdv A outer s H vs Q E hr h => ?_)
  · obtain ⟨n, rfl, _⟩ := h
    rfl
  · obtain ⟨n, rfl, h1, h2, k⟩ := h
    refine ⟨_, (pss_one (ps_if (PW.pt (pw_or (pt_not (pt_val (C8.pe_c (c_is_integer T) hr (by decide) rfl (pa_cons (pv 0) pa_nil)))) (pw_or1 (pt_not (pt_chain op_le op_le (pv 1) (pv 0) (C8.pe_gc rfl T.gLANES_AT_MOST))))))
       (pss_one ps_never)
       pss_nil)), ?_⟩
    refine ⟨_, rfl, n, rfl, true, rfl, iteF ?_⟩
    refine ⟨_, rfl, _, rfl, _, _, rfl, rfl, _, rfl, itT (decide_eq_true h1) ⟨_, _, rfl, rfl, _, rfl, ?_⟩⟩
    exact iteNS h2 k
def sp_check_gates (K : PySem.W.Frag) : Sp := fun vs H Q _ => ∃ (a : Addr) (n : Nat) (gs : List Gt), vs = [V.ref a, V.int n] ∧ Gs K H a gs ∧ (∀ g ∈ gs, g.ok n) ∧ gs.length ≤ 400 ∧ ∀ H', Same H H' → Q .non H'
theorem c_check_gates (T : Txt K mg C) : C8.Cal P w K mg base 5 "_check_gates" (sp_check_gates K) [] := by
  refine T.d_check_gates.cal sc_check_gates (fun vs H Q E h => ?_) (fun f cdv A outer s H vs Q E hr h => ?_)
  · obtain ⟨a, n, gs, rfl, _⟩ := h
    rfl
  · obtain ⟨a, n, gs, rfl, ⟨xs, hx, hr2⟩, ho, hf, k⟩ := h
    obtain ⟨mc, u, cr, cv⟩ := T.cM
    refine ⟨_, (pss_cons (ps_if (pt_not (pt_val (C8.pe_c (c_is_list T) hr (by decide) rfl (pa_cons (pv 0) pa_nil))))
       (pss_one ps_never)
       pss_nil)
      (pss_cons (ps_for PassesOwn.never rfl (pi_enum (by rfl) T.b_enumerate (pa_cons (pv 0) pa_nil)) (pg_tup rfl (pgs_cons (pg_name (i := 2) sc_check_gates.nd rfl (Or.inl rfl)) (pgs_cons (pg_name (i := 3) sc_check_gates.nd rfl (Or.inl rfl)) pgs_nil)))
       (pss_one (ps_if (pt_not (pt_val (C8.pe_c (c_is_gate T) hr (by decide) rfl (pa_cons (pv 3) (pa_cons (pv 1) pa_nil)))))
         (pss_one ps_never)
         pss_nil)))
      (pss_one (ps_if (pt_cmpR op_gt (pe_callB call_len_seq (by rfl) T.b_len (by decide +kernel) (pa_cons (pv 0) pa_nil)) (ClX.pe_cval (C8.pe_gc (v := .ref C) rfl ⟨_, T.mgC, rfl⟩)) (nomark _))
       (pss_one ps_never)
       pss_nil)))), ?_⟩
    refine ⟨_, rfl, a, xs, rfl, .inl hx, fun H1 s1 => ⟨true, rfl, iteF ?_⟩⟩
    refine ⟨_, rfl, a, xs, rfl, s1.seq hx, for_it walk_enum (fun i σ H' => Same H1 H' ∧ ∃ u v, σ = [some (.ref a), some (.int n), u, v]) ⟨Same.refl _, _, _, rfl⟩ (fun i σ H' _ p => p.1.seq (s1.seq hx)) (fun i x σ H2 H3 hi p y => ?_) (fun σ H2 p => ?_)⟩
    · obtain ⟨s2, u, v, rfl⟩ := p
      obtain ⟨T', x1, x2, rfl, hT, rfl, h1, h2⟩ := y
      cases h1
      obtain ⟨g, hg1, t, rfl, hg2⟩ := hr2.get h2
      have s3 : Same H2 (upd H2 T' (.tup [V.int (i : Nat), V.ref t])) := Same.new hT
      refine ⟨T', _, rfl, SqT.of upd_same, rfl, _, _, rfl, _, _, rfl, rfl, ?_⟩
      refine ⟨_, rfl, _, rfl, t, g, n, rfl, (s1.trans (s2.trans s3)).seqT hg2, ho g (List.mem_of_getElem? hg1), true, rfl, iteF ?_⟩
      exact ⟨s2.trans s3, _, _, rfl⟩
    · obtain ⟨s2, u', v', rfl⟩ := p
      refine ⟨_, rfl, a, _, rfl, .inl ((s1.trans s2).seq hx), C, mc, _, _, rfl, cr, cv, _, _, rfl, rfl, _, rfl, ?_⟩
      refine itF (decide_eq_false ?_) (k _ (s1.trans s2))
      rw [hr2.1]
      omega
end
end LL

namespace LL
open PySem L2 PySem.Spec PyProof.Rows
section
variable {P : Program} {w : World} {K : PySem.W.Frag} {mg : Str → Option Value} {base : Heap} {C : Addr}
def sp_Net_init (K : PySem.W.Frag) (C : Addr) : Sp := fun vs H Q _ => ∃ (H0 : Hp) (x dx a : Addr) (n : Nat) (gs : List Gt), vs = [V.ref x, V.int n, V.ref a] ∧ Same H0 H ∧ H0 x = none ∧ H x = some (.ins C dx []) ∧ Gs K H0 a gs ∧ 1 ≤ n ∧ n ≤ 12 ∧ (∀ g ∈ gs, g.ok n) ∧ gs.length ≤ 400 ∧
  ∀ H', Same H0 H' → NetAt K C H' x n gs → Q .non H'
theorem c_Net (T : Txt K mg C) : C8.Mak P w K mg base 6 "Net" C (sp_Net_init K C) [] := by
  obtain ⟨f, fd, F, M, b⟩ := T.i_init
  refine C8.mak0 M T.mgC F b .nil sc_Net_init (fun vs H Q E h => ?_) (fun cdv A outer s H vs Q E hr h => ?_)
  · obtain ⟨H0, x, dx, a, n, gs, rfl, _⟩ := h
    rfl
  · obtain ⟨H0, x, dx, a, n, gs, rfl, s0, x0, hx, ⟨xs, hS, hA⟩, h1, h12, ho, hf, k⟩ := h
    refine ⟨_, (pss_cons (ps_expr (C8.pe_c (c_check_lanes T) hr (by decide) rfl (pa_cons (pv 1) (pa_cons pe_int pa_nil))))
      (pss_cons (ps_expr (C8.pe_c (c_check_gates T) hr (by decide) rfl (pa_cons (pv 2) (pa_cons (pv 1) pa_nil))))
      (pss_cons (ps_fld (pv 0) (pv 1) rfl)
      (pss_one (ps_fld (pv 0) (pe_lc (own := [("gate", 3)]) (g := (gName 3)) (tt := tYes) rfl sc_Net_init.nd (pi_list (pv 2)) (blkOk_by (N := N_Net_init) (sc := C8.fnScope s_Net_init) (by decide +kernel)) (fun _ _ _ _ _ => (pg_name (i := 3) sc_Net_init.nd rfl (Or.inl rfl))) (fun _ _ _ _ _ => pts_nil) (fun _ _ _ _ _ => (pe_callTy (T := "tuple") (r := rTupOf K) call_tuple_of (by rfl) T.b_tuple (by decide +kernel) (pa_cons (pv 3) pa_nil)))) rfl))))), ?_⟩
    refine ⟨_, rfl, (n : Int), rfl, by omega, by omega, ?_⟩
    refine ⟨_, rfl, _, rfl, a, n, gs, rfl, Gs.to s0 ⟨xs, hS, hA⟩, ho, hf, fun H1 s1 => ?_⟩
    refine ⟨_, rfl, _, rfl, x, C, dx, _, rfl, s1 _ _ hx, T.cl, T.nL, (by show 0 < 1000; decide), ?_⟩
    have s2 : Same H0 (upd H1 x (.ins C dx (putF "_lanes" (.int n) []))) := (s0.trans s1).mut x0
    refine ⟨_, rfl, a, rfl, ⟨_, s2.seq hS⟩, fun D hD => lc_pure (walk_list (xs := xs)) xs rfl hD ?_ (fun H' s => (s2.trans s).seq hS) (fun i v H' H2 Q' hi s y q => ?_) (fun H' s hd => ?_)⟩
    · rw [hA.1]
      omega
    · obtain ⟨rfl, hv⟩ := y
      obtain ⟨g, hg, t, rfl, ht⟩ := hA.get hv
      exact ⟨rfl, _, rfl, t, g.vals, rfl, .inr ⟨(s2.trans s).seqT ht, q _ _ hv (Same.refl _)⟩⟩
    · refine ⟨_, rfl, x, C, dx, _, rfl, s _ _ upd_same, T.cl, T.nG, (by show 1 < 1000; decide), ?_⟩
      have s3 := (s2.trans s).mut (p := x) (o := .ins C dx (pf D n)) x0
      have nD : D ≠ x := fun z => by
        rw [z, upd_same] at hD
        cases hD
      rw [pf_eq]
      refine k _ s3 ⟨⟨dx, D, xs, upd_same, by rw [upd_ne nD]; exact hd, hA.mono fun _ _ z => z.to s3⟩, h1, h12, ho, hf⟩
/-! ### lanes, is_plain, gates(), the call, == -/
def sp_Net_lanes (K : PySem.W.Frag) (C : Addr) : Sp := fun vs H Q _ => ∃ (p : Addr) (n : Nat) (gs : List Gt), vs = [V.ref p] ∧ NetAt K C H p n gs ∧ Q (.int n) H
theorem c_lanes (T : Txt K mg C) : ∃ p g fd, PropOf K C "lanes" p g ∧ FnOk P w K mg base CX0 1 g fd ["self"] (sp_Net_lanes K C) ∧ Binds K fd ["self"] [] := by
  obtain ⟨p, g, fd, F, Pr, b⟩ := T.i_lanes
  refine ⟨p, g, fd, Pr, C8.fn0 F sc_Net_lanes (fun vs H Q E h => ?_) (fun cdv A outer s H vs Q E hr h => ?_), b⟩
  · obtain ⟨p, n, gs, rfl, _⟩ := h
    rfl
  · obtain ⟨p, n, gs, rfl, N, k⟩ := h
    obtain ⟨dx, l, hp, _⟩ := N.old
    exact ⟨_, (pss_one (ps_ret (pe_fld (pv 0) rfl))), ⟨_, rfl, p, C, dx, _, _, rfl, hp, T.cl, T.nL, pf_lanes l n, k⟩⟩
def sp_Net_call (K : PySem.W.Frag) (C : Addr) : Sp := fun vs H Q _ => ∃ (p a : Addr) (n : Nat) (gs : List Gt) (ns : List Int), vs = [V.ref p, V.ref a] ∧ NetAt K C H p n gs ∧ Ct K H a ns ∧ ns.length = n ∧
  ∀ H' q, Same H H' → H q = none → H' q = some (.lst ((runs gs ns).map V.int)) → Q (.ref q) H'
theorem c_call (T : Txt K mg C) : ∃ g, StX.CallO K C g ∧ FnR P w K mg base CX0 5 g (sp_Net_call K C) := by
  obtain ⟨f, fd, F, M, b⟩ := T.i_call
  refine ⟨f, M, ((C8.fn0 F sc_Net_call (k := 4) (sp := sp_Net_call K C) (fun vs H Q E h => ?_) (fun cdv A outer s H vs Q E hr h => ?_)).raw b .nil).imp fun vs H Q E h => by rw [List.append_nil]; exact h⟩
  · obtain ⟨p, a, n, gs, ns, rfl, _⟩ := h
    rfl
  · obtain ⟨p, a, n, gs, ns, rfl, N, c, hn, k⟩ := h
    obtain ⟨dx, l, hp, xs, hS, hA⟩ := id N.old
    refine ⟨_, (pss_cons (ps_expr (C8.pe_c (c_check_content T) hr (by decide) rfl (pa_cons (pv 1) (pa_cons (pe_fld (pv 0) rfl) pa_nil))))
      (pss_cons (ps_set (i := 2) sc_Net_call.nd rfl (Or.inl rfl) (pe_callTy call_list_of (by rfl) T.b_list (by decide +kernel) (pa_cons (pv 1) pa_nil)))
      (pss_cons (ps_for PassesOwn.never rfl (pi_list (pe_fld (pv 0) rfl)) (pg_name (i := 3) sc_Net_call.nd rfl (Or.inl rfl))
       (pss_one (ps_set (i := 2) sc_Net_call.nd rfl (Or.inl rfl) (C8.pe_c (c_behind_gate T) hr (by decide) rfl (pa_cons (pv 3) (pa_cons (pv 2) pa_nil))))))
      (pss_one (ps_ret (pv 2)))))), ?_⟩
    refine ⟨_, rfl, _, rfl, p, C, dx, _, _, rfl, hp, T.cl, T.nL, pf_lanes l n, a, ns, _, rfl, c, by omega, fun H1 s1 => ?_⟩
    refine ⟨_, rfl, a, _, rfl, (c.to s1).1, fun q hq => ?_⟩
    have s2 : Same H (upd H1 q (.lst (ns.map V.int))) := s1.trans (Same.new hq)
    have q0 := s1.free hq
    refine ⟨_, rfl, p, C, dx, _, _, rfl, s2 _ _ hp, T.cl, T.nG, pf_gates l n, l, rfl, ⟨_, s2.seq hS⟩, ?_⟩
    refine for_it walk_list (fun i σ H' => Same H H' ∧ ∃ r v, H r = none ∧ H' r = some (.lst ((runs (gs.take i) ns).map V.int)) ∧ σ = [some (.ref p), some (.ref a), some (.ref r), v]) ⟨s2, q, none, q0, upd_same, rfl⟩ (fun i σ H' _ z => z.1.seq hS) (fun i x σ H2 H3 hi z y => ?_) (fun σ H2 z => ?_)
    · obtain ⟨s3, r, v, r0, hr', rfl⟩ := z
      obtain ⟨rfl, hx⟩ := y
      obtain ⟨g, hg, t, rfl, ht⟩ := hA.get hx
      refine ⟨_, rfl, _, rfl, t, r, g, _, rfl, s3.seqT ht, SqL.of hr', ?_, fun H4 q' s4 hq' h4 => ?_⟩
      · rw [runs_length, hn]
        exact N.ok g (List.mem_of_getElem? hg)
      · exact ⟨s3.trans s4, q', _, s3.free hq', by rw [runs_take_succ hg]; exact h4, rfl⟩
    · obtain ⟨s3, r, v, r0, hr', rfl⟩ := z
      rw [hA.1, List.take_length] at hr'
      exact ⟨_, rfl, k _ r s3 r0 hr'⟩
end
end LL

namespace LL
open PySem L2 PySem.Spec PyProof.Rows
def Gt.isAdd : Gt → Bool
  | .add _ _ => true
  | _ => false
def Gt.word : Gt → Str
  | .low _ _ => "low"
  | .high _ _ => "high"
  | .sort _ _ => "sort"
  | .copy _ _ => "copy"
  | .add _ _ => "add"
theorem vals_word (g : Gt) : g.vals[0]? = some (.str g.word) := by cases g <;> rfl
def plainL (gs : List Gt) : Bool := gs.all fun g => !g.isAdd
theorem inV_words : ∀ gs : List Gt, inV (.str "add") (gs.map fun g => V.str g.word) = !plainL gs
  | [] => rfl
  | g :: r => by
    have ih := inV_words r
    show (eqV (.str g.word) (.str "add") || inV (.str "add") (r.map fun g => V.str g.word)) = !((!g.isAdd) && plainL r)
    rw [ih]
    have e : eqV (.str g.word) (.str "add") = g.isAdd := by
      cases g
      · exact (by decide +kernel : eqV (.str "low") (.str "add") = false)
      · exact (by decide +kernel : eqV (.str "high") (.str "add") = false)
      · exact (by decide +kernel : eqV (.str "sort") (.str "add") = false)
      · exact (by decide +kernel : eqV (.str "copy") (.str "add") = false)
      · exact (by decide +kernel : eqV (.str "add") (.str "add") = true)
    rw [e]
    cases g.isAdd <;> simp
section
variable {P : Program} {w : World} {K : PySem.W.Frag} {mg : Str → Option Value} {base : Heap} {C : Addr}
def sp_Net_is_plain (K : PySem.W.Frag) (C : Addr) : Sp := fun vs H Q _ => ∃ (p : Addr) (n : Nat) (gs : List Gt), vs = [V.ref p] ∧ NetAt K C H p n gs ∧ ∀ H', Same H H' → Q (.bl (plainL gs)) H'
theorem c_is_plain (T : Txt K mg C) : ∃ p g fd, PropOf K C "is_plain" p g ∧ FnOk P w K mg base CX0 1 g fd ["self"] (sp_Net_is_plain K C) ∧ Binds K fd ["self"] [] := by
  obtain ⟨p, g, fd, F, Pr, b⟩ := T.i_plain
  refine ⟨p, g, fd, Pr, C8.fn0 F sc_Net_is_plain (fun vs H Q E h => ?_) (fun cdv A outer s H vs Q E hr h => ?_), b⟩
  · obtain ⟨p, n, gs, rfl, _⟩ := h
    rfl
  · obtain ⟨p, n, gs, rfl, N, k⟩ := h
    obtain ⟨dx, l, hp, xs, hS, hA⟩ := N.old
    refine ⟨_, (pss_one (ps_ret (pe_cmpR op_notIn_seq pe_str (pe_lc (own := [("gate", 1)]) (g := (gName 1)) (tt := tYes) rfl sc_Net_is_plain.nd (pi_list (pe_fld (pv 0) rfl)) (blkOk_by (N := N_Net_is_plain) (sc := C8.fnScope s_Net_is_plain) (by decide +kernel)) (fun _ _ _ _ _ => (pg_name (i := 1) sc_Net_is_plain.nd rfl (Or.inl rfl))) (fun _ _ _ _ _ => pts_nil) (fun _ _ _ _ _ => (pe_ix (r := rIxT K) ix_tup (pv 1) pe_int (fun _ _ => rfl)))) (by rfl)))), ?_⟩
    refine ⟨_, rfl, p, C, dx, _, _, rfl, hp, T.cl, T.nG, pf_gates l n, l, rfl, ⟨_, hS⟩, fun D hD => lc_pure (walk_list (xs := xs)) (gs.map fun g => V.str g.word) (by rw [List.length_map, hA.1]) hD ?_ (fun H' s => s.seq hS) (fun i v H' H2 Q' hi s y q => ?_) (fun H' s hd => ?_)⟩
    · rw [hA.1]
      have := N.few
      omega
    · obtain ⟨rfl, hv⟩ := y
      obtain ⟨g, hg, t, rfl, ht⟩ := hA.get hv
      refine ⟨rfl, _, rfl, t, _, 0, _, rfl, rfl, s.seqT ht, atI_nat (j := 0) (vals_word g), q _ _ ?_ (Same.refl _)⟩
      rw [List.getElem?_map, hg]
      rfl
    · refine ⟨D, _, rfl, .inl (SqL.of hd), rfl, ?_, ?_⟩
      · rw [List.all_map]
        exact List.all_eq_true.mpr fun _ _ => rfl
      · refine q_bl2 ?_ (k _ s)
        show (!inV (.str "add") (gs.map fun g => V.str g.word)) = plainL gs
        rw [inV_words, Bool.not_not]
/-! ### == -/
def Gt.py : Gt → PyData
  | .low i j => .tuple [.str "low", .int i, .int j]
  | .high i j => .tuple [.str "high", .int i, .int j]
  | .sort i j => .tuple [.str "sort", .int i, .int j]
  | .copy i j => .tuple [.str "copy", .int i, .int j]
  | .add i c => .tuple [.str "add", .int i, .int c]
theorem isG_dp {H : Hp} {v : V} {g : Gt} (h : IsG K H v g) : Dp K H v g.py := by
  obtain ⟨t, rfl, h⟩ := h
  cases g <;> exact .tup h (.cons (.str _) (.cons (.int _) (.cons (.int _) .nil)))
theorem dpAll_of {α : Type} {H : Hp} {f : α → PyData} : ∀ {xs : List V} {ys : List α}, All2 (fun v y => Dp K H v (f y)) xs ys → DpAll K H xs (ys.map f)
  | [], [], _ => .nil
  | [], _ :: _, h => by cases h.1
  | _ :: _, [], h => by cases h.1
  | x :: xs, y :: ys, h => .cons (h.2 0 x y rfl rfl) (dpAll_of ⟨Nat.succ.inj h.1, fun i u v h1 h2 => h.2 (i + 1) u v h1 h2⟩)
theorem gs_dp {H : Hp} {a : Addr} {gs : List Gt} (h : Gs K H a gs) : Dp K H (.ref a) (.list (gs.map Gt.py)) := by
  obtain ⟨xs, hS, hA⟩ := h
  exact .lst hS (dpAll_of (hA.mono fun _ _ z => isG_dp z))
theorem all_lay {α : Type} {f : α → PyData} (h : ∀ y, (f y).canLay0 = true) : ∀ ys : List α, PyData.canLayAll0 (ys.map f) = true
  | [] => rfl
  | y :: ys => by
    show ((f y).canLay0 && PyData.canLayAll0 (ys.map f)) = true
    rw [h y, all_lay h ys]
    rfl
theorem all_depth {α : Type} {f : α → PyData} {k : Nat} (h : ∀ y, (f y).depth ≤ k) : ∀ ys : List α, PyData.depthAll (ys.map f) ≤ k
  | [] => Nat.zero_le _
  | y :: ys => Nat.max_le.mpr ⟨h y, all_depth h ys⟩
theorem shaped_of {d : PyData} (h1 : d.canLay0 = true) (h2 : d.depth ≤ 64) : SeqAt.shaped d = true := by
  show (d.canLay0 && decide (d.depth ≤ 64)) = true
  rw [h1, decide_eq_true h2]
  rfl
theorem g_lay (g : Gt) : g.py.canLay0 = true := by
  cases g
  · exact (by decide +kernel : PyData.canLay0 (.str "low") && true = true)
  · exact (by decide +kernel : PyData.canLay0 (.str "high") && true = true)
  · exact (by decide +kernel : PyData.canLay0 (.str "sort") && true = true)
  · exact (by decide +kernel : PyData.canLay0 (.str "copy") && true = true)
  · exact (by decide +kernel : PyData.canLay0 (.str "add") && true = true)
theorem g_depth (g : Gt) : g.py.depth ≤ 1 := by cases g <;> exact Nat.le_refl 1
theorem gs_shaped (gs : List Gt) : SeqAt.shaped (.list (gs.map Gt.py)) = true := by
  refine shaped_of (all_lay g_lay gs) ?_
  have := all_depth (f := Gt.py) g_depth gs
  show PyData.depthAll (gs.map Gt.py) + 1 ≤ 64
  omega
theorem gs_same (gs : List Gt) : PyData.eqv (.list (gs.map Gt.py)) (.list (gs.map Gt.py)) = true := SeqAt.eqv_refl _ (all_lay g_lay gs)
def RNet (K : PySem.W.Frag) (C : Addr) : Addr → Addr → Hp → Prop := fun a b H => ∃ n gs, NetAt K C H a n gs ∧ NetAt K C H b n gs
theorem c_eq (T : Txt K mg C) : ∃ f fd, FnOk P w K mg base CX0 1 f fd ["self", "other"] (spEq (RNet K C)) ∧ PySem.W.findIn K (.ref C) "__eq__" = some (some (.ref f)) ∧ PySem.W.isFn K (.ref f) = true ∧ Binds K fd ["self", "other"] [] := by
  obtain ⟨f, fd, F, h1, h2, b⟩ := T.i_eq
  refine ⟨f, fd, C8.fn0 F sc_Net_eq (fun vs H Q E h => ?_) (fun cdv A outer s H vs Q E hr h => ?_), h1, h2, b⟩
  · obtain ⟨a, b, rfl, _⟩ := h
    rfl
  · obtain ⟨a, b, rfl, ⟨n, gs, Na, Nb⟩, k⟩ := h
    obtain ⟨dx, l, hp, hG⟩ := Na.old
    obtain ⟨dy, m, hq, hM⟩ := Nb.old
    refine ⟨_, (pss_one (ps_ret (pe_and (pe_callB call_isi (by rfl) T.b_isinstance (by decide +kernel) (pa_cons (pv 1) (pa_cons (C8.pe_gc (v := .ref C) rfl ⟨_, T.mgC, rfl⟩) pa_nil))) (pe_and (pe_cmpR op_eq (pe_fld (pv 0) rfl) (pe_fld (pv 1) rfl) (nomark _)) (pe_one (pe_cmpR (op_eqD hr.units) (pe_fld (pv 0) rfl) (pe_fld (pv 1) rfl) (nomark _))))))), ?_⟩
    refine ⟨_, rfl, _, _, _, _, true, rfl, .own C, .base (.ins hq T.cl T.q_ha T.q_hn T.q_ht T.q_hm), if_pos (by simp), true, rfl, iteT ?_⟩
    refine ⟨_, rfl, a, C, dx, _, _, rfl, hp, T.cl, T.nL, pf_lanes l n, _, rfl, b, C, dy, _, _, rfl, hq, T.cl, T.nL, pf_lanes m n, rfl, _, rfl, ?_⟩
    refine itT (decide_eq_true rfl) ?_
    refine ⟨_, rfl, a, C, dx, _, _, rfl, hp, T.cl, T.nG, pf_gates l n, _, rfl, b, C, dy, _, _, rfl, hq, T.cl, T.nG, pf_gates m n, _, _, gs_dp hG, gs_dp hM, gs_shaped gs, gs_shaped gs, ?_⟩
    exact q_bl (gs_same gs) (k _ (fun _ _ z => z))
/-! ### contents, passed, rounds -/
/-- a list that H did not know, of these ints -/
def IsN (H H' : Hp) (v : V) (ns : List Int) : Prop := ∃ b, v = .ref b ∧ H b = none ∧ H' b = some (.lst (ns.map V.int))
/-- a new list of new lists -/
def NewRows (H H' : Hp) (r : Addr) (rows : List (List Int)) : Prop := H r = none ∧ ∃ xs, H' r = some (.lst xs) ∧ All2 (IsN H H') xs rows
theorem NewRows.rws {H H' : Hp} {r : Addr} {rows : List (List Int)} (h : NewRows H H' r rows) : Rws K H' r rows := by
  obtain ⟨h0, xs, h1, h2⟩ := h
  exact ⟨xs, SqL.of h1, h2.mono fun v ns ⟨b, e, _, q⟩ => ⟨b, e, SqL.of q⟩⟩
/-- while it grows: its items, none of them itself, the last one at b -/
def Grow (H H' : Hp) (r b : Addr) (rows : List (List Int)) (last : List Int) : Prop := H r = none ∧ H b = none ∧ b ≠ r ∧ H' b = some (.lst (last.map V.int)) ∧ ∃ ys, H' r = some (.lst (ys ++ [.ref b])) ∧
  All2 (fun v ns => ∃ b, v = .ref b ∧ b ≠ r ∧ H b = none ∧ H' b = some (.lst (ns.map V.int))) (ys ++ [V.ref b]) (rows ++ [last])
theorem Grow.new {H H' : Hp} {r b : Addr} {rows : List (List Int)} {last : List Int} (h : Grow H H' r b rows last) : NewRows H H' r (rows ++ [last]) := by
  obtain ⟨h0, _, _, _, ys, h1, h2⟩ := h
  exact ⟨h0, _, h1, h2.mono fun v ns ⟨b, e, _, q, z⟩ => ⟨b, e, q, z⟩⟩
theorem Grow.start {H H1 : Hp} {r b : Addr} {ns : List Int} (s : Same H H1) (hb : H1 b = none) (hr : upd H1 b (.lst (ns.map V.int)) r = none) :
    Grow H (upd (upd H1 b (.lst (ns.map V.int))) r (.lst [.ref b])) r b [] ns := by
  have nbr : b ≠ r := fun z => by
    rw [← z, upd_same] at hr
    cases hr
  have hr1 : H1 r = none := by
    rw [upd_ne nbr.symm] at hr
    exact hr
  have e : upd (upd H1 b (.lst (ns.map V.int))) r (.lst [.ref b]) b = some (.lst (ns.map V.int)) := by rw [upd_ne nbr, upd_same]
  exact ⟨s.free hr1, s.free hb, nbr, e, [], upd_same, All2.nil.snoc ⟨b, rfl, nbr, s.free hb, e⟩⟩
theorem Grow.step {H H2 H4 : Hp} {r b q : Addr} {rows : List (List Int)} {last nxt : List Int} (g : Grow H H2 r b rows last) (s2 : Same H H2) (s : Same H2 H4) (hq : H2 q = none) (h4 : H4 q = some (.lst (nxt.map V.int))) :
    ∃ xs, H4 r = some (.lst xs) ∧ xs.length = rows.length + 1 ∧ Grow H (upd H4 r (.lst (xs ++ [.ref q]))) r q (rows ++ [last]) nxt := by
  obtain ⟨h0, hb0, nbr, hb, ys, hr, hA⟩ := g
  have nqr : q ≠ r := fun z => by
    rw [z, hr] at hq
    cases hq
  refine ⟨_, s _ _ hr, by rw [hA.1, List.length_append]; rfl, h0, s2.free hq, nqr, by rw [upd_ne nqr]; exact h4, ys ++ [.ref b], upd_same, ?_⟩
  refine All2.snoc (hA.mono fun v ns ⟨b', e, n', z, y⟩ => ⟨b', e, n', z, ?_⟩) ⟨q, rfl, nqr, s2.free hq, by rw [upd_ne nqr]; exact h4⟩
  rw [upd_ne n']
  exact s _ _ y
theorem Grow.more {H H2 H4 : Hp} {r b : Addr} {rows : List (List Int)} {last : List Int} (g : Grow H H2 r b rows last) (s : Same H2 H4) : Grow H H4 r b rows last := by
  obtain ⟨h0, hb0, nbr, hb, ys, hr, hA⟩ := g
  exact ⟨h0, hb0, nbr, s _ _ hb, ys, s _ _ hr, hA.mono fun v ns ⟨b', e, n', z, y⟩ => ⟨b', e, n', z, s _ _ y⟩⟩
theorem atI_end {α : Type} (xs : List α) (v : α) : atI (xs ++ [v]) (-1) = some v := atI_last xs v
theorem rows_snoc (f : Nat → List Int) (i : Nat) : (List.range (i + 1)).map f = (List.range i).map f ++ [f i] := by
  rw [List.range_succ, List.map_append]
  rfl
def rnds (gs : List Gt) : Nat → List Int → List Int
  | 0, ns => ns
  | k + 1, ns => runs gs (rnds gs k ns)
theorem rnds_length (gs : List Gt) (ns : List Int) : ∀ k, (rnds gs k ns).length = ns.length
  | 0 => rfl
  | k + 1 => by
    show (runs gs (rnds gs k ns)).length = _
    rw [runs_length, rnds_length gs ns k]
def roundsOf (gs : List Gt) (ns : List Int) (k : Nat) : List (List Int) := (List.range (k + 1)).map fun i => rnds gs i ns
def sp_passed (K : PySem.W.Frag) (C : Addr) : Sp := fun vs H Q _ => ∃ (p a : Addr) (n : Nat) (gs : List Gt) (ns : List Int) (m : Nat), vs = [V.ref p, V.ref a, V.int m] ∧ NetAt K C H p n gs ∧ Ct K H a ns ∧ ns.length = n ∧ m ≤ 1000 ∧
  ∀ H' r, Same H H' → NewRows H H' r (roundsOf gs ns m) → Q (.ref r) H'
theorem fn_passed (T : Txt K mg C) {f : Addr} {fd : FuncData} (F : C8.Fun K "passed" "passed" s_passed f fd) : FnOk P w K mg base C8.CX0 6 f fd ["net", "content", "many"] (sp_passed K C) := by
  refine C8.fn0 F sc_passed (fun vs H Q E h => ?_) (fun cdv A outer s H vs Q E hr h => ?_)
  · obtain ⟨p, a, n, gs, ns, m, rfl, _⟩ := h
    rfl
  · obtain ⟨p, a, n, gs, ns, m, rfl, N, c, hn, hm, k⟩ := h
    obtain ⟨pp, pg, pfd, pP, pF, pB⟩ := c_lanes (P := P) (w := w) (base := base) T
    obtain ⟨fc, cO, cF⟩ := c_call (P := P) (w := w) (base := base) T
    refine ⟨_, (pss_cons (ps_expr (C8.pe_c (c_check_content T) hr (by decide) rfl (pa_cons (pv 1) (pa_cons (pe_prop (pv 0) T.cl pP pF (hr.mono (by decide)) pB .nil pass0 rfl) pa_nil))))
      (pss_cons (ps_expr (C8.pe_c (c_check_many T) hr (by decide) rfl (pa_cons (pv 2) pa_nil)))
      (pss_cons (ps_if (pt_cmpR op_gt (pv 2) (C8.pe_gc rfl T.gMOST_ROUNDS) (nomark _))
       (pss_one ps_never)
       pss_nil)
      (pss_cons (ps_set (i := 3) sc_passed.nd rfl (Or.inl rfl) (pe_lst (pa_cons (pe_callTy call_list_of (by rfl) T.b_list (by decide +kernel) (pa_cons (pv 1) pa_nil)) pa_nil)))
      (pss_cons (ps_for PassesOwn.never rfl (pi_range1 rfl T.b_range (pa_cons (pv 2) pa_nil)) (pg_name (i := 4) sc_passed.nd rfl (Or.inl rfl))
       (pss_one (ps_expr (pe_bm PySem.F.plainAttrs_list PySem.F.slot_list_append PySem.F.type_list_append mt_append (pv 3) (pa_cons (StX.pe_callO (pv 0) cO cF hr pass0 (pa_cons (pe_ix ix_list (pv 3) (pe_un un_neg pe_int) (fun _ _ => rfl)) pa_nil)) pa_nil)))))
      (pss_one (ps_ret (pv 3)))))))), ?_⟩
    obtain ⟨dx, l, hp, xs, hS, hA⟩ := id N.old
    refine ⟨_, rfl, _, rfl, p, dx, _, rfl, hp, p, n, gs, rfl, N, ?_⟩
    refine ⟨a, ns, _, rfl, c, by omega, fun H1 s1 => ?_⟩
    refine ⟨_, rfl, (m : Int), rfl, by omega, ?_⟩
    refine ⟨_, rfl, _, _, rfl, rfl, _, rfl, itF (decide_eq_false (by omega)) ?_⟩
    refine ⟨_, rfl, a, _, rfl, (c.to s1).1, fun b hb => ?_⟩
    refine ⟨by show 1 ≤ sizeLine; decide, fun r hrr => ?_⟩
    have g0 := Grow.start s1 hb hrr
    have s2 := (s1.trans (Same.new (o := .lst (ns.map V.int)) hb)).trans (Same.new (o := .lst [.ref b]) hrr)
    refine ⟨_, rfl, (m : Int), rfl, by omega, by omega, ?_⟩
    refine for_it (n := m) (walk_range (lo := 0)) (fun i σ H' => Same H H' ∧ ∃ b v, Grow H H' r b ((List.range i).map fun k => rnds gs k ns) (rnds gs i ns) ∧ σ = [some (.ref p), some (.ref a), some (.int m), some (.ref r), v]) ⟨s2, b, none, g0, rfl⟩ (fun _ _ _ _ _ => trivial) (fun i x σ H2 H3 hi z y => ?_) (fun σ H2 z => ?_)
    · obtain ⟨s4, b4, v, G, rfl⟩ := z
      obtain ⟨rfl, rfl⟩ := y
      obtain ⟨ys, hr4, _⟩ := G.2.2.2.2
      refine ⟨_, rfl, .inl ⟨rfl, _, SqL.of hr4⟩, ?_⟩
      refine ⟨_, rfl, p, rfl, _, rfl, _, rfl, r, _, _, _, rfl, rfl, SqL.of hr4, atI_end _ _, .inr ⟨dx, _, s4 _ _ hp⟩, ?_⟩
      have hl : (rnds gs i ns).length = ns.length := rnds_length gs ns i
      refine ⟨p, b4, n, gs, rnds gs i ns, rfl, N.to s4, ⟨.inl (SqL.of G.2.2.2.1), by rw [hl]; exact c.2.1, by rw [hl]; exact c.2.2⟩, by rw [hl]; exact hn, fun H5 q5 s5 hq5 h5 => ?_⟩
      obtain ⟨zs, hz, hzl, G5⟩ := G.step s4 s5 hq5 h5
      refine ⟨r, zs, _, rfl, rfl, hz, ?_, ?_⟩
      · rw [hzl, List.length_map, List.length_range]
        exact size100 (by omega)
      · refine ⟨(s4.trans s5).mut G.1, q5, _, ?_, rfl⟩
        rw [rows_snoc]
        exact G5
    · obtain ⟨s4, b4, v, G, rfl⟩ := z
      refine ⟨_, rfl, k _ r s4 ?_⟩
      have e := G.new
      rw [← rows_snoc (fun k => rnds gs k ns)] at e
      exact e
theorem c_passed (T : Txt K mg C) : C8.Cal P w K mg base 6 "passed" (sp_passed K C) [] := let ⟨f, fd, D, b⟩ := T.d_passed; ⟨f, fd, _, [], fn_passed T D.fn, D.mgf, D.kp, b, .nil⟩
theorem ck_passed (T : Txt K mg C) : CalK P w K mg base 6 "passed" (sp_passed K C) ["many", "content", "net"] rot3 := let ⟨f, fd, D, b⟩ := T.k_passed; ⟨f, fd, _, _, fn_passed T D.fn, D.mgf, D.kp, b⟩
def sp_rounds (K : PySem.W.Frag) (C : Addr) : Sp := fun vs H Q _ => ∃ (p a : Addr) (n : Nat) (gs : List Gt) (ns : List Int) (m : Nat), vs = [V.ref p, V.ref a, V.int m] ∧ NetAt K C H p n gs ∧ Ct K H a ns ∧ ns.length = n ∧ m ≤ 1000 ∧
  ∀ H' r, Same H H' → H r = none → H' r = some (.lst ((rnds gs m ns).map V.int)) → Q (.ref r) H'
theorem fn_rounds (T : Txt K mg C) {f : Addr} {fd : FuncData} (F : C8.Fun K "rounds" "rounds" s_rounds f fd) : FnOk P w K mg base C8.CX0 7 f fd ["net", "content", "many"] (sp_rounds K C) := by
  refine C8.fn0 F sc_rounds (fun vs H Q E h => ?_) (fun cdv A outer s H vs Q E hr h => ?_)
  · obtain ⟨p, a, n, gs, ns, m, rfl, _⟩ := h
    rfl
  · obtain ⟨p, a, n, gs, ns, m, rfl, N, c, hn, hm, k⟩ := h
    refine ⟨_, (pss_one (ps_ret (pe_ix ix_list (C8.pe_c (c_passed T) hr (by decide) rfl (pa_cons (pv 0) (pa_cons (pv 1) (pa_cons (pv 2) pa_nil)))) (pe_un un_neg pe_int) (fun _ _ => rfl)))), ?_⟩
    refine ⟨_, rfl, _, rfl, _, rfl, p, a, n, gs, ns, m, rfl, N, c, hn, hm, fun H1 r s1 ⟨hr0, xs, hr1, hA⟩ => ?_⟩
    have hl : xs.length = m + 1 := by rw [hA.1]; unfold roundsOf; rw [List.length_map, List.length_range]
    obtain ⟨v, hv⟩ : ∃ v, xs[m]? = some v := ⟨xs[m], List.getElem?_eq_getElem (by omega)⟩
    have hv2 := hA.2 m v (rnds gs m ns) hv (by unfold roundsOf; rw [List.getElem?_map, List.getElem?_range (by omega)]; rfl)
    obtain ⟨b, rfl, hb0, hb1⟩ := hv2
    refine ⟨_, rfl, r, _, _, V.ref b, rfl, rfl, SqL.of hr1, ?_, k _ b s1 hb0 hb1⟩
    unfold atI ixN
    rw [if_neg (by decide), if_pos (by omega)]
    show xs[((-1 : Int) + (xs.length : Int)).toNat]? = _
    rw [show ((-1 : Int) + (xs.length : Int)).toNat = m by omega]
    exact hv
theorem c_rounds (T : Txt K mg C) : C8.Cal P w K mg base 7 "rounds" (sp_rounds K C) [] := let ⟨f, fd, D, b⟩ := T.d_rounds; ⟨f, fd, _, [], fn_rounds T D.fn, D.mgf, D.kp, b, .nil⟩
theorem ck_rounds (T : Txt K mg C) : CalK P w K mg base 7 "rounds" (sp_rounds K C) ["many", "content", "net"] rot3 := let ⟨f, fd, D, b⟩ := T.k_rounds; ⟨f, fd, _, _, fn_rounds T D.fn, D.mgf, D.kp, b⟩
end
end LL

namespace LL
open PySem L2 PySem.Spec PyProof.Rows
theorem All2.take {α β : Type} {R : α → β → Prop} {xs : List α} {ys : List β} (h : All2 R xs ys) (i : Nat) : All2 R (xs.take i) (ys.take i) := ⟨by rw [List.length_take, List.length_take, h.1], fun j x y h1 h2 => by
  rw [List.getElem?_take] at h1 h2
  split at h1
  · rw [if_pos ‹_›] at h2
    exact h.2 j x y h1 h2
  · cases h1⟩
theorem All2.drop {α β : Type} {R : α → β → Prop} {xs : List α} {ys : List β} (h : All2 R xs ys) (i : Nat) : All2 R (xs.drop i) (ys.drop i) := ⟨by rw [List.length_drop, List.length_drop, h.1], fun j x y h1 h2 => by
  rw [List.getElem?_drop] at h1 h2
  exact h.2 _ x y h1 h2⟩
theorem All2.app {α β : Type} {R : α → β → Prop} {xs xs' : List α} {ys ys' : List β} (h : All2 R xs ys) (h' : All2 R xs' ys') : All2 R (xs ++ xs') (ys ++ ys') := ⟨by rw [List.length_append, List.length_append, h.1, h'.1], fun j x y h1 h2 => by
  by_cases hj : j < xs.length
  · rw [List.getElem?_append_left hj] at h1
    rw [List.getElem?_append_left (h.1 ▸ hj)] at h2
    exact h.2 j x y h1 h2
  · rw [List.getElem?_append_right (by omega)] at h1
    rw [List.getElem?_append_right (by have := h.1; omega), ← h.1] at h2
    exact h'.2 _ x y h1 h2⟩
theorem All2.rep {α β : Type} {R : α → β → Prop} {xs : List α} {ys : List β} (h : All2 R xs ys) : ∀ k, All2 R (List.replicate k xs).flatten (List.replicate k ys).flatten
  | 0 => All2.nil
  | k + 1 => by
    rw [List.replicate_succ, List.replicate_succ, List.flatten_cons, List.flatten_cons]
    exact h.app (h.rep k)
theorem cut_take {xs : List V} {i : Nat} (h : i ≤ xs.length) : cutV xs none (some (i : Int)) = xs.take i := by
  unfold cutV
  rw [HT.sIx_none, HT.sIx_nat, List.drop_zero, Nat.min_eq_left h, Nat.sub_zero]
theorem cut_drop {xs : List V} {i : Nat} (h : i ≤ xs.length) : cutV xs (some (i : Int)) none = xs.drop i := by
  unfold cutV
  rw [HT.sIx_none, HT.sIx_nat, Nat.min_eq_left h]
  exact List.take_of_length_le (by rw [List.length_drop]; omega)
def repG (k : Nat) (gs : List Gt) : List Gt := (List.replicate k gs).flatten
theorem mem_rep {k : Nat} {gs : List Gt} {g : Gt} (h : g ∈ repG k gs) : g ∈ gs := by
  obtain ⟨l, h1, h2⟩ := List.mem_flatten.mp h
  rw [(List.mem_replicate.mp h1).2] at h2
  exact h2
theorem rep_succ (k : Nat) (gs : List Gt) : repG (k + 1) gs = gs ++ repG k gs := by
  unfold repG
  rw [List.replicate_succ, List.flatten_cons]
theorem len_rep : ∀ (k : Nat) (gs : List Gt), (repG k gs).length = k * gs.length
  | 0, gs => by
    rw [Nat.zero_mul]
    rfl
  | k + 1, gs => by
    rw [rep_succ, List.length_append, len_rep k gs, Nat.succ_mul]
    omega
section
variable {P : Program} {w : World} {K : PySem.W.Frag} {mg : Str → Option Value} {base : Heap} {C : Addr}
def sp_check_position : Sp := fun vs H Q _ => ∃ i n : Int, vs = [V.int i, V.int n] ∧ 0 ≤ i ∧ i < n ∧ Q .non H
theorem c_check_position (T : Txt K mg C) : C8.Cal P w K mg base 3 "check_position" sp_check_position [] := by
  refine T.d_check_position.cal sc_check_position (fun vs H Q E h => ?_) (fun f cdv A outer s H vs Q E hr h => ?_)
  · obtain ⟨i, n, rfl, _⟩ := h
    rfl
  · obtain ⟨i, n, rfl, h0, h1, k⟩ := h
    refine ⟨_, (pss_one (ps_if (PW.pt (pw_or (pt_not (pt_val (C8.pe_c (c_is_count T) hr (by decide) rfl (pa_cons (pv 0) pa_nil)))) (pw_or1 (pt_cmpR op_ge (pv 0) (pv 1) (nomark _)))))
       (pss_one ps_never)
       pss_nil)), ?_⟩
    refine ⟨_, rfl, i, rfl, _, rfl, ?_⟩
    rw [decide_eq_true h0]
    refine iteF ⟨_, rfl, _, rfl, _, _, rfl, rfl, _, rfl, ?_⟩
    exact itF (decide_eq_false (by omega)) k
def sp_Net_cut (K : PySem.W.Frag) (C : Addr) : Sp := fun vs H Q _ => ∃ (p : Addr) (n i : Nat) (gs : List Gt), vs = [V.ref p, V.int i] ∧ NetAt K C H p n gs ∧ i ≤ gs.length ∧
  ∀ H' t a b, Same H H' → H' t = some (.tup [.ref a, .ref b]) → NetAt K C H' a n (gs.take i) → NetAt K C H' b n (gs.drop i) → Q (.ref t) H'
theorem m_cut (T : Txt K mg C) : C8.Met P w K mg base 8 C "cut" (sp_Net_cut K C) [] := by
  obtain ⟨f, fd, F, M, b⟩ := T.i_cut
  refine C8.met0 T.cl M F b sc_Net_cut (fun vs H Q E h => ?_) (fun cdv A outer s H vs Q E hr h => ?_)
  · obtain ⟨p, n, i, gs, rfl, _⟩ := h
    rfl
  · obtain ⟨p, n, i, gs, rfl, N, hi, k⟩ := h
    refine ⟨_, (pss_cons (ps_expr (C8.pe_c (c_check_position T) hr (by decide) rfl (pa_cons (pv 1) (pa_cons (pe_op op_add (pe_callB call_len_seq (by rfl) T.b_len (by decide +kernel) (pa_cons (pe_fld (pv 0) rfl) pa_nil)) pe_int) pa_nil))))
      (pss_one (ps_ret (pe_tup (pa_cons (C8.pe_mk (c_Net T) hr (by decide) rfl (pa_cons (pe_fld (pv 0) rfl) (pa_cons (pe_slice sl_list (pe_fld (pv 0) rfl) po_none (po_some (pv 1))) pa_nil))) (pa_cons (C8.pe_mk (c_Net T) hr (by decide) rfl (pa_cons (pe_fld (pv 0) rfl) (pa_cons (pe_slice sl_list (pe_fld (pv 0) rfl) (po_some (pv 1)) po_none) pa_nil))) pa_nil)))))), ?_⟩
    obtain ⟨dx, l, xs, hp, hl, hA⟩ := N.at_
    have hxl := hA.1
    refine ⟨_, rfl, _, rfl, p, C, dx, _, _, rfl, hp, T.cl, T.nG, pf_gates l n, l, xs, rfl, .inl (SqL.of hl), _, _, rfl, rfl, (i : Int), _, rfl, by omega, by omega, ?_⟩
    refine ⟨_, rfl, p, C, dx, _, _, rfl, hp, T.cl, T.nL, pf_lanes l n, _, rfl, p, C, dx, _, _, rfl, hp, T.cl, T.nG, pf_gates l n, ?_⟩
    refine ⟨_, rfl, i, rfl, l, xs, rfl, SqL.of hl, fun d hd x ex hx hex ne => ?_⟩
    rw [cut_take (by omega)] at hx hex ⊢
    have s1 : Same H (upd H d (.lst (xs.take i))) := Same.new hd
    refine ⟨upd H d (.lst (xs.take i)), x, ex, d, n, gs.take i, rfl, (Same.new hex).trans (Same.new (by rw [upd_ne ne.symm]; exact hx)), hx, upd_same, ⟨_, SqL.of upd_same, (hA.take i).mono fun _ _ z => z.to s1⟩, N.low, N.high, fun g hg => N.ok g (List.mem_of_mem_take hg), by have := N.few; rw [List.length_take]; omega, fun H2 s2 N2 => ⟨rfl, ?_⟩⟩
    have t2 := s1.trans s2
    refine ⟨_, rfl, p, C, dx, _, _, rfl, t2 _ _ hp, T.cl, T.nL, pf_lanes l n, _, rfl, p, C, dx, _, _, rfl, t2 _ _ hp, T.cl, T.nG, pf_gates l n, ?_⟩
    refine ⟨_, rfl, i, rfl, l, xs, rfl, SqL.of (t2 _ _ hl), fun d' hd' x' ex' hx' hex' ne' => ?_⟩
    rw [cut_drop (by omega)] at hx' hex' ⊢
    have s3 : Same H2 (upd H2 d' (.lst (xs.drop i))) := Same.new hd'
    refine ⟨upd H2 d' (.lst (xs.drop i)), x', ex', d', n, gs.drop i, rfl, (Same.new hex').trans (Same.new (by rw [upd_ne ne'.symm]; exact hx')), hx', upd_same, ⟨_, SqL.of upd_same, (hA.drop i).mono fun _ _ z => z.to (t2.trans s3)⟩, N.low, N.high, fun g hg => N.ok g (List.mem_of_mem_drop hg), by have := N.few; rw [List.length_drop]; omega, fun H4 s4 N4 => ⟨rfl, ?_⟩⟩
    refine ⟨by show 2 ≤ sizeLine; decide, fun t ht => ?_⟩
    have s5 : Same H4 (upd H4 t (.tup [.ref x, .ref x'])) := Same.new ht
    exact k _ t x x' ((t2.trans (s3.trans s4)).trans s5) upd_same ((N2.to (s3.trans s4)).to s5) (N4.to s5)
def sp_Net_add (K : PySem.W.Frag) (C : Addr) : Sp := fun vs H Q _ => ∃ (p q : Addr) (n : Nat) (gs hs : List Gt), vs = [V.ref p, V.ref q] ∧ NetAt K C H p n gs ∧ NetAt K C H q n hs ∧ gs.length + hs.length ≤ 400 ∧ ∀ H' x, Same H H' → NetAt K C H' x n (gs ++ hs) → Q (.ref x) H'
theorem c_add (T : Txt K mg C) : ∃ f fd, FnOk P w K mg base C8.CX0 8 f fd ["self", "other"] (sp_Net_add K C) ∧ PySem.W.findIn K (.ref C) (PySem.dunder Operator.Add.info.2) = some (some (.ref f)) ∧ PySem.W.isFn K (.ref f) = true ∧ Binds K fd ["self", "other"] [] := by
  obtain ⟨f, fd, F, h1, h2, b⟩ := T.i_add
  refine ⟨f, fd, C8.fn0 F sc_Net_add (fun vs H Q E h => ?_) (fun cdv A outer s H vs Q E hr h => ?_), h1, h2, b⟩
  · obtain ⟨p, q, n, gs, hs, rfl, _⟩ := h
    rfl
  · obtain ⟨p, q, n, gs, hs, rfl, N, M, hf, k⟩ := h
    obtain ⟨dx, l, xs, hp, hl, hA⟩ := N.at_
    obtain ⟨dy, m, ys, hq, hm, hB⟩ := M.at_
    refine ⟨_, (pss_cons (ps_if (PW.pt (pw_or (pt_not (pt_val (pe_callB call_isi (by rfl) T.b_isinstance (by decide +kernel) (pa_cons (pv 1) (pa_cons (C8.pe_gc (v := .ref C) rfl ⟨_, T.mgC, rfl⟩) pa_nil))))) (pw_or1 (pt_cmpR op_ne (pe_fld (pv 1) rfl) (pe_fld (pv 0) rfl) (nomark _)))))
       (pss_one ps_never)
       pss_nil)
      (pss_one (ps_ret (C8.pe_mk (c_Net T) hr (by decide) rfl (pa_cons (pe_fld (pv 0) rfl) (pa_cons (pe_op op_cat (pe_fld (pv 0) rfl) (pe_fld (pv 1) rfl)) pa_nil)))))), ?_⟩
    refine ⟨_, rfl, _, _, _, _, true, rfl, .own C, .base (.ins hq T.cl T.q_ha T.q_hn T.q_ht T.q_hm), if_pos (by simp), true, rfl, iteF ?_⟩
    refine ⟨_, rfl, q, C, dy, _, _, rfl, hq, T.cl, T.nL, pf_lanes m n, _, rfl, p, C, dx, _, _, rfl, hp, T.cl, T.nL, pf_lanes l n, rfl, _, rfl, ?_⟩
    refine iteNS rfl ?_
    refine ⟨_, rfl, p, C, dx, _, _, rfl, hp, T.cl, T.nL, pf_lanes l n, _, rfl, p, C, dx, _, _, rfl, hp, T.cl, T.nG, pf_gates l n, _, rfl, q, C, dy, _, _, rfl, hq, T.cl, T.nG, pf_gates m n, ?_⟩
    refine ⟨l, m, xs, ys, rfl, rfl, hl, hm, by rw [hA.1, hB.1]; exact Nat.le_trans hf (by decide), fun d hd x ex hx hex ne => ?_⟩
    have s1 : Same H (upd H d (.lst (xs ++ ys))) := Same.new hd
    refine ⟨upd H d (.lst (xs ++ ys)), x, ex, d, n, gs ++ hs, rfl, (Same.new hex).trans (Same.new (by rw [upd_ne ne.symm]; exact hx)), hx, upd_same, ⟨_, SqL.of upd_same, (hA.app hB).mono fun _ _ z => z.to s1⟩, N.low, N.high, fun g hg => (List.mem_append.mp hg).elim (N.ok g) (M.ok g), by rw [List.length_append]; exact hf, fun H2 s2 N2 => ⟨rfl, ?_⟩⟩
    exact k _ x (s1.trans s2) N2
def sp_Net_mul (K : PySem.W.Frag) (C : Addr) : Sp := fun vs H Q _ => ∃ (p : Addr) (n m : Nat) (gs : List Gt), vs = [V.ref p, V.int m] ∧ NetAt K C H p n gs ∧ m * gs.length ≤ 400 ∧ m ≤ 1000 ∧ ∀ H' x, Same H H' → NetAt K C H' x n (repG m gs) → Q (.ref x) H'
theorem c_mul (T : Txt K mg C) : ∃ f fd, FnOk P w K mg base C8.CX0 8 f fd ["self", "other"] (sp_Net_mul K C) ∧ PySem.W.findIn K (.ref C) (PySem.dunder Operator.Mult.info.2) = some (some (.ref f)) ∧ PySem.W.isFn K (.ref f) = true ∧ Binds K fd ["self", "other"] [] := by
  obtain ⟨f, fd, F, h1, h2, b⟩ := T.i_mul
  obtain ⟨uc, kc⟩ := T.cI
  refine ⟨f, fd, C8.fn0 F sc_Net_mul (fun vs H Q E h => ?_) (fun cdv A outer s H vs Q E hr h => ?_), h1, h2, b⟩
  · obtain ⟨p, n, m, gs, rfl, _⟩ := h
    rfl
  · obtain ⟨p, n, m, gs, rfl, N, hf, hm, k⟩ := h
    obtain ⟨dx, l, xs, hp, hl, hA⟩ := N.at_
    refine ⟨_, (pss_cons (ps_expr (C8.pe_c (c_check_many T) hr (by decide) rfl (pa_cons (pv 1) pa_nil)))
      (pss_cons (ps_if (pt_cmpR op_gt (pe_op op_mul (pe_callB call_len_seq (by rfl) T.b_len (by decide +kernel) (pa_cons (pe_fld (pv 0) rfl) pa_nil)) (pv 1)) (pe_con (pv 0) rfl) (nomark _))
       (pss_one ps_never)
       pss_nil)
      (pss_cons (ps_set (i := 2) sc_Net_mul.nd rfl (Or.inl rfl) (pe_ifExp (pt_truth (pe_fld (pv 0) rfl) (fun _ => rfl)) (pv 1) pe_int))
      (pss_one (ps_ret (C8.pe_mk (c_Net T) hr (by decide) rfl (pa_cons (pe_fld (pv 0) rfl) (pa_cons (pe_op op_rep (pe_fld (pv 0) rfl) (pv 2)) pa_nil)))))))), ?_⟩
    refine ⟨_, rfl, (m : Int), rfl, Int.natCast_nonneg m, ?_⟩
    have fx : xs.length ≤ 400 := by rw [hA.1]; exact N.few
    have hfi : (xs.length : Int) * (m : Int) ≤ 400 := by
      rw [hA.1, Int.mul_comm]
      exact_mod_cast hf
    refine ⟨_, rfl, p, C, dx, _, _, rfl, hp, T.cl, T.nG, pf_gates l n, l, xs, rfl, .inl (SqL.of hl), _, rfl, _, _, rfl, rfl, .inl ⟨by omega, by omega⟩, _, rfl, p, C, dx, _, _, _, rfl, hp, T.cl, kc, rfl, _, _, rfl, rfl, _, rfl, ?_⟩
    refine itF (decide_eq_false (by omega)) ?_
    refine ⟨_, rfl, p, C, dx, _, _, rfl, hp, T.cl, T.nG, pf_gates l n, !xs.isEmpty, .inl ⟨xs, SqL.of hl, rfl⟩, ?_⟩
    by_cases he : xs = []
    · have hg : gs = [] := List.length_eq_zero_iff.mp (by rw [← hA.1, he]; rfl)
      subst he hg
      refine itF rfl ?_
      refine ⟨_, rfl, p, C, dx, _, _, rfl, hp, T.cl, T.nL, pf_lanes l n, _, rfl, p, C, dx, _, _, rfl, hp, T.cl, T.nG, pf_gates l n, _, rfl, ?_⟩
      refine ⟨l, 0, [], rfl, rfl, hl, by decide, by decide, by decide, fun d hd x ex hx hex ne => ?_⟩
      have s1 : Same H (upd H d (.lst (List.replicate (0 : Int).toNat ([] : List V)).flatten)) := Same.new hd
      have e0 : repG m [] = [] := List.length_eq_zero_iff.mp (by rw [len_rep]; rfl)
      refine ⟨upd H d _, x, ex, d, n, repG m [], rfl, (Same.new hex).trans (Same.new (by rw [upd_ne ne.symm]; exact hx)), hx, upd_same, ⟨_, SqL.of upd_same, by rw [e0]; exact All2.nil⟩, N.low, N.high, (fun g hg => by rw [e0] at hg; cases hg), by rw [e0]; exact Nat.zero_le _, fun H2 s2 N2 => ⟨rfl, ?_⟩⟩
      exact k _ x (s1.trans s2) N2
    · refine itT (by cases xs with | nil => exact absurd rfl he | cons a r => rfl) ?_
      refine ⟨_, rfl, _, rfl, p, C, dx, _, _, rfl, hp, T.cl, T.nL, pf_lanes l n, _, rfl, p, C, dx, _, _, rfl, hp, T.cl, T.nG, pf_gates l n, _, rfl, ?_⟩
      have hfn : xs.length * m ≤ 400 := by exact_mod_cast hfi
      refine ⟨l, (m : Int), xs, rfl, rfl, hl, by omega, by omega, by rw [Int.toNat_natCast]; exact Nat.le_trans hfn (by decide), fun d hd x ex hx hex ne => ?_⟩
      rw [Int.toNat_natCast] at hx hex ⊢
      have s1 : Same H (upd H d (.lst (List.replicate m xs).flatten)) := Same.new hd
      refine ⟨upd H d _, x, ex, d, n, repG m gs, rfl, (Same.new hex).trans (Same.new (by rw [upd_ne ne.symm]; exact hx)), hx, upd_same, ⟨_, SqL.of upd_same, (hA.rep m).mono fun _ _ z => z.to s1⟩, N.low, N.high, fun g hg => N.ok g (mem_rep hg), by rw [len_rep]; exact hf, fun H2 s2 N2 => ⟨rfl, ?_⟩⟩
      exact k _ x (s1.trans s2) N2
/-! ### how a net is told -/
def gsTexts (gs : List Gt) : List Str := PyData.shownAll (gs.map Gt.py)
def netText (n : Nat) (gs : List Gt) : Str := Str.empty ++ ("Net(" : Str) ++ (toString (n : Int) : Str) ++ (", " : Str) ++ listText (gsTexts gs) ++ (")" : Str)
/-- the net at p is told as t -/
def RTold (K : PySem.W.Frag) (C : Addr) (p : Addr) (t : Str) (H : Hp) : Prop := ∃ n gs, NetAt K C H p n gs ∧ PyData.showableAll (gs.map Gt.py) = true ∧ (netText n gs).length ≤ sizeLine ∧ t = netText n gs
theorem gs_all {H : Hp} {xs : List V} {gs : List Gt} (h : All2 (IsG K H) xs gs) : DpAll K H xs (gs.map Gt.py) := dpAll_of (h.mono fun _ _ z => isG_dp z)
theorem gs_noDict : ∀ gs : List Gt, PyData.hasDictAll (gs.map Gt.py) = false
  | [] => rfl
  | g :: r => by
    show (g.py.hasDict || PyData.hasDictAll (r.map Gt.py)) = false
    rw [gs_noDict r]
    cases g <;> rfl
theorem c_repr (T : Txt K mg C) (a : Addr) : ∃ f fd, FnQ (Und a) P w K mg base 2 f fd ["self"] (spRepr a (RTold K C)) ∧ PySem.W.findIn K (.ref C) "__repr__" = some (some (.ref f)) ∧ PySem.W.isFn K (.ref f) = true ∧ Binds K fd ["self"] [] := by
  obtain ⟨f, fd, F, h1, h2, b⟩ := T.i_repr
  refine ⟨f, fd, fnQ0 (und_deep a) F sc_Net_repr (fun vs H Q E h => ?_) (fun cdv A outer s H vs Q E hr hA h => ?_), h1, h2, b⟩
  · obtain ⟨p, t, rfl, _⟩ := h
    rfl
  · obtain ⟨p, t, rfl, ⟨n, gs, N, h3, h4, rfl⟩, odd, k⟩ := h
    obtain ⟨dx, l, xs, hp, hl, hA2⟩ := N.at_
    refine ⟨_, (pss_one (ps_ret (pe_joined (.cons pe_str (.cons (pe_fmt (pe_fld (pv 0) rfl)) (.cons pe_str (.cons (pe_fmtD hA hr (pe_fld (pv 0) rfl)) (.cons pe_str .nil)))))))), ?_⟩
    have lens : (Str.empty ++ ("Net(" : Str)).length ≤ sizeLine ∧ (Str.empty ++ ("Net(" : Str) ++ (toString (n : Int) : Str)).length ≤ sizeLine ∧ (Str.empty ++ ("Net(" : Str) ++ (toString (n : Int) : Str) ++ (", " : Str)).length ≤ sizeLine ∧
        (Str.empty ++ ("Net(" : Str) ++ (toString (n : Int) : Str) ++ (", " : Str) ++ listText (gsTexts gs)).length ≤ sizeLine ∧ (listText (gsTexts gs)).length ≤ sizeLine := by
      unfold netText at h4
      simp only [strLen_append] at h4 ⊢
      omega
    refine ⟨_, rfl, lens.1, _, rfl, p, C, dx, _, _, rfl, hp, T.cl, T.nL, pf_lanes l n, .inr ⟨n, rfl, ?_, ?_⟩⟩
    · have := N.high
      exact Nat.lt_of_le_of_lt (Nat.log2_le_self _) (by simp; omega)
    refine ⟨_, rfl, lens.2.1, _, rfl, lens.2.2.1, ?_⟩
    refine ⟨_, rfl, p, C, dx, _, _, rfl, hp, T.cl, T.nG, pf_gates l n, l, xs, gs.map Gt.py, rfl, SqL.of hl, gs_all hA2, odd, h3, gs_noDict gs, ?_, lens.2.2.2.2, ?_⟩
    · exact Nat.le_trans (all_depth (f := Gt.py) g_depth gs) (by decide)
    exact ⟨_, rfl, lens.2.2.2.1, _, rfl, h4, k _ Ext.rfl'⟩
theorem rtold_ext {p : Addr} {t : Str} {H H' : Hp} (e : Ext H H') (h : RTold K C p t H) : RTold K C p t H' := let ⟨n, gs, N, r⟩ := h; ⟨n, gs, N.to e, r⟩
end
end LL

namespace LL
open PySem L2 PySem.Spec PyProof.Rows
/-! ### the pot, and what stands beside it -/
def Pot (H : Hp) (a : Addr) : Prop := ∃ p0 p1 : Int, H a = some (.lst [.int p0, .int p1]) ∧ 0 ≤ p0 ∧ 0 ≤ p1 ∧ p1 < 2147483648
/-- H0: all that is known beside the pot at a -/
structure Wd (a : Addr) (H0 H : Hp) : Prop where
  same : Same H0 H
  off : H0 a = none
  pot : Pot H a
theorem Wd.ne {a b : Addr} {H0 H : Hp} (w : Wd a H0 H) (h : H b = none) : b ≠ a := fun z => by
  obtain ⟨p0, p1, e, _⟩ := w.pot
  rw [z, e] at h
  cases h
theorem Wd.ext {a p : Addr} {H0 H : Hp} {o : HO} (w : Wd a H0 H) (h : H p = none) : Wd a (upd H0 p o) (upd H p o) := by
  have n := w.ne h
  refine ⟨fun b u e => ?_, by rw [upd_ne n.symm]; exact w.off, ?_⟩
  · by_cases z : b = p
    · subst z
      rw [upd_same] at e ⊢
      exact e
    · rw [upd_ne z] at e ⊢
      exact w.same _ _ e
  · obtain ⟨p0, p1, e, q⟩ := w.pot
    exact ⟨p0, p1, by rw [upd_ne n.symm]; exact e, q⟩
theorem Wd.back {a : Addr} {H0 H1 H : Hp} (s : Same H0 H1) (w : Wd a H1 H) : Wd a H0 H := ⟨s.trans w.same, s.free w.off, w.pot⟩
theorem Wd.pure {a : Addr} {H0 H H' : Hp} (w : Wd a H0 H) (s : Same H H') : Wd a H0 H' := by
  obtain ⟨p0, p1, e, q⟩ := w.pot
  exact ⟨w.same.trans s, w.off, p0, p1, s _ _ e, q⟩
theorem Wd.new {a p : Addr} {H0 H : Hp} {o : HO} (w : Wd a H0 H) (h : H p = none) : Wd a H0 (upd H p o) := w.pure (Same.new h)
theorem Wd.fresh {a p : Addr} {H0 H : Hp} (w : Wd a H0 H) (h : H p = none) : H0 p = none := w.same.free h
/-- a new object becomes one of the known ones -/
theorem Wd.know {a r : Addr} {H0 H : Hp} {o : HO} (w : Wd a H0 H) (h0 : H0 r = none) (n : r ≠ a) (h : H r = some o) : Wd a (upd H0 r o) H := by
  refine ⟨fun b u e => ?_, by rw [upd_ne n.symm]; exact w.off, w.pot⟩
  by_cases z : b = r
  · subst z
    rw [upd_same] at e
    rw [h, ← Option.some.inj e]
  · rw [upd_ne z] at e
    exact w.same _ _ e
section
variable {P : Program} {w : World} {K : PySem.W.Frag} {mg : Str → Option Value} {base : Heap} {C : Addr}
def sp_law_draw : Sp := fun vs H Q _ => ∃ (H0 : Hp) (a : Addr) (n : Int), vs = [V.ref a, V.int n] ∧ Wd a H0 H ∧ 1 ≤ n ∧ n < 1073741824 ∧ ∀ H' d, Wd a H0 H' → 0 ≤ d → d < n → Q (.int d) H'
theorem c_law_draw (T : Txt K mg C) : C8.Cal P w K mg base 1 "_law_draw" sp_law_draw [] := by
  refine T.d_law_draw.cal sc_law_draw (fun vs H Q E h => ?_) (fun f cdv A outer s H vs Q E hr h => ?_)
  · obtain ⟨H0, a, n, rfl, _⟩ := h
    rfl
  · obtain ⟨H0, a, n, rfl, W, h1, h2, k⟩ := h
    obtain ⟨p0, p1, ha, g0, g1, g2⟩ := W.pot
    refine ⟨_, (pss_cons (ps_if (pt_cmpR op_gt (pe_ix ix_list (pv 0) pe_int (fun _ _ => rfl)) pe_int (nomark _))
       (pss_cons (ps_asg (pe_callB call_divmod (by rfl) T.b_divmod (by decide +kernel) (pa_cons (pe_ix ix_list (pv 0) pe_int (fun _ _ => rfl)) (pa_cons (pv 1) pa_nil))) (pg_tup (n := 2) rfl (pgs_cons (pg_sub (pv 0) pe_int set_list) (pgs_cons (pg_name (i := 2) sc_law_draw.nd rfl (Or.inl rfl)) pgs_nil))))
        (pss_one (ps_ret (pv 2))))
       pss_nil)
      (pss_cons (ps_asg (pe_op op_mod (pe_callTy call_int1 (by rfl) T.b_int (by decide +kernel) (pa_cons (pe_op op_add (pe_op op_mul (pe_ix ix_list (pv 0) pe_int (fun _ _ => rfl)) pe_int) pe_int) pa_nil)) pe_int) (pg_sub (pv 0) pe_int set_list))
      (pss_one (ps_ret (pe_op op_mod (pe_callTy call_int1 (by rfl) T.b_int (by decide +kernel) (pa_cons (pe_op op_fdiv (pe_op op_mod (pe_callTy call_int1 (by rfl) T.b_int (by decide +kernel) (pa_cons (pe_op op_mul (pe_ix ix_list (pv 0) pe_int (fun _ _ => rfl)) (pe_ix ix_list (pv 0) pe_int (fun _ _ => rfl))) pa_nil)) pe_int) pe_int) pa_nil)) (pv 1)))))), ?_⟩
    refine ⟨_, rfl, a, _, _, _, rfl, rfl, SqL.of ha, atI_nat (j := 0) rfl, _, _, rfl, rfl, _, rfl, ?_⟩
    refine ite2 (fun c => ?_) (fun c => ?_)
    · refine ⟨_, rfl, a, _, _, _, rfl, rfl, SqL.of ha, atI_nat (j := 0) rfl, _, rfl, p0, n, rfl, ⟨h1, h2⟩, fun t ht => ?_⟩
      have nat : a ≠ t := (W.ne ht).symm
      refine ⟨t, _, rfl, SqT.of upd_same, rfl, _, _, rfl, _, rfl, a, [V.int p0, V.int p1], _, 0, rfl, rfl, (by rw [upd_ne nat]; exact ha), ixN_nat (n := 2) (i := 0) (by decide), ?_⟩
      refine ⟨_, _, rfl, rfl, _, rfl, k _ _ ⟨((W.same.trans (Same.new ht)).mut W.off), W.off, p0 / n, p1, by rw [upd_same]; rfl, Int.ediv_nonneg g0 (by omega), g1, g2⟩ (Int.emod_nonneg _ (by omega)) (Int.emod_lt_of_pos _ (by omega))⟩
    · refine ⟨_, rfl, a, _, _, _, rfl, rfl, SqL.of ha, atI_nat (j := 1) rfl, _, _, rfl, rfl, .inl ⟨by omega, by omega⟩, _, _, rfl, rfl, .inl ⟨_, rfl, _, _, rfl, rfl, by show (0 : Int) < 2147483497; decide, ?_⟩⟩
      refine ⟨_, rfl, a, _, _, 1, rfl, rfl, ha, ixN_nat (n := 2) (i := 1) (by decide), ?_⟩
      have hm0 : 0 ≤ (p1 * 39429 + 30047) % 2147483497 := Int.emod_nonneg _ (by decide)
      have hm1 : (p1 * 39429 + 30047) % 2147483497 < 2147483497 := Int.emod_lt_of_pos _ (by decide)
      have W2 : Wd a H0 (upd H a (.lst ([V.int p0, V.int p1].set 1 (.int ((p1 * 39429 + 30047) % 2147483497))))) := ⟨W.same.mut W.off, W.off, p0, _, by rw [upd_same]; rfl, g0, hm0, by omega⟩
      refine ⟨_, rfl, a, _, _, V.int ((p1 * 39429 + 30047) % 2147483497), rfl, rfl, SqL.of upd_same, atI_nat (j := 1) rfl, _, rfl, a, _, _, V.int ((p1 * 39429 + 30047) % 2147483497), rfl, rfl, SqL.of upd_same, atI_nat (j := 1) rfl, _, _, rfl, rfl, .inl ⟨by omega, by omega⟩, .inl ⟨_, rfl, ?_⟩⟩
      refine ⟨_, _, rfl, rfl, by show (0 : Int) < 2147483489; decide, _, _, rfl, rfl, ⟨by decide, by decide⟩, .inl ⟨_, rfl, _, rfl, _, _, rfl, rfl, by omega, ?_⟩⟩
      exact k _ _ W2 (Int.emod_nonneg _ (by omega)) (Int.emod_lt_of_pos _ (by omega))
def sp_law_pick (K : PySem.W.Frag) : Sp := fun vs H Q _ => ∃ (H0 : Hp) (a b : Addr) (xs : List V), vs = [V.ref a, V.ref b] ∧ Wd a H0 H ∧ SqL K H0 b xs ∧ 1 ≤ xs.length ∧ xs.length ≤ 1000 ∧ ∀ H' v, Wd a H0 H' → v ∈ xs → Q v H'
theorem c_law_pick (T : Txt K mg C) : C8.Cal P w K mg base 2 "_law_pick" (sp_law_pick K) [] := by
  refine T.d_law_pick.cal sc_law_pick (fun vs H Q E h => ?_) (fun f cdv A outer s H vs Q E hr h => ?_)
  · obtain ⟨H0, a, b, xs, rfl, _⟩ := h
    rfl
  · obtain ⟨H0, a, b, xs, rfl, W, hb, h1, h2, k⟩ := h
    refine ⟨_, (pss_one (ps_ret (pe_ix ix_list (pv 1) (C8.pe_c (c_law_draw T) hr (by decide) rfl (pa_cons (pv 0) (pa_cons (pe_callB call_len_seq (by rfl) T.b_len (by decide +kernel) (pa_cons (pv 1) pa_nil)) pa_nil))) (fun _ _ => rfl)))), ?_⟩
    refine ⟨_, rfl, _, rfl, _, rfl, b, _, rfl, .inl (W.same.seq hb), H0, a, (xs.length : Int), rfl, W, by omega, by omega, fun H' d W' d0 d1 => ?_⟩
    have hd : d.toNat < xs.length := by omega
    refine ⟨b, xs, d, xs[d.toNat], rfl, rfl, W'.same.seq hb, at_of (by omega) (List.getElem?_eq_getElem hd), k _ _ W' (List.getElem_mem hd)⟩
end
end LL

namespace LL
open PySem L2 PySem.Spec PyProof.Rows
theorem mod_ne {d e n : Int} (d0 : 0 ≤ d) (d1 : d < n) (e0 : 0 ≤ e) (e1 : e < n - 1) : 0 ≤ (d + 1 + e) % n ∧ (d + 1 + e) % n < n ∧ (d + 1 + e) % n ≠ d := by
  have hp : 0 < n := by omega
  refine ⟨Int.emod_nonneg _ (by omega), Int.emod_lt_of_pos _ hp, ?_⟩
  by_cases h : d + 1 + e < n
  · rw [Int.emod_eq_of_lt (by omega) h]
    omega
  · have q : (d + 1 + e) % n = d + 1 + e - n := by
      have h1 : d + 1 + e = (d + 1 + e - n) + n * 1 := by omega
      rw [h1, Int.add_mul_emod_self_left, Int.emod_eq_of_lt (by omega) (by omega)]
      omega
    rw [q]
    omega
def Gt.mild : Gt → Bool
  | .add _ c => decide (c.natAbs ≤ 10 ^ 20)
  | _ => true
section
variable {P : Program} {w : World} {K : PySem.W.Frag} {mg : Str → Option Value} {base : Heap} {C : Addr}
def sp_law_gate (K : PySem.W.Frag) : Sp := fun vs H Q _ => ∃ (H0 : Hp) (a : Addr) (n : Nat), vs = [V.ref a, V.int n] ∧ Wd a H0 H ∧ 1 ≤ n ∧ n ≤ 12 ∧
  ∀ H0' H' t (g : Gt), Same H0 H0' → Wd a H0' H' → g.ok n → g.mild = true → SqT K H0' t g.vals → Q (.ref t) H'
theorem c_law_gate (T : Txt K mg C) : C8.Cal P w K mg base 3 "_law_gate" (sp_law_gate K) [] := by
  refine T.d_law_gate.cal sc_law_gate (fun vs H Q E h => ?_) (fun f cdv A outer s H vs Q E hr h => ?_)
  · obtain ⟨H0, a, n, rfl, _⟩ := h
    rfl
  · obtain ⟨H0, a, n, rfl, W, h1, h2, k⟩ := h
    refine ⟨_, (pss_cons (ps_set (i := 2) sc_law_gate.nd rfl (Or.inl rfl) (pe_ifExp (pt_cmpR op_gt (pv 1) pe_int (nomark _)) (C8.pe_c (c_law_pick T) hr (by decide) rfl (pa_cons (pv 0) (pa_cons (pe_lst (pa_cons pe_str (pa_cons pe_str (pa_cons pe_str (pa_cons pe_str (pa_cons pe_str pa_nil)))))) pa_nil))) pe_str))
      (pss_cons (ps_set (i := 3) sc_law_gate.nd rfl (Or.inl rfl) (C8.pe_c (c_law_draw T) hr (by decide) rfl (pa_cons (pv 0) (pa_cons (pv 1) pa_nil))))
      (pss_cons (ps_if (pt_cmpR op_eq (pv 2) pe_str (nomark _))
       (pss_one (ps_ret (pe_tup (pa_cons pe_str (pa_cons (pv 3) (pa_cons (C8.pe_c (c_law_pick T) hr (by decide) rfl (pa_cons (pv 0) (pa_cons (pe_lst (pa_cons pe_int (pa_cons pe_int (pa_cons (pe_un un_neg pe_int) (pa_cons pe_int (pa_cons (pe_un un_neg pe_int) (pa_cons pe_int (pa_cons (pe_op op_pow pe_int pe_int) pa_nil)))))))) pa_nil))) pa_nil))))))
       pss_nil)
      (pss_one (ps_ret (pe_tup (pa_cons (pv 2) (pa_cons (pv 3) (pa_cons (pe_op op_mod (pe_callTy call_int1 (by rfl) T.b_int (by decide +kernel) (pa_cons (pe_op op_add (pe_op op_add (pv 3) pe_int) (C8.pe_c (c_law_draw T) hr (by decide) rfl (pa_cons (pv 0) (pa_cons (pe_op op_sub (pv 1) pe_int) pa_nil)))) pa_nil)) (pv 1)) pa_nil))))))))), ?_⟩
    refine ⟨_, rfl, _, _, rfl, rfl, _, rfl, ?_⟩
    refine ite2 (fun c => ?_) (fun c => ?_)
    · have hn := of_decide_eq_true c
      refine ⟨_, rfl, by show 5 ≤ sizeLine; decide, fun b hb => ?_⟩
      refine ⟨upd H0 b _, a, b, _, rfl, W.ext hb, SqL.of upd_same, by show 1 ≤ 5; decide, by show 5 ≤ 1000; decide, fun H1' v W0 hv => ?_⟩
      have W1 := W0.back (Same.new (W.fresh hb))
      simp only [List.mem_cons, List.not_mem_nil, or_false] at hv
      rcases hv with rfl | rfl | rfl | rfl | rfl
      · -- low
        refine ⟨_, rfl, _, rfl, H0, a, (n : Int), rfl, W1, by omega, by omega, fun H2 d W2 d0 d1 => ?_⟩
        refine ⟨_, rfl, rfl, _, rfl, itF (by decide +kernel) ?_⟩
        refine ⟨_, rfl, _, rfl, _, rfl, _, _, rfl, rfl, _, rfl, _, rfl, _, _, rfl, rfl, H0, a, (n : Int) - 1, rfl, W2, by omega, by omega, fun H3 e W3 e0 e1 => ?_⟩
        refine ⟨_, _, rfl, rfl, .inl ⟨_, rfl, _, rfl, _, _, rfl, rfl, by omega, ?_⟩⟩
        refine ⟨by show 3 ≤ sizeLine; decide, fun t ht => ?_⟩
        obtain ⟨m0, m1, mne⟩ := mod_ne d0 d1 e0 (by omega : e < (n : Int) - 1)
        refine k _ _ t (.low d.toNat ((d + 1 + e) % n).toNat) (Same.new (W3.fresh ht)) (W3.ext ht) ⟨by omega, by omega, by omega⟩ rfl (SqT.of ?_)
        rw [upd_same]
        show some (HO.tup [V.str "low", V.int d, V.int ((d + 1 + e) % n)]) = some (HO.tup [V.str "low", V.int (d.toNat : Int), V.int (((d + 1 + e) % n).toNat : Int)])
        rw [Int.toNat_of_nonneg d0, Int.toNat_of_nonneg m0]
      · -- high
        refine ⟨_, rfl, _, rfl, H0, a, (n : Int), rfl, W1, by omega, by omega, fun H2 d W2 d0 d1 => ?_⟩
        refine ⟨_, rfl, rfl, _, rfl, itF (by decide +kernel) ?_⟩
        refine ⟨_, rfl, _, rfl, _, rfl, _, _, rfl, rfl, _, rfl, _, rfl, _, _, rfl, rfl, H0, a, (n : Int) - 1, rfl, W2, by omega, by omega, fun H3 e W3 e0 e1 => ?_⟩
        refine ⟨_, _, rfl, rfl, .inl ⟨_, rfl, _, rfl, _, _, rfl, rfl, by omega, ?_⟩⟩
        refine ⟨by show 3 ≤ sizeLine; decide, fun t ht => ?_⟩
        obtain ⟨m0, m1, mne⟩ := mod_ne d0 d1 e0 (by omega : e < (n : Int) - 1)
        refine k _ _ t (.high d.toNat ((d + 1 + e) % n).toNat) (Same.new (W3.fresh ht)) (W3.ext ht) ⟨by omega, by omega, by omega⟩ rfl (SqT.of ?_)
        rw [upd_same]
        show some (HO.tup [V.str "high", V.int d, V.int ((d + 1 + e) % n)]) = some (HO.tup [V.str "high", V.int (d.toNat : Int), V.int (((d + 1 + e) % n).toNat : Int)])
        rw [Int.toNat_of_nonneg d0, Int.toNat_of_nonneg m0]
      · -- sort
        refine ⟨_, rfl, _, rfl, H0, a, (n : Int), rfl, W1, by omega, by omega, fun H2 d W2 d0 d1 => ?_⟩
        refine ⟨_, rfl, rfl, _, rfl, itF (by decide +kernel) ?_⟩
        refine ⟨_, rfl, _, rfl, _, rfl, _, _, rfl, rfl, _, rfl, _, rfl, _, _, rfl, rfl, H0, a, (n : Int) - 1, rfl, W2, by omega, by omega, fun H3 e W3 e0 e1 => ?_⟩
        refine ⟨_, _, rfl, rfl, .inl ⟨_, rfl, _, rfl, _, _, rfl, rfl, by omega, ?_⟩⟩
        refine ⟨by show 3 ≤ sizeLine; decide, fun t ht => ?_⟩
        obtain ⟨m0, m1, mne⟩ := mod_ne d0 d1 e0 (by omega : e < (n : Int) - 1)
        refine k _ _ t (.sort d.toNat ((d + 1 + e) % n).toNat) (Same.new (W3.fresh ht)) (W3.ext ht) ⟨by omega, by omega, by omega⟩ rfl (SqT.of ?_)
        rw [upd_same]
        show some (HO.tup [V.str "sort", V.int d, V.int ((d + 1 + e) % n)]) = some (HO.tup [V.str "sort", V.int (d.toNat : Int), V.int (((d + 1 + e) % n).toNat : Int)])
        rw [Int.toNat_of_nonneg d0, Int.toNat_of_nonneg m0]
      · -- copy
        refine ⟨_, rfl, _, rfl, H0, a, (n : Int), rfl, W1, by omega, by omega, fun H2 d W2 d0 d1 => ?_⟩
        refine ⟨_, rfl, rfl, _, rfl, itF (by decide +kernel) ?_⟩
        refine ⟨_, rfl, _, rfl, _, rfl, _, _, rfl, rfl, _, rfl, _, rfl, _, _, rfl, rfl, H0, a, (n : Int) - 1, rfl, W2, by omega, by omega, fun H3 e W3 e0 e1 => ?_⟩
        refine ⟨_, _, rfl, rfl, .inl ⟨_, rfl, _, rfl, _, _, rfl, rfl, by omega, ?_⟩⟩
        refine ⟨by show 3 ≤ sizeLine; decide, fun t ht => ?_⟩
        obtain ⟨m0, m1, mne⟩ := mod_ne d0 d1 e0 (by omega : e < (n : Int) - 1)
        refine k _ _ t (.copy d.toNat ((d + 1 + e) % n).toNat) (Same.new (W3.fresh ht)) (W3.ext ht) ⟨by omega, by omega, by omega⟩ rfl (SqT.of ?_)
        rw [upd_same]
        show some (HO.tup [V.str "copy", V.int d, V.int ((d + 1 + e) % n)]) = some (HO.tup [V.str "copy", V.int (d.toNat : Int), V.int (((d + 1 + e) % n).toNat : Int)])
        rw [Int.toNat_of_nonneg d0, Int.toNat_of_nonneg m0]
      · -- add
        refine ⟨_, rfl, _, rfl, H0, a, (n : Int), rfl, W1, by omega, by omega, fun H2 d W2 d0 d1 => ?_⟩
        refine ⟨_, rfl, rfl, _, rfl, itT (by decide +kernel) ?_⟩
        refine ⟨_, rfl, _, rfl, _, rfl, _, rfl, _, _, rfl, rfl, ⟨by decide, by decide, by decide⟩, by show 7 ≤ sizeLine; decide, fun b hb => ?_⟩
        refine ⟨upd H0 b _, a, b, _, rfl, W2.ext hb, SqL.of upd_same, by show 1 ≤ 7; decide, by show 7 ≤ 1000; decide, fun H3 v W3 hv => ?_⟩
        have W4 := W3.back (Same.new (W2.fresh hb))
        obtain ⟨c, rfl, hc⟩ : ∃ c : Int, v = V.int c ∧ c.natAbs ≤ 10 ^ 20 := by
          simp only [List.mem_cons, List.not_mem_nil, or_false] at hv
          rcases hv with rfl | rfl | rfl | rfl | rfl | rfl | rfl <;> exact ⟨_, rfl, by decide +kernel⟩
        refine ⟨by show 3 ≤ sizeLine; decide, fun t ht => ?_⟩
        refine k _ _ t (.add d.toNat c) (Same.new (W4.fresh ht)) (W4.ext ht) (by show d.toNat < n; omega) (decide_eq_true hc) (SqT.of ?_)
        rw [upd_same]
        show some (HO.tup [V.str "add", V.int d, V.int c]) = some (HO.tup [V.str "add", V.int (d.toNat : Int), V.int c])
        rw [Int.toNat_of_nonneg d0]
    · have W1 := W
      refine ⟨_, rfl, _, rfl, H0, a, (n : Int), rfl, W1, by omega, by omega, fun H2 d W2 d0 d1 => ?_⟩
      refine ⟨_, rfl, rfl, _, rfl, itT (by decide +kernel) ?_⟩
      refine ⟨_, rfl, _, rfl, _, rfl, _, rfl, _, _, rfl, rfl, ⟨by decide, by decide, by decide⟩, by show 7 ≤ sizeLine; decide, fun b hb => ?_⟩
      refine ⟨upd H0 b _, a, b, _, rfl, W2.ext hb, SqL.of upd_same, by show 1 ≤ 7; decide, by show 7 ≤ 1000; decide, fun H3 v W3 hv => ?_⟩
      have W4 := W3.back (Same.new (W2.fresh hb))
      obtain ⟨c, rfl, hc⟩ : ∃ c : Int, v = V.int c ∧ c.natAbs ≤ 10 ^ 20 := by
        simp only [List.mem_cons, List.not_mem_nil, or_false] at hv
        rcases hv with rfl | rfl | rfl | rfl | rfl | rfl | rfl <;> exact ⟨_, rfl, by decide +kernel⟩
      refine ⟨by show 3 ≤ sizeLine; decide, fun t ht => ?_⟩
      refine k _ _ t (.add d.toNat c) (Same.new (W4.fresh ht)) (W4.ext ht) (by show d.toNat < n; omega) (decide_eq_true hc) (SqT.of ?_)
      rw [upd_same]
      show some (HO.tup [V.str "add", V.int d, V.int c]) = some (HO.tup [V.str "add", V.int (d.toNat : Int), V.int c])
      rw [Int.toNat_of_nonneg d0]
end
end LL

namespace LL
open PySem L2 PySem.Spec PyProof.Rows
def del (H : Hp) (D : Addr) : Hp := fun b => if b = D then none else H b
theorem del_ne {H : Hp} {b D : Addr} (n : b ≠ D) : del H D b = H b := if_neg n
theorem del_at {H : Hp} {D : Addr} : del H D D = none := if_pos rfl
theorem same_del {H0 H1 : Hp} {D : Addr} (s : Same H0 H1) (h : H0 D = none) : Same H0 (del H1 D) := fun b o e => by
  rw [del_ne (ne_of_none e h)]
  exact s _ _ e
theorem sqT_del {K : PySem.W.Frag} {H : Hp} {t D : Addr} {xs ys : List V} (h : SqT K H t xs) (hD : H D = some (.lst ys)) : SqT K (del H D) t xs := by
  rcases h with (h | ⟨o, h⟩) | h
  · exact .inl (.inl (by rw [del_ne (ne_of h hD (by intro z; cases z))]; exact h))
  · exact .inl (.inr ⟨o, by rw [del_ne (ne_of h hD (by intro z; cases z))]; exact h⟩)
  · exact .inr h
theorem wd_del {a D : Addr} {H1 H : Hp} {o : HO} (w : Wd a H1 H) (n : D ≠ a) : Wd a (del H1 D) (upd H D o) := by
  obtain ⟨p0, p1, e, q⟩ := w.pot
  refine ⟨fun b u h => ?_, by rw [del_ne n.symm]; exact w.off, p0, p1, by rw [upd_ne n.symm]; exact e, q⟩
  have nb : b ≠ D := fun z => by
    rw [z, del_at] at h
    cases h
  rw [del_ne nb] at h
  rw [upd_ne nb]
  exact w.same _ _ h
/-- a comprehension whose elements draw from the pot -/
theorem lc_pot {α : Type} {a : Addr} {R : Hp → V → α → Prop} {ok : Nat → α → Prop} (hR : ∀ H H' v y, Same H H' → R H v y → R H' v y) (hRd : ∀ H D ys v y, H D = some (.lst ys) → R H v y → R (del H D) v y)
    {J : It} {n : Nat} {G : Hp → Prop} {Y : Nat → Hp → V → Hp → Prop} (w : Walk J n G Y) {g : TG} {te : TE} {vs : List Nat} {σ : L2.St} {H0 H1 : Hp} {D : Addr} {Qd : Hp → Prop} (W : Wd a H0 H1) (hD : H1 D = none) (hsz : n ≤ 100000)
    (hG : ∀ H0' H, Same H0 H0' → Wd a H0' H → G H)
    (hs : ∀ i x H H' H0' (Q : VK), i < n → Same H0 H0' → Wd a H0' H → Y i H x H' → (∀ H0'' H3 y z, Same H0' H0'' → Wd a H0'' H3 → ok i z → R H0'' y z → Q y H3) → g x (wipe σ vs) H' fun σ2 H2 => wipe σ2 vs = wipe σ vs ∧ te σ2 H2 Q)
    (hd : ∀ H0' H zs xs, Same H0 H0' → Wd a H0' H → zs.length = n → (∀ (i : Nat) z, zs[i]? = some z → ok i z) → H0' D = some (.lst xs) → All2 (R H0') xs zs → Qd H) :
    ∃ W : Nat → Nat → Hp → Prop, (∃ m, W 0 m (upd H1 D (.lst []))) ∧ ∀ i m H, W i m H →
      (J.stop i H ∧ Qd H) ∨ (J.go i H ∧ ∃ Nx : Hp → Prop, (∀ H', Nx H' → ∃ m', m' < m ∧ W (i + 1) m' H') ∧ ∀ x H', J.yld i H x H' → g x (wipe σ vs) H' fun σ2 H2 => wipe σ2 vs = wipe σ vs ∧ tYes σ2 H2 fun b H3 =>
        if b = true then te σ2 H3 fun y H4 => ∃ acc, H4 D = some (.lst acc) ∧ acc.length < sizeLine ∧ Nx (upd H4 D (.lst (acc ++ [y]))) else Nx H3) := by
  have nDa := W.ne hD
  have D0 := W.fresh hD
  refine lc_it w (tt := tYes) (fun i H => ∃ H0' zs xs, Same H0 H0' ∧ Wd a H0' H ∧ H0' D = none ∧ H D = some (.lst xs) ∧ zs.length = i ∧ (∀ (i : Nat) z, zs[i]? = some z → ok i z) ∧ All2 (R H0') xs zs)
    ⟨H0, [], [], Same.refl _, W.new hD, D0, upd_same, rfl, fun i z h => by simp at h, All2.nil⟩ (fun i H _ ⟨H0', zs, xs, s, W', _⟩ => hG H0' H s W') (fun i x H H' hi p y => ?_) (fun H p => ?_)
  · obtain ⟨H0', zs, xs, s, W', d0, hx, hl, ho, hA⟩ := p
    have W2 := W'.know d0 nDa hx
    have q := hs i x H H' _ (fun y H4 => ∃ acc, H4 D = some (.lst acc) ∧ acc.length < sizeLine ∧ (∃ H0' zs xs, Same H0 H0' ∧ Wd a H0' (upd H4 D (.lst (acc ++ [y]))) ∧ H0' D = none ∧ upd H4 D (.lst (acc ++ [y])) D = some (.lst xs) ∧ zs.length = i + 1 ∧ (∀ (i : Nat) z, zs[i]? = some z → ok i z) ∧ All2 (R H0') xs zs)) hi (s.trans (Same.new d0)) W2 y
      (fun H0'' H3 y z s2 W3 hz hr => by
        have hD2 : H0'' D = some (.lst xs) := s2 _ _ upd_same
        refine ⟨xs, W3.same _ _ hD2, ?_, del H0'' D, zs ++ [z], _, ?_, wd_del W3 nDa, del_at, upd_same, by rw [List.length_append, hl]; rfl, fun j u hj => ?_, ?_⟩
        · rw [hA.1, hl]
          exact size100 (by omega)
        · exact same_del ((s.trans (Same.new d0)).trans s2) D0
        · rcases Nat.lt_trichotomy j zs.length with h | h | h
          · rw [List.getElem?_append_left h] at hj
            exact ho j u hj
          · subst h
            rw [List.getElem?_concat_length] at hj
            rw [← Option.some.inj hj, hl]
            exact hz
          · rw [List.getElem?_eq_none (by rw [List.length_append, List.length_singleton]; omega)] at hj
            cases hj
        · refine All2.snoc (hA.mono fun v u r => ?_) (hRd _ _ _ _ _ hD2 hr)
          exact hRd _ _ _ _ _ hD2 (hR _ _ _ _ ((Same.new d0).trans s2) r))
    exact q
  · obtain ⟨H0', zs, xs, s, W', d0, hx, hl, ho, hA⟩ := p
    exact hd _ H zs xs (s.trans (Same.new d0)) (W'.know d0 nDa hx) hl ho upd_same (hA.mono fun v u r => hR _ _ _ _ (Same.new d0) r)
theorem isG_del {K : PySem.W.Frag} {H : Hp} {D : Addr} {ys : List V} {v : V} {g : Gt} (hD : H D = some (.lst ys)) (h : IsG K H v g) : IsG K (del H D) v g := let ⟨t, e, q⟩ := h; ⟨t, e, sqT_del q hD⟩
section
variable {P : Program} {w : World} {K : PySem.W.Frag} {mg : Str → Option Value} {base : Heap} {C : Addr}
def sp_law_gates (K : PySem.W.Frag) : Sp := fun vs H Q _ => ∃ (H0 : Hp) (a : Addr) (n m : Nat), vs = [V.ref a, V.int n, V.int m] ∧ Wd a H0 H ∧ 1 ≤ n ∧ n ≤ 12 ∧ m ≤ 400 ∧
  ∀ H0' H' l (gs : List Gt), Same H0 H0' → Wd a H0' H' → (∀ g ∈ gs, g.ok n) → (∀ g ∈ gs, g.mild = true) → gs.length ≤ m → Gs K H0' l gs → Q (.ref l) H'
theorem c_law_gates (T : Txt K mg C) : C8.Cal P w K mg base 4 "_law_gates" (sp_law_gates K) [] := by
  refine T.d_law_gates.cal sc_law_gates (fun vs H Q E h => ?_) (fun f cdv A outer s H vs Q E hr h => ?_)
  · obtain ⟨H0, a, n, m, rfl, _⟩ := h
    rfl
  · obtain ⟨H0, a, n, m, rfl, W, h1, h2, hm, k⟩ := h
    refine ⟨_, (pss_one (ps_ret (pe_lc (own := [("_law_turn", 3)]) (g := (gName 3)) (tt := tYes) rfl sc_law_gates.nd (pi_range1 rfl T.b_range (pa_cons (C8.pe_c (c_law_draw T) hr (by decide) rfl (pa_cons (pv 0) (pa_cons (pe_op op_add (pv 2) pe_int) pa_nil))) pa_nil)) (blkOk_by (N := N_law_gates) (sc := C8.fnScope s_law_gates) (by decide +kernel)) (fun _ _ _ _ _ => (pg_name (i := 3) sc_law_gates.nd rfl (Or.inl rfl))) (fun _ _ _ _ _ => pts_nil) (fun _ _ _ _ _ => (C8.pe_c (c_law_gate T) hr (by decide) rfl (pa_cons (pv 0) (pa_cons (pv 1) pa_nil))))))), ?_⟩
    refine ⟨_, rfl, _, rfl, _, _, rfl, rfl, H0, a, (m : Int) + 1, rfl, W, by omega, by omega, fun H1 d W1 d0 d1 => ?_⟩
    refine ⟨d, rfl, by omega, by omega, fun D hD => lc_pot (R := IsG K) (ok := fun _ g => g.ok n ∧ g.mild = true) (fun _ _ _ _ s r => r.to s) (fun _ _ _ _ _ h r => isG_del h r) (n := d.toNat) (walk_range (lo := 0)) W1 hD (by omega) (fun _ _ _ _ => trivial) (fun i x H H' H0' Q' hi s W' y q => ?_) (fun H0' H' gs xs s W' hl ho hx hA => ?_)⟩
    · obtain ⟨rfl, rfl⟩ := y
      refine ⟨rfl, _, rfl, _, rfl, H0', a, n, rfl, W', h1, h2, fun H0'' H3 t g s2 W3 hg hm ht => q _ _ _ g s2 W3 ⟨hg, hm⟩ ⟨t, rfl, ht⟩⟩
    · have all : ∀ g ∈ gs, g.ok n ∧ g.mild = true := fun g hg => let ⟨i, hi⟩ := List.mem_iff_getElem?.mp hg; ho i g hi
      exact k _ _ D gs s W' (fun g hg => (all g hg).1) (fun g hg => (all g hg).2) (by omega) ⟨xs, SqL.of hx, hA⟩
end
end LL

namespace LL
open PySem L2 PySem.Spec PyProof.Rows
theorem ints_of_all2 : ∀ {xs : List V} {zs : List Int}, All2 (fun v z => v = V.int z) xs zs → xs = zs.map V.int
  | [], [], _ => rfl
  | [], _ :: _, h => by cases h.1
  | _ :: _, [], h => by cases h.1
  | x :: xs, z :: zs, h => by
    have e : x = V.int z := h.2 0 x z rfl rfl
    rw [e, ints_of_all2 (xs := xs) (zs := zs) ⟨Nat.succ.inj h.1, fun i u v h1 h2 => h.2 (i + 1) u v h1 h2⟩]
    rfl
section
variable {P : Program} {w : World} {K : PySem.W.Frag} {mg : Str → Option Value} {base : Heap} {C : Addr}
def sp_law_content (K : PySem.W.Frag) : Sp := fun vs H Q _ => ∃ (H0 : Hp) (a : Addr) (n : Nat), vs = [V.ref a, V.int n] ∧ Wd a H0 H ∧ n ≤ 12 ∧
  ∀ H0' H' l (ns : List Int), Same H0 H0' → Wd a H0' H' → ns.length = n → (∀ z ∈ ns, z.natAbs ≤ 10 ^ 30) → SqL K H0' l (ns.map V.int) → Q (.ref l) H'
theorem c_law_content (T : Txt K mg C) : C8.Cal P w K mg base 3 "_law_content" (sp_law_content K) [] := by
  refine T.d_law_content.cal sc_law_content (fun vs H Q E h => ?_) (fun f cdv A outer s H vs Q E hr h => ?_)
  · obtain ⟨H0, a, n, rfl, _⟩ := h
    rfl
  · obtain ⟨H0, a, n, rfl, W, hn, k⟩ := h
    refine ⟨_, (pss_cons (ps_set (i := 2) sc_law_content.nd rfl (Or.inr rfl) (C8.pe_c (c_law_pick T) hr (by decide) rfl (pa_cons (pv 0) (pa_cons (pe_lst (pa_cons pe_int (pa_cons pe_int (pa_cons pe_int (pa_cons pe_int (pa_cons (pe_op op_pow pe_int pe_int) pa_nil)))))) pa_nil))))
      (pss_cons (ps_if (pt_cmpR op_gt (pv 2) pe_int (nomark _))
       (pss_one (ps_ret (pe_lc (own := [("_law_lane", 3)]) (g := (gName 3)) (tt := tYes) rfl sc_law_content.nd (pi_range1 rfl T.b_range (pa_cons (pv 1) pa_nil)) (blkOk_by (N := N_law_content) (sc := C8.fnScope s_law_content) (by decide +kernel)) (fun _ _ _ _ _ => (pg_name (i := 3) sc_law_content.nd rfl (Or.inl rfl))) (fun _ _ _ _ _ => pts_nil) (fun _ _ _ _ _ => (pe_op op_sub (pe_op op_add (pe_op op_mul (pe_op op_sub (C8.pe_c (c_law_draw T) hr (by decide) rfl (pa_cons (pv 0) (pa_cons pe_int pa_nil))) pe_int) (pv 2)) (C8.pe_c (c_law_draw T) hr (by decide) rfl (pa_cons (pv 0) (pa_cons pe_int pa_nil)))) pe_int)))))
       pss_nil)
      (pss_one (ps_ret (pe_lc (own := [("_law_lane", 3)]) (g := (gName 3)) (tt := tYes) rfl sc_law_content.nd (pi_range1 rfl T.b_range (pa_cons (pv 1) pa_nil)) (blkOk_by (N := N_law_content) (sc := C8.fnScope s_law_content) (by decide +kernel)) (fun _ _ _ _ _ => (pg_name (i := 3) sc_law_content.nd rfl (Or.inl rfl))) (fun _ _ _ _ _ => pts_nil) (fun _ _ _ _ _ => (pe_op op_sub (C8.pe_c (c_law_draw T) hr (by decide) rfl (pa_cons (pv 0) (pa_cons (pe_op op_mul pe_int (pv 2)) pa_nil))) (pv 2)))))))), ?_⟩
    refine ⟨_, rfl, _, _, rfl, rfl, ⟨by decide, by decide, by decide⟩, by show 5 ≤ sizeLine; decide, fun b hb => ?_⟩
    refine ⟨upd H0 b _, a, b, _, rfl, W.ext hb, SqL.of upd_same, by show 1 ≤ 5; decide, by show 5 ≤ 1000; decide, fun H1 v W0 hv => ?_⟩
    have W1 := W0.back (Same.new (W.fresh hb))
    obtain ⟨z, rfl, hz, hzb⟩ : ∃ z : Int, v = V.int z ∧ (z ≤ 30 → 2 ≤ z) ∧ 0 ≤ z ∧ z ≤ 10 ^ 29 := by
      simp only [List.mem_cons, List.not_mem_nil, or_false] at hv
      rcases hv with rfl | rfl | rfl | rfl | rfl
      · exact ⟨_, rfl, by omega, by omega, by decide +kernel⟩
      · exact ⟨_, rfl, by omega, by omega, by decide +kernel⟩
      · exact ⟨_, rfl, by omega, by omega, by decide +kernel⟩
      · exact ⟨_, rfl, by omega, by omega, by decide +kernel⟩
      · exact ⟨_, rfl, fun h => absurd h (by decide +kernel), by decide +kernel, by decide +kernel⟩
    refine ⟨_, rfl, _, _, rfl, rfl, _, rfl, ?_⟩
    refine ite2 (fun c => ?_) (fun c => ?_)
    · refine ⟨_, rfl, (n : Int), rfl, by omega, by omega, fun D hD => lc_pot (R := fun _ v z => v = V.int z) (ok := fun _ z => z.natAbs ≤ 10 ^ 30) (fun _ _ _ _ _ r => r) (fun _ _ _ _ _ _ r => r) (n := n) (walk_range (lo := 0)) W1 hD (by omega) (fun _ _ _ _ => trivial) (fun i x H H' H0' Q' hi s W' y q => ?_) (fun H0' H' zs xs s W' hl ho hx hA => ?_)⟩
      · obtain ⟨rfl, rfl⟩ := y
        refine ⟨rfl, _, rfl, H0', a, 3, rfl, W', by decide, by decide, fun H2 d W2 d0 d1 => ?_⟩
        refine ⟨_, _, rfl, rfl, _, rfl, _, _, rfl, rfl, .inl ⟨by omega, by omega⟩, ?_⟩
        refine ⟨_, rfl, H0', a, 9, rfl, W2, by decide, by decide, fun H3 e W3 e0 e1 => ?_⟩
        exact ⟨_, _, rfl, rfl, _, _, rfl, rfl, q _ _ _ _ (Same.refl _) W3 (by rcases (show d = 0 ∨ d = 1 ∨ d = 2 by omega) with rfl | rfl | rfl <;> omega) rfl⟩
      · rw [ints_of_all2 hA] at hx
        exact k _ _ D zs s W' hl (fun z hz => let ⟨i, hi⟩ := List.mem_iff_getElem?.mp hz; ho i z hi) (SqL.of hx)
    · have hz2 : z ≤ 30 := by
        rw [decide_eq_true_eq] at c
        omega
      refine ⟨_, rfl, (n : Int), rfl, by omega, by omega, fun D hD => lc_pot (R := fun _ v z => v = V.int z) (ok := fun _ z => z.natAbs ≤ 10 ^ 30) (fun _ _ _ _ _ r => r) (fun _ _ _ _ _ _ r => r) (n := n) (walk_range (lo := 0)) W1 hD (by omega) (fun _ _ _ _ => trivial) (fun i x H H' H0' Q' hi s W' y q => ?_) (fun H0' H' zs xs s W' hl ho hx hA => ?_)⟩
      · obtain ⟨rfl, rfl⟩ := y
        have := hz hz2
        refine ⟨rfl, _, rfl, _, rfl, _, _, rfl, rfl, .inl ⟨by decide, by decide⟩, H0', a, 2 * z, rfl, W', by omega, by omega, fun H2 d W2 d0 d1 => ?_⟩
        exact ⟨_, rfl, _, _, rfl, rfl, q _ _ _ _ (Same.refl _) W2 (by omega) rfl⟩
      · rw [ints_of_all2 hA] at hx
        exact k _ _ D zs s W' hl (fun z hz => let ⟨i, hi⟩ := List.mem_iff_getElem?.mp hz; ho i z hi) (SqL.of hx)
end
end LL

namespace LL
open PySem L2 PySem.Spec PyProof.Rows
section
variable {P : Program} {w : World} {K : PySem.W.Frag} {mg : Str → Option Value} {base : Heap} {C : Addr}
def sp_law_pot (K : PySem.W.Frag) : Sp := fun vs H Q _ => ∃ (s : Addr) (is : List Int) (k : Nat), vs = [V.ref s, V.int k] ∧ SqL K H s (is.map V.int) ∧ k ≤ 2 ∧ ∀ H' a, Same H H' → H a = none → Pot H' a → Q (.ref a) H'
theorem c_law_pot (T : Txt K mg C) : C8.Cal P w K mg base 1 "_law_pot" (sp_law_pot K) [] := by
  refine T.d_law_pot.cal sc_law_pot (fun vs H Q E h => ?_) (fun f cdv A outer s H vs Q E hr h => ?_)
  · obtain ⟨s, is, k, rfl, _⟩ := h
    rfl
  · obtain ⟨sc, is, k, rfl, hs, hk, q⟩ := h
    refine ⟨_, (pss_cons (ps_set (i := 2) sc_law_pot.nd rfl (Or.inl rfl) (pe_ifExp (pt_cmpR op_lt (pv 1) (pe_callB call_len_seq (by rfl) T.b_len (by decide +kernel) (pa_cons (pv 0) pa_nil)) (nomark _)) (pe_callB call_abs (by rfl) T.b_abs (by decide +kernel) (pa_cons (pe_ix ix_list (pv 0) (pv 1) (fun _ _ => rfl)) pa_nil)) (pe_op op_add (pe_op op_mul pe_int (pv 1)) pe_int)))
      (pss_one (ps_ret (pe_lst (pa_cons (pe_callB (call_max2 rfl) (by rfl) T.b_max (by decide +kernel) (pa_cons pe_int (pa_cons (pe_op op_sub (pv 2) (pe_op op_pow pe_int pe_int)) pa_nil))) (pa_cons (pe_op op_add (pe_op op_mod (pe_callTy call_int1 (by rfl) T.b_int (by decide +kernel) (pa_cons (pe_op op_add (pe_op op_add (pe_op op_mul (pe_op op_mod (pe_callTy call_int1 (by rfl) T.b_int (by decide +kernel) (pa_cons (pv 2) pa_nil)) pe_int) pe_int) (pe_op op_mul pe_int (pv 1))) pe_int) pa_nil)) pe_int) pe_int) pa_nil)))))), ?_⟩
    refine ⟨_, rfl, _, rfl, sc, _, rfl, .inl hs, _, _, rfl, rfl, _, rfl, ?_⟩
    refine ite2 (fun c => ?_) (fun c => ?_)
    · have hk2 : k < is.length := by
        have := of_decide_eq_true c
        rw [List.length_map] at this
        omega
      refine ⟨_, rfl, _, rfl, sc, _, _, _, rfl, rfl, hs, int_atI hk2, _, rfl, ?_⟩
      refine ⟨_, rfl, _, _, rfl, rfl, ⟨by decide, by decide, by decide⟩, _, _, rfl, rfl, _, _, rfl, ?_⟩
      refine ⟨_, rfl, .inl ⟨_, rfl, _, _, rfl, rfl, by show (0 : Int) < 2147483489; decide, _, _, rfl, rfl, .inl ⟨?_, ?_⟩, _, rfl, _, _, rfl, rfl, .inl ⟨by decide, by decide⟩, _, _, rfl, rfl, _, _, rfl, rfl, .inl ⟨_, rfl, _, _, rfl, rfl, by show (0 : Int) < 2147483497; decide, _, _, rfl, rfl, ?_⟩⟩⟩
      · have := Int.emod_nonneg (if at0 is k < 0 then -at0 is k else at0 is k) (show (2147483489 : Int) ≠ 0 by decide)
        omega
      · have := Int.emod_lt_of_pos (if at0 is k < 0 then -at0 is k else at0 is k) (show (0 : Int) < 2147483489 by decide)
        omega
      refine ⟨by show 2 ≤ sizeLine; decide, fun a ha => q _ a (Same.new ha) ha ⟨_, _, upd_same, ?_, ?_, ?_⟩⟩
      · split <;> omega
      · have := Int.emod_nonneg (((if at0 is k < 0 then -at0 is k else at0 is k) % 2147483489 * 40063 + 6047 * (k : Int) + 53)) (show (2147483497 : Int) ≠ 0 by decide)
        omega
      · have := Int.emod_lt_of_pos (((if at0 is k < 0 then -at0 is k else at0 is k) % 2147483489 * 40063 + 6047 * (k : Int) + 53)) (show (0 : Int) < 2147483497 by decide)
        omega
    · refine ⟨_, rfl, _, _, rfl, rfl, .inl ⟨by decide, by decide⟩, _, _, rfl, rfl, ?_⟩
      refine ⟨_, rfl, _, _, rfl, rfl, ⟨by decide, by decide, by decide⟩, _, _, rfl, rfl, _, _, rfl, ?_⟩
      refine ⟨_, rfl, .inl ⟨_, rfl, _, _, rfl, rfl, by show (0 : Int) < 2147483489; decide, _, _, rfl, rfl, .inl ⟨?_, ?_⟩, _, rfl, _, _, rfl, rfl, .inl ⟨by decide, by decide⟩, _, _, rfl, rfl, _, _, rfl, rfl, .inl ⟨_, rfl, _, _, rfl, rfl, by show (0 : Int) < 2147483497; decide, _, _, rfl, rfl, ?_⟩⟩⟩
      · have := Int.emod_nonneg (191 * (k : Int) + 97) (show (2147483489 : Int) ≠ 0 by decide)
        omega
      · have := Int.emod_lt_of_pos (191 * (k : Int) + 97) (show (0 : Int) < 2147483489 by decide)
        omega
      refine ⟨by show 2 ≤ sizeLine; decide, fun a ha => q _ a (Same.new ha) ha ⟨_, _, upd_same, ?_, ?_, ?_⟩⟩
      · split <;> omega
      · have := Int.emod_nonneg (((191 * (k : Int) + 97) % 2147483489 * 40063 + 6047 * (k : Int) + 53)) (show (2147483497 : Int) ≠ 0 by decide)
        omega
      · have := Int.emod_lt_of_pos (((191 * (k : Int) + 97) % 2147483489 * 40063 + 6047 * (k : Int) + 53)) (show (0 : Int) < 2147483497 by decide)
        omega
end
end LL

namespace LL
open PySem L2 PySem.Spec PyProof.Rows
section
variable {P : Program} {w : World} {K : PySem.W.Frag} {mg : Str → Option Value} {base : Heap} {C : Addr}
def sp_law_done (K : PySem.W.Frag) : Sp := fun vs H Q _ => ∃ (t a : Addr) (g : Gt) (ns : List Int), vs = [V.ref t, V.ref a] ∧ SqT K H t g.vals ∧ SqL K H a (ns.map V.int) ∧ g.ok ns.length ∧ ∀ H' p, Same H H' → H p = none → H' p = some (.lst ((g.done ns).map V.int)) → Q (.ref p) H'
theorem c_law_done (T : Txt K mg C) : C8.Cal P w K mg base 1 "_law_done" (sp_law_done K) [] := by
  refine T.d_law_done.cal sc_law_done (fun vs H Q E h => ?_) (fun f cdv A outer s H vs Q E hr h => ?_)
  · obtain ⟨t, a, g, ns, rfl, _⟩ := h
    rfl
  · obtain ⟨t, a, g, ns, rfl, hg, ha, ho, k⟩ := h
    refine ⟨_, (pss_cons (ps_asg (pv 0) (pg_tup (n := 3) rfl (pgs_cons (pg_name (i := 2) sc_law_done.nd rfl (Or.inl rfl)) (pgs_cons (pg_name (i := 3) sc_law_done.nd rfl (Or.inl rfl)) (pgs_cons (pg_name (i := 4) sc_law_done.nd rfl (Or.inl rfl)) pgs_nil)))))
      (pss_cons (ps_set (i := 5) sc_law_done.nd rfl (Or.inl rfl) (pe_callTy call_list_of (by rfl) T.b_list (by decide +kernel) (pa_cons (pv 1) pa_nil)))
      (pss_cons (ps_if (pt_cmpR op_eq (pv 2) pe_str (nomark _))
       (pss_one (ps_asg (pe_op op_add (pe_ix ix_list (pv 1) (pv 3) (fun _ _ => rfl)) (pv 4)) (pg_sub (pv 5) (pv 3) set_list)))
       pss_nil)
      (pss_cons (ps_if (pt_cmpR op_eq (pv 2) pe_str (nomark _))
       (pss_one (ps_asg (pe_ix ix_list (pv 1) (pv 4) (fun _ _ => rfl)) (pg_sub (pv 5) (pv 3) set_list)))
       pss_nil)
      (pss_cons (ps_if (pt_cmpR op_in_seq (pv 2) (pe_lst (pa_cons pe_str (pa_cons pe_str pa_nil))) (by rfl))
       (pss_one (ps_asg (pe_callB (call_min2 rfl) (by rfl) T.b_min (by decide +kernel) (pa_cons (pe_ix ix_list (pv 1) (pv 3) (fun _ _ => rfl)) (pa_cons (pe_ix ix_list (pv 1) (pv 4) (fun _ _ => rfl)) pa_nil))) (pg_sub (pv 5) (pv 3) set_list)))
       pss_nil)
      (pss_cons (ps_if (pt_cmpR op_eq (pv 2) pe_str (nomark _))
       (pss_one (ps_asg (pe_callB (call_max2 rfl) (by rfl) T.b_max (by decide +kernel) (pa_cons (pe_ix ix_list (pv 1) (pv 3) (fun _ _ => rfl)) (pa_cons (pe_ix ix_list (pv 1) (pv 4) (fun _ _ => rfl)) pa_nil))) (pg_sub (pv 5) (pv 3) set_list)))
       pss_nil)
      (pss_cons (ps_if (pt_cmpR op_eq (pv 2) pe_str (nomark _))
       (pss_one (ps_asg (pe_callB (call_max2 rfl) (by rfl) T.b_max (by decide +kernel) (pa_cons (pe_ix ix_list (pv 1) (pv 3) (fun _ _ => rfl)) (pa_cons (pe_ix ix_list (pv 1) (pv 4) (fun _ _ => rfl)) pa_nil))) (pg_sub (pv 5) (pv 4) set_list)))
       pss_nil)
      (pss_one (ps_ret (pv 5)))))))))), ?_⟩
    cases g with
    | add i c =>
      have hi : i < ns.length := ho
      refine ⟨_, rfl, t, _, rfl, hg, rfl, _, _, rfl, _, _, rfl, _, _, rfl, rfl, ?_⟩
      refine ⟨_, rfl, a, _, rfl, .inl ha, fun p hp => ?_⟩
      have s1 : Same H (upd H p (.lst (ns.map V.int))) := Same.new hp
      refine ⟨_, rfl, rfl, _, rfl, ?_⟩
      refine itT (by decide +kernel) ?_
      refine ⟨_, rfl, _, rfl, a, _, _, _, rfl, rfl, s1.seq ha, int_atI hi, _, rfl, _, _, rfl, rfl, ?_⟩
      refine ⟨_, rfl, _, rfl, p, _, _, i, rfl, rfl, upd_same, ixN_nat (by rw [List.length_map]; exact hi), ?_⟩
      have s2 := s1.mut (p := p) (o := .lst ((ns.map V.int).set i (.int (at0 ns i + c)))) hp
      refine ⟨_, rfl, rfl, _, rfl, ?_⟩
      refine itF (by decide +kernel) ?_
      refine ⟨_, rfl, by show 2 ≤ sizeLine; decide, fun b hb => ?_⟩
      refine ⟨b, _, rfl, .inl (SqL.of upd_same), rfl, rfl, _, rfl, ?_⟩
      refine itF (by decide +kernel) ?_
      refine ⟨_, rfl, rfl, _, rfl, ?_⟩
      refine itF (by decide +kernel) ?_
      refine ⟨_, rfl, rfl, _, rfl, ?_⟩
      refine itF (by decide +kernel) ?_
      refine ⟨_, rfl, k _ p (s2.trans (Same.new hb)) hp ?_⟩
      rw [upd_ne (ne_of_none upd_same hb), upd_same, map_set_int]
      rfl
    | copy i j =>
      obtain ⟨hi, hj, hij⟩ := ho
      refine ⟨_, rfl, t, _, rfl, hg, rfl, _, _, rfl, _, _, rfl, _, _, rfl, rfl, ?_⟩
      refine ⟨_, rfl, a, _, rfl, .inl ha, fun p hp => ?_⟩
      have s1 : Same H (upd H p (.lst (ns.map V.int))) := Same.new hp
      refine ⟨_, rfl, rfl, _, rfl, ?_⟩
      refine itF (by decide +kernel) ?_
      refine ⟨_, rfl, rfl, _, rfl, ?_⟩
      refine itT (by decide +kernel) ?_
      refine ⟨_, rfl, _, rfl, a, _, _, _, rfl, rfl, s1.seq ha, int_atI hj, ?_⟩
      refine ⟨_, rfl, _, rfl, p, _, _, i, rfl, rfl, upd_same, ixN_nat (by rw [List.length_map]; exact hi), ?_⟩
      have s2 := s1.mut (p := p) (o := .lst ((ns.map V.int).set i (.int (at0 ns j)))) hp
      refine ⟨_, rfl, by show 2 ≤ sizeLine; decide, fun b hb => ?_⟩
      refine ⟨b, _, rfl, .inl (SqL.of upd_same), rfl, rfl, _, rfl, ?_⟩
      refine itF (by decide +kernel) ?_
      refine ⟨_, rfl, rfl, _, rfl, ?_⟩
      refine itF (by decide +kernel) ?_
      refine ⟨_, rfl, rfl, _, rfl, ?_⟩
      refine itF (by decide +kernel) ?_
      refine ⟨_, rfl, k _ p (s2.trans (Same.new hb)) hp ?_⟩
      rw [upd_ne (ne_of_none upd_same hb), upd_same, map_set_int]
      rfl
    | low i j =>
      obtain ⟨hi, hj, hij⟩ := ho
      refine ⟨_, rfl, t, _, rfl, hg, rfl, _, _, rfl, _, _, rfl, _, _, rfl, rfl, ?_⟩
      refine ⟨_, rfl, a, _, rfl, .inl ha, fun p hp => ?_⟩
      have s1 : Same H (upd H p (.lst (ns.map V.int))) := Same.new hp
      refine ⟨_, rfl, rfl, _, rfl, ?_⟩
      refine itF (by decide +kernel) ?_
      refine ⟨_, rfl, rfl, _, rfl, ?_⟩
      refine itF (by decide +kernel) ?_
      refine ⟨_, rfl, by show 2 ≤ sizeLine; decide, fun b hb => ?_⟩
      refine ⟨b, _, rfl, .inl (SqL.of upd_same), rfl, rfl, _, rfl, ?_⟩
      refine itT (by decide +kernel) ?_
      have npb := ne_of_none upd_same hb
      have s2 := s1.trans (Same.new (o := .lst [.str "low", .str "sort"]) hb)
      refine ⟨_, rfl, _, rfl, a, _, _, _, rfl, rfl, s2.seq ha, int_atI hi, _, rfl, _, rfl, a, _, _, _, rfl, rfl, s2.seq ha, int_atI hj, _, _, rfl, ?_⟩
      refine ⟨_, rfl, _, rfl, p, _, _, i, rfl, rfl, (by rw [upd_ne npb]; exact upd_same), ixN_nat (by rw [List.length_map]; exact hi), ?_⟩
      refine ⟨_, rfl, rfl, _, rfl, ?_⟩
      refine itF (by decide +kernel) ?_
      refine ⟨_, rfl, rfl, _, rfl, ?_⟩
      refine itF (by decide +kernel) ?_
      refine ⟨_, rfl, k _ p (s2.mut hp) hp ?_⟩
      rw [upd_same, map_set_int]
      rfl
    | high i j =>
      obtain ⟨hi, hj, hij⟩ := ho
      refine ⟨_, rfl, t, _, rfl, hg, rfl, _, _, rfl, _, _, rfl, _, _, rfl, rfl, ?_⟩
      refine ⟨_, rfl, a, _, rfl, .inl ha, fun p hp => ?_⟩
      have s1 : Same H (upd H p (.lst (ns.map V.int))) := Same.new hp
      refine ⟨_, rfl, rfl, _, rfl, ?_⟩
      refine itF (by decide +kernel) ?_
      refine ⟨_, rfl, rfl, _, rfl, ?_⟩
      refine itF (by decide +kernel) ?_
      refine ⟨_, rfl, by show 2 ≤ sizeLine; decide, fun b hb => ?_⟩
      refine ⟨b, _, rfl, .inl (SqL.of upd_same), rfl, rfl, _, rfl, ?_⟩
      refine itF (by decide +kernel) ?_
      have npb := ne_of_none upd_same hb
      have s2 := s1.trans (Same.new (o := .lst [.str "low", .str "sort"]) hb)
      refine ⟨_, rfl, rfl, _, rfl, ?_⟩
      refine itT (by decide +kernel) ?_
      refine ⟨_, rfl, _, rfl, a, _, _, _, rfl, rfl, s2.seq ha, int_atI hi, _, rfl, _, rfl, a, _, _, _, rfl, rfl, s2.seq ha, int_atI hj, _, _, rfl, ?_⟩
      refine ⟨_, rfl, _, rfl, p, _, _, i, rfl, rfl, (by rw [upd_ne npb]; exact upd_same), ixN_nat (by rw [List.length_map]; exact hi), ?_⟩
      refine ⟨_, rfl, rfl, _, rfl, ?_⟩
      refine itF (by decide +kernel) ?_
      refine ⟨_, rfl, k _ p (s2.mut hp) hp ?_⟩
      rw [upd_same, map_set_int]
      rfl
    | sort i j =>
      obtain ⟨hi, hj, hij⟩ := ho
      refine ⟨_, rfl, t, _, rfl, hg, rfl, _, _, rfl, _, _, rfl, _, _, rfl, rfl, ?_⟩
      refine ⟨_, rfl, a, _, rfl, .inl ha, fun p hp => ?_⟩
      have s1 : Same H (upd H p (.lst (ns.map V.int))) := Same.new hp
      refine ⟨_, rfl, rfl, _, rfl, ?_⟩
      refine itF (by decide +kernel) ?_
      refine ⟨_, rfl, rfl, _, rfl, ?_⟩
      refine itF (by decide +kernel) ?_
      refine ⟨_, rfl, by show 2 ≤ sizeLine; decide, fun b hb => ?_⟩
      refine ⟨b, _, rfl, .inl (SqL.of upd_same), rfl, rfl, _, rfl, ?_⟩
      refine itT (by decide +kernel) ?_
      have npb := ne_of_none upd_same hb
      have s2 := s1.trans (Same.new (o := .lst [.str "low", .str "sort"]) hb)
      refine ⟨_, rfl, _, rfl, a, _, _, _, rfl, rfl, s2.seq ha, int_atI hi, _, rfl, _, rfl, a, _, _, _, rfl, rfl, s2.seq ha, int_atI hj, _, _, rfl, ?_⟩
      refine ⟨_, rfl, _, rfl, p, _, _, i, rfl, rfl, (by rw [upd_ne npb]; exact upd_same), ixN_nat (by rw [List.length_map]; exact hi), ?_⟩
      have s3 := s2.mut (p := p) (o := .lst ((ns.map V.int).set i (.int (mn (at0 ns i) (at0 ns j))))) hp
      refine ⟨_, rfl, rfl, _, rfl, ?_⟩
      refine itF (by decide +kernel) ?_
      refine ⟨_, rfl, rfl, _, rfl, ?_⟩
      refine itT (by decide +kernel) ?_
      refine ⟨_, rfl, _, rfl, a, _, _, _, rfl, rfl, s3.seq ha, int_atI hi, _, rfl, _, rfl, a, _, _, _, rfl, rfl, s3.seq ha, int_atI hj, _, _, rfl, ?_⟩
      refine ⟨_, rfl, _, rfl, p, _, _, j, rfl, rfl, upd_same, ixN_nat (by rw [List.length_set, List.length_map]; exact hj), ?_⟩
      refine ⟨_, rfl, k _ p (s3.mut hp) hp ?_⟩
      rw [upd_same, map_set_int, map_set_int]
      rfl
end
end LL

namespace LL
open PySem L2 PySem.Spec PyProof.Rows
section
variable {P : Program} {w : World} {K : PySem.W.Frag} {mg : Str → Option Value} {base : Heap} {C : Addr}
def sp_law_run (K : PySem.W.Frag) : Sp := fun vs H Q _ => ∃ (l a : Addr) (gs : List Gt) (ns : List Int), vs = [V.ref l, V.ref a] ∧ Gs K H l gs ∧ SqL K H a (ns.map V.int) ∧ (∀ g ∈ gs, g.ok ns.length) ∧ gs.length ≤ 400 ∧ ∀ H' r, Same H H' → NewRows H H' r (rowsOf gs ns) → Q (.ref r) H'
theorem c_law_run (T : Txt K mg C) : C8.Cal P w K mg base 2 "_law_run" (sp_law_run K) [] := by
  refine T.d_law_run.cal sc_law_run (fun vs H Q E h => ?_) (fun f cdv A outer s H vs Q E hr h => ?_)
  · obtain ⟨l, a, gs, ns, rfl, _⟩ := h
    rfl
  · obtain ⟨l, a, gs, ns, rfl, ⟨xs, hS, hA⟩, ha, ho, hf, k⟩ := h
    refine ⟨_, (pss_cons (ps_set (i := 2) sc_law_run.nd rfl (Or.inl rfl) (pe_lst (pa_cons (pe_callTy call_list_of (by rfl) T.b_list (by decide +kernel) (pa_cons (pv 1) pa_nil)) pa_nil)))
      (pss_cons (ps_for PassesOwn.never rfl (pi_list (pv 0)) (pg_name (i := 3) sc_law_run.nd rfl (Or.inl rfl))
       (pss_one (ps_expr (pe_bm PySem.F.plainAttrs_list PySem.F.slot_list_append PySem.F.type_list_append mt_append (pv 2) (pa_cons (C8.pe_c (c_law_done T) hr (by decide) rfl (pa_cons (pv 3) (pa_cons (pe_ix ix_list (pv 2) (pe_un un_neg pe_int) (fun _ _ => rfl)) pa_nil))) pa_nil)))))
      (pss_one (ps_ret (pv 2))))), ?_⟩
    refine ⟨_, rfl, a, _, rfl, .inl ha, fun b hb => ?_⟩
    refine ⟨by show 1 ≤ sizeLine; decide, fun r hrr => ?_⟩
    have g0 := Grow.start (Same.refl H) hb hrr
    have s2 : Same H (upd (upd H b (.lst (ns.map V.int))) r (.lst [.ref b])) := (Same.new (o := .lst (ns.map V.int)) hb).trans (Same.new (o := .lst [.ref b]) hrr)
    refine ⟨_, rfl, l, rfl, ⟨_, s2.seq hS⟩, ?_⟩
    refine for_it walk_list (fun i σ H' => Same H H' ∧ ∃ b v, Grow H H' r b ((List.range i).map fun k => runs (gs.take k) ns) (runs (gs.take i) ns) ∧ σ = [some (.ref l), some (.ref a), some (.ref r), v]) ⟨s2, b, none, g0, rfl⟩ (fun i σ H' _ z => z.1.seq hS) (fun i x σ H2 H3 hi z y => ?_) (fun σ H2 z => ?_)
    · obtain ⟨s4, b4, v, G, rfl⟩ := z
      obtain ⟨rfl, hx⟩ := y
      obtain ⟨g, hg, t, rfl, ht⟩ := hA.get hx
      obtain ⟨ys, hr4, _⟩ := G.2.2.2.2
      refine ⟨_, rfl, .inl ⟨rfl, _, SqL.of hr4⟩, ?_⟩
      refine ⟨_, rfl, _, rfl, _, rfl, r, _, _, _, rfl, rfl, SqL.of hr4, atI_end _ _, ?_⟩
      refine ⟨t, b4, g, _, rfl, s4.seqT ht, SqL.of G.2.2.2.1, (by rw [runs_length]; exact ho g (List.mem_of_getElem? hg)), fun H5 q5 s5 hq5 h5 => ?_⟩
      obtain ⟨zs, hz, hzl, G5⟩ := G.step s4 s5 hq5 h5
      refine ⟨r, zs, _, rfl, rfl, hz, ?_, ?_⟩
      · rw [hzl, List.length_map, List.length_range]
        rw [hA.1] at hi
        exact size100 (by omega)
      · refine ⟨(s4.trans s5).mut G.1, q5, _, ?_, rfl⟩
        rw [rows_snoc, runs_take_succ hg]
        exact G5
    · obtain ⟨s4, b4, v, G, rfl⟩ := z
      refine ⟨_, rfl, k _ r s4 ?_⟩
      have e := G.new
      rw [← rows_snoc (fun k => runs (gs.take k) ns), hA.1] at e
      exact e
theorem rows_last {gs : List Gt} {ns : List Int} {xs : List V} {H H' : Hp} (hA : All2 (IsN H H') xs (rowsOf gs ns)) : ∃ b, atI xs (-1) = some (.ref b) ∧ H b = none ∧ H' b = some (.lst ((runs gs ns).map V.int)) := by
  have hl : xs.length = gs.length + 1 := by
    rw [hA.1]
    unfold rowsOf
    rw [List.length_map, List.length_range]
  have hv : xs[gs.length]? = some xs[gs.length] := List.getElem?_eq_getElem (by omega)
  obtain ⟨b, e, b0, b1⟩ := hA.2 gs.length _ (runs gs ns) hv (by unfold rowsOf; rw [List.getElem?_map, List.getElem?_range (by omega)]; show some (runs (gs.take gs.length) ns) = _; rw [List.take_length])
  refine ⟨b, ?_, b0, b1⟩
  unfold atI ixN
  rw [if_neg (by decide), if_pos (by omega)]
  show xs[((-1 : Int) + (xs.length : Int)).toNat]? = _
  rw [show ((-1 : Int) + (xs.length : Int)).toNat = gs.length by omega, hv, e]
def sp_law_rounds (K : PySem.W.Frag) : Sp := fun vs H Q _ => ∃ (l a : Addr) (gs : List Gt) (ns : List Int) (m : Nat), vs = [V.ref l, V.ref a, V.int m] ∧ Gs K H l gs ∧ SqL K H a (ns.map V.int) ∧ (∀ g ∈ gs, g.ok ns.length) ∧ gs.length ≤ 400 ∧ m ≤ 1000 ∧ ∀ H' r, Same H H' → NewRows H H' r (roundsOf gs ns m) → Q (.ref r) H'
theorem c_law_rounds (T : Txt K mg C) : C8.Cal P w K mg base 3 "_law_rounds" (sp_law_rounds K) [] := by
  refine T.d_law_rounds.cal sc_law_rounds (fun vs H Q E h => ?_) (fun f cdv A outer s H vs Q E hr h => ?_)
  · obtain ⟨l, a, gs, ns, m, rfl, _⟩ := h
    rfl
  · obtain ⟨l, a, gs, ns, m, rfl, hG, ha, ho, hf, hm, k⟩ := h
    refine ⟨_, (pss_cons (ps_set (i := 3) sc_law_rounds.nd rfl (Or.inl rfl) (pe_lst (pa_cons (pe_callTy call_list_of (by rfl) T.b_list (by decide +kernel) (pa_cons (pv 1) pa_nil)) pa_nil)))
      (pss_cons (ps_for PassesOwn.never rfl (pi_range1 rfl T.b_range (pa_cons (pv 2) pa_nil)) (pg_name (i := 4) sc_law_rounds.nd rfl (Or.inl rfl))
       (pss_one (ps_expr (pe_bm PySem.F.plainAttrs_list PySem.F.slot_list_append PySem.F.type_list_append mt_append (pv 3) (pa_cons (pe_ix ix_list (C8.pe_c (c_law_run T) hr (by decide) rfl (pa_cons (pv 0) (pa_cons (pe_ix ix_list (pv 3) (pe_un un_neg pe_int) (fun _ _ => rfl)) pa_nil))) (pe_un un_neg pe_int) (fun _ _ => rfl)) pa_nil)))))
      (pss_one (ps_ret (pv 3))))), ?_⟩
    refine ⟨_, rfl, a, _, rfl, .inl ha, fun b hb => ?_⟩
    refine ⟨by show 1 ≤ sizeLine; decide, fun r hrr => ?_⟩
    have g0 := Grow.start (Same.refl H) hb hrr
    have s2 : Same H (upd (upd H b (.lst (ns.map V.int))) r (.lst [.ref b])) := (Same.new (o := .lst (ns.map V.int)) hb).trans (Same.new (o := .lst [.ref b]) hrr)
    refine ⟨_, rfl, (m : Int), rfl, by omega, by omega, ?_⟩
    refine for_it (n := m) (walk_range (lo := 0)) (fun i σ H' => Same H H' ∧ ∃ b v, Grow H H' r b ((List.range i).map fun k => rnds gs k ns) (rnds gs i ns) ∧ σ = [some (.ref l), some (.ref a), some (.int m), some (.ref r), v]) ⟨s2, b, none, g0, rfl⟩ (fun _ _ _ _ _ => trivial) (fun i x σ H2 H3 hi z y => ?_) (fun σ H2 z => ?_)
    · obtain ⟨s4, b4, v, G, rfl⟩ := z
      obtain ⟨rfl, rfl⟩ := y
      obtain ⟨ys, hr4, _⟩ := G.2.2.2.2
      refine ⟨_, rfl, .inl ⟨rfl, _, SqL.of hr4⟩, ?_⟩
      refine ⟨_, rfl, _, rfl, _, rfl, r, _, _, _, rfl, rfl, SqL.of hr4, atI_end _ _, ?_⟩
      refine ⟨l, b4, gs, rnds gs i ns, rfl, hG.to s4, SqL.of G.2.2.2.1, (by rw [rnds_length]; exact ho), hf, fun H5 r5 s5 ⟨_, xs, hr5, hA5⟩ => ?_⟩
      obtain ⟨q5, e5, hq5, h5⟩ := rows_last hA5
      refine ⟨_, rfl, r5, xs, _, _, rfl, rfl, SqL.of hr5, e5, ?_⟩
      obtain ⟨zs, hz, hzl, G5⟩ := G.step s4 s5 hq5 h5
      refine ⟨r, zs, _, rfl, rfl, hz, ?_, ?_⟩
      · rw [hzl, List.length_map, List.length_range]
        exact size100 (by omega)
      · refine ⟨(s4.trans s5).mut G.1, q5, _, ?_, rfl⟩
        rw [rows_snoc]
        exact G5
    · obtain ⟨s4, b4, v, G, rfl⟩ := z
      refine ⟨_, rfl, k _ r s4 ?_⟩
      have e := G.new
      rw [← rows_snoc (fun k => rnds gs k ns)] at e
      exact e
end
end LL

namespace LL
open PySem L2 PySem.Spec PyProof.Rows
/-! ### the mathematics of rounds -/
theorem runs_app (gs hs : List Gt) (ns : List Int) : runs (gs ++ hs) ns = runs hs (runs gs ns) := by
  unfold runs
  rw [List.foldl_append]
theorem rnds_add (gs : List Gt) (ns : List Int) (b : Nat) : ∀ a, rnds gs (a + b) ns = rnds gs a (rnds gs b ns)
  | 0 => by rw [Nat.zero_add]; rfl
  | a + 1 => by
    rw [Nat.succ_add]
    show runs gs (rnds gs (a + b) ns) = runs gs (rnds gs a (rnds gs b ns))
    rw [rnds_add gs ns b a]
theorem rnds_shift (gs : List Gt) (ns : List Int) (a : Nat) : rnds gs a (runs gs ns) = rnds gs (a + 1) ns := (rnds_add gs ns 1 a).symm
theorem runs_rep (gs : List Gt) : ∀ (m : Nat) (ns : List Int), runs (repG m gs) ns = rnds gs m ns
  | 0, _ => rfl
  | m + 1, ns => by
    rw [rep_succ, runs_app, runs_rep gs m, rnds_shift]
theorem rnds_rep (gs : List Gt) (k : Nat) (ns : List Int) : ∀ m, rnds (repG k gs) m ns = rnds gs (k * m) ns
  | 0 => by rw [Nat.mul_zero]; rfl
  | m + 1 => by
    show runs (repG k gs) (rnds (repG k gs) m ns) = _
    rw [rnds_rep gs k ns m, runs_rep, ← rnds_add]
    congr 1
    rw [Nat.mul_succ]
    omega
theorem rnds_cut (t d : List Gt) (ns : List Int) : ∀ m, rnds (d ++ t) m (runs t ns) = runs t (rnds (t ++ d) m ns)
  | 0 => rfl
  | m + 1 => by
    show runs (d ++ t) (rnds (d ++ t) m (runs t ns)) = runs t (runs (t ++ d) (rnds (t ++ d) m ns))
    rw [rnds_cut t d ns m, runs_app, runs_app]
theorem at0_mem {ns : List Int} {i : Nat} (h : i < ns.length) : at0 ns i ∈ ns := by
  unfold at0
  rw [List.getD_eq_getElem?_getD, List.getElem?_eq_getElem h]
  exact List.getElem_mem h
theorem mn_or (a b : Int) : mn a b = a ∨ mn a b = b := by
  unfold mn
  split
  · exact .inr rfl
  · exact .inl rfl
theorem mx_or (a b : Int) : mx a b = a ∨ mx a b = b := by
  unfold mx
  split
  · exact .inr rfl
  · exact .inl rfl
/-- what a gate tells has a property, if what is there has it -/
theorem done_all {P R : Int → Prop} {g : Gt} {ns : List Int} (ho : g.ok ns.length) (h : ∀ x ∈ ns, P x) (up : ∀ x, P x → R x) (ad : ∀ i c, g = .add i c → ∀ x, P x → R (x + c)) : ∀ x ∈ g.done ns, R x := by
  have put : ∀ {ms : List Int} {i : Nat} {v : Int}, (∀ x ∈ ms, R x) → R v → ∀ x ∈ ms.set i v, R x := fun {ms i v} hm hv x hx => by
    rcases List.mem_or_eq_of_mem_set hx with q | q
    · exact hm x q
    · rw [q]
      exact hv
  have all : ∀ x ∈ ns, R x := fun x hx => up x (h x hx)
  cases g with
  | add i c => exact put all (ad i c rfl _ (h _ (at0_mem ho)))
  | copy i j => exact put all (all _ (at0_mem ho.2.1))
  | low i j =>
    refine put all ?_
    rcases mn_or (at0 ns i) (at0 ns j) with q | q <;> rw [q]
    · exact all _ (at0_mem ho.1)
    · exact all _ (at0_mem ho.2.1)
  | high i j =>
    refine put all ?_
    rcases mx_or (at0 ns i) (at0 ns j) with q | q <;> rw [q]
    · exact all _ (at0_mem ho.1)
    · exact all _ (at0_mem ho.2.1)
  | sort i j =>
    refine put (put all ?_) ?_
    · rcases mn_or (at0 ns i) (at0 ns j) with q | q <;> rw [q]
      · exact all _ (at0_mem ho.1)
      · exact all _ (at0_mem ho.2.1)
    · rcases mx_or (at0 ns i) (at0 ns j) with q | q <;> rw [q]
      · exact all _ (at0_mem ho.1)
      · exact all _ (at0_mem ho.2.1)
theorem runs_plain : ∀ (gs : List Gt) (ns : List Int) (S : Int → Prop), (∀ g ∈ gs, g.ok ns.length) → plainL gs = true → (∀ x ∈ ns, S x) → ∀ x ∈ runs gs ns, S x
  | [], _, _, _, _, h => h
  | g :: r, ns, S, ho, hp, h => by
    have hp' : g.isAdd = false ∧ plainL r = true := by
      have : ((!g.isAdd) && plainL r) = true := hp
      simpa using this
    refine runs_plain r (g.done ns) S (by rw [done_length]; exact fun g' hg => ho g' (List.mem_cons_of_mem _ hg)) hp'.2 (done_all (ho g List.mem_cons_self) h (fun _ z => z) fun i c e => ?_)
    subst e
    cases hp'.1
theorem rnds_plain {gs : List Gt} {ns : List Int} {S : Int → Prop} (ho : ∀ g ∈ gs, g.ok ns.length) (hp : plainL gs = true) (h : ∀ x ∈ ns, S x) : ∀ k, ∀ x ∈ rnds gs k ns, S x
  | 0 => h
  | k + 1 => runs_plain gs _ S (by rw [rnds_length]; exact ho) hp (rnds_plain ho hp h k)
theorem runs_mild : ∀ (gs : List Gt) (ns : List Int) (b : Nat), (∀ g ∈ gs, g.ok ns.length) → (∀ g ∈ gs, g.mild = true) → (∀ x ∈ ns, x.natAbs ≤ b) → ∀ x ∈ runs gs ns, x.natAbs ≤ b + gs.length * 10 ^ 20
  | [], _, b, _, _, h => fun x hx => Nat.le_trans (h x hx) (Nat.le_add_right _ _)
  | g :: r, ns, b, ho, hm, h => fun x hx => by
    have q := runs_mild r (g.done ns) (b + 10 ^ 20) (by rw [done_length]; exact fun g' hg => ho g' (List.mem_cons_of_mem _ hg)) (fun g' hg => hm g' (List.mem_cons_of_mem _ hg)) (done_all (ho g List.mem_cons_self) h (fun _ z => Nat.le_trans z (Nat.le_add_right _ _)) fun i c e y hy => by
      subst e
      have hc : c.natAbs ≤ 10 ^ 20 := of_decide_eq_true (hm _ List.mem_cons_self)
      omega) x hx
    rw [List.length_cons, Nat.succ_mul]
    omega
theorem rnds_mild {gs : List Gt} {ns : List Int} {b : Nat} (ho : ∀ g ∈ gs, g.ok ns.length) (hm : ∀ g ∈ gs, g.mild = true) (h : ∀ x ∈ ns, x.natAbs ≤ b) : ∀ k, ∀ x ∈ rnds gs k ns, x.natAbs ≤ b + k * (gs.length * 10 ^ 20)
  | 0 => fun x hx => Nat.le_trans (h x hx) (Nat.le_add_right _ _)
  | k + 1 => fun x hx => by
    have q := runs_mild gs _ _ (by rw [rnds_length]; exact ho) hm (rnds_mild ho hm h k) x hx
    rw [Nat.succ_mul]
    omega
theorem rnds_small {gs : List Gt} {ns : List Int} (ho : ∀ g ∈ gs, g.ok ns.length) (hm : ∀ g ∈ gs, g.mild = true) (h : ∀ x ∈ ns, x.natAbs ≤ 10 ^ 30) (hl : gs.length ≤ 400) {k : Nat} (hk : k ≤ 1000) : ∀ x ∈ rnds gs k ns, x.natAbs < 10 ^ 40 := fun x hx => by
  have q := rnds_mild ho hm h k x hx
  have a : k * (gs.length * 10 ^ 20) ≤ 1000 * (400 * 10 ^ 20) := Nat.mul_le_mul hk (Nat.mul_le_mul_right _ hl)
  have b : 10 ^ 30 + 1000 * (400 * 10 ^ 20) < 10 ^ 40 := by decide +kernel
  omega
/-! ### rows as data -/
section
variable {K : PySem.W.Frag}
theorem ints_dpAll {H : Hp} : ∀ ns : List Int, DpAll K H (ns.map V.int) (ns.map PyData.int)
  | [] => .nil
  | n :: r => .cons (.int n) (ints_dpAll r)
abbrev rowPy (ns : List Int) : PyData := .list (ns.map PyData.int)
abbrev rowsPy (rows : List (List Int)) : PyData := .list (rows.map rowPy)
theorem ints_dp {H : Hp} {a : Addr} {ns : List Int} (h : SqL K H a (ns.map V.int)) : Dp K H (.ref a) (rowPy ns) := .lst h (ints_dpAll ns)
theorem rws_dp {H : Hp} {a : Addr} {rows : List (List Int)} (h : Rws K H a rows) : Dp K H (.ref a) (rowsPy rows) := by
  obtain ⟨xs, hS, hA⟩ := h
  exact .lst hS (dpAll_of (hA.mono fun v ns ⟨b, e, q⟩ => by rw [e]; exact ints_dp q))
theorem ints_lay : ∀ ns : List Int, PyData.canLayAll0 (ns.map PyData.int) = true := all_lay fun _ => rfl
theorem row_lay (ns : List Int) : (rowPy ns).canLay0 = true := ints_lay ns
theorem rows_lay (rows : List (List Int)) : (rowsPy rows).canLay0 = true := all_lay row_lay rows
theorem row_depth (ns : List Int) : (rowPy ns).depth ≤ 1 := by
  have : PyData.depthAll (ns.map PyData.int) ≤ 0 := all_depth (f := PyData.int) (fun _ => Nat.le_refl 0) ns
  show PyData.depthAll (ns.map PyData.int) + 1 ≤ 1
  omega
theorem rows_depth (rows : List (List Int)) : (rowsPy rows).depth ≤ 2 := by
  have : PyData.depthAll (rows.map rowPy) ≤ 1 := all_depth (f := rowPy) row_depth rows
  show PyData.depthAll (rows.map rowPy) + 1 ≤ 2
  omega
theorem row_shaped (ns : List Int) : SeqAt.shaped (rowPy ns) = true := shaped_of (row_lay ns) (Nat.le_trans (row_depth ns) (by decide))
theorem rows_shaped (rows : List (List Int)) : SeqAt.shaped (rowsPy rows) = true := shaped_of (rows_lay rows) (Nat.le_trans (rows_depth rows) (by decide))
theorem row_same {ns ms : List Int} (h : ns = ms) : PyData.eqv (rowPy ns) (rowPy ms) = true := by
  subst h
  exact SeqAt.eqv_refl _ (row_lay ns)
theorem rows_same {rs ts : List (List Int)} (h : rs = ts) : PyData.eqv (rowsPy rs) (rowsPy ts) = true := by
  subst h
  exact SeqAt.eqv_refl _ (rows_lay rs)
theorem row_tame : ∀ {ns : List Int}, (∀ x ∈ ns, x.natAbs < 10 ^ 40) → tameAll (ns.map PyData.int) = true ∧ wtAll (ns.map PyData.int) = 47 * ns.length
  | [], _ => ⟨rfl, rfl⟩
  | n :: r, h => by
    obtain ⟨a, b⟩ := row_tame (ns := r) fun x hx => h x (List.mem_cons_of_mem _ hx)
    refine ⟨?_, ?_⟩
    · show (decide (n.natAbs < 10 ^ 40) && tameAll (r.map PyData.int)) = true
      rw [a, decide_eq_true (h n List.mem_cons_self)]
      rfl
    · show 45 + 2 + wtAll (r.map PyData.int) = 47 * (r.length + 1)
      rw [b]
      omega
theorem rows_tame : ∀ {rows : List (List Int)}, (∀ ns ∈ rows, ns.length ≤ 12 ∧ ∀ x ∈ ns, x.natAbs < 10 ^ 40) → tameAll (rows.map rowPy) = true ∧ wtAll (rows.map rowPy) ≤ 600 * rows.length
  | [], _ => ⟨rfl, Nat.le_refl _⟩
  | ns :: r, h => by
    obtain ⟨a, b⟩ := rows_tame (rows := r) fun x hx => h x (List.mem_cons_of_mem _ hx)
    obtain ⟨c, d⟩ := row_tame (h ns List.mem_cons_self).2
    have l := (h ns List.mem_cons_self).1
    refine ⟨?_, ?_⟩
    · show (tameAll (ns.map PyData.int) && tameAll (r.map rowPy)) = true
      rw [a, c]
      rfl
    · show wtAll (ns.map PyData.int) + 2 + 2 + wtAll (r.map rowPy) ≤ 600 * (r.length + 1)
      rw [d]
      omega
end
/-! ### what is known -/
def knownG : List Gt := [.low 0 1, .add 0 2]
theorem known_rows : roundsOf knownG [0, 7] 5 = [[0, 7], [2, 7], [4, 7], [6, 7], [8, 7], [9, 7]] := by decide +kernel
theorem known_far : rnds knownG 1000 [100, -3] = [-1, -3] := by decide +kernel
end LL

namespace LL
open PySem L2 PySem.Spec PyProof.Rows
/-! ### what is told of nets beside data -/
def DNet (K : PySem.W.Frag) (C : Addr) : V → Str → Hp → Prop := fun x t H => TOwn C (RTold K C) x t H ∨ TData K x t H
mutual
theorem dp_ext {K : PySem.W.Frag} {H H' : Hp} (e : Ext H H') : ∀ {d : PyData} {v : V}, Dp K H v d → Dp K H' v d
  | .none, _, h => by cases h; exact .non
  | .bool b, _, h => by cases h; exact .bl b
  | .int i, _, h => by cases h; exact .int i
  | .str x, _, h => by cases h; exact .str x
  | .list ds, _, h => by cases h with | lst h1 h2 => exact .lst (h1.ext e) (dpAll_ext e h2)
  | .tuple ds, _, h => by cases h with | tup h1 h2 => exact .tup (h1.ext e) (dpAll_ext e h2)
  | .dict _, _, h => by cases h
theorem dpAll_ext {K : PySem.W.Frag} {H H' : Hp} (e : Ext H H') : ∀ {ds : List PyData} {vs : List V}, DpAll K H vs ds → DpAll K H' vs ds
  | [], _, h => by cases h; exact .nil
  | d :: ds, _, h => by cases h with | cons h1 h2 => exact .cons (dp_ext e h1) (dpAll_ext e h2)
end
theorem dnet_ext {K : PySem.W.Frag} {C : Addr} : ∀ x t H H', Ext H H' → DNet K C x t H → DNet K C x t H' := fun x t H H' e h => h.elim (fun ⟨p, dx, fs, ex, hp, r⟩ => .inl ⟨p, dx, fs, ex, e _ _ hp, rtold_ext e r⟩) fun ⟨d, hd, r⟩ => .inr ⟨d, dp_ext e hd, r⟩
theorem tells_or {X : Cx} {n : Nat} {a : Addr} {D D' : V → Str → Hp → Prop} (h : Tells X n a D) (h' : Tells X n a D') : Tells X n a (fun x t H => D x t H ∨ D' x t H) := fun B pins s σ G x t u c rm fr hB I ru d => d.elim (fun d => h B pins s σ G x t u c rm fr hB I ru d) fun d => h' B pins s σ G x t u c rm fr hB I ru d
theorem tells_net {X : Cx} {C : Addr} (T : Txt X.K X.mg C) (a : Addr) : Tells X 2 a (DNet X.K C) := by
  obtain ⟨f, fd, F, h1, h2, b⟩ := c_repr (P := X.prog) (w := X.w) (base := X.base) T a
  exact tells_or (tells_own F h1 h2 b) tells_data
theorem units100 {k : Nat} {A : Around} (r : Room k A) : A.units + 100 < cLine := by have := r.un; omega
theorem g_tame {g : Gt} {n : Nat} (ho : g.ok n) (hn : n ≤ 12) (hm : g.mild = true) : tame g.py = true ∧ wt g.py ≤ 150 := by
  have sm : ∀ i : Nat, i < n → decide (((i : Nat) : Int).natAbs < 10 ^ 40) = true := fun i hi => decide_eq_true (by rw [Int.natAbs_natCast]; exact Nat.lt_of_lt_of_le hi (Nat.le_trans hn (by decide +kernel)))
  have two : ∀ (x : Str) (i j : Nat), decide ((reprText x).length ≤ 40) = true → i < n → j < n → tame (.tuple [.str x, .int i, .int j]) = true := fun x i j hx hi hj => by
    show (decide ((reprText x).length ≤ 40) && (decide (((i : Nat) : Int).natAbs < 10 ^ 40) && (decide (((j : Nat) : Int).natAbs < 10 ^ 40) && true))) = true
    rw [hx, sm i hi, sm j hj]
    rfl
  cases g with
  | low i j => exact ⟨two "low" i j (by decide +kernel) ho.1 ho.2.1, by show 144 ≤ 150; decide⟩
  | high i j => exact ⟨two "high" i j (by decide +kernel) ho.1 ho.2.1, by show 144 ≤ 150; decide⟩
  | sort i j => exact ⟨two "sort" i j (by decide +kernel) ho.1 ho.2.1, by show 144 ≤ 150; decide⟩
  | copy i j => exact ⟨two "copy" i j (by decide +kernel) ho.1 ho.2.1, by show 144 ≤ 150; decide⟩
  | add i c =>
    have hc : c.natAbs ≤ 10 ^ 20 := of_decide_eq_true hm
    refine ⟨?_, by show 144 ≤ 150; decide⟩
    show (decide ((reprText "add").length ≤ 40) && (decide (((i : Nat) : Int).natAbs < 10 ^ 40) && (decide (c.natAbs < 10 ^ 40) && true))) = true
    rw [sm i ho, decide_eq_true (show c.natAbs < 10 ^ 40 from Nat.lt_of_le_of_lt hc (by decide +kernel)), show decide ((reprText "add").length ≤ 40) = true by decide +kernel]
    rfl
theorem gs_tame {n : Nat} (hn : n ≤ 12) : ∀ {gs : List Gt}, (∀ g ∈ gs, g.ok n) → (∀ g ∈ gs, g.mild = true) → tameAll (gs.map Gt.py) = true ∧ wtAll (gs.map Gt.py) ≤ 152 * gs.length
  | [], _, _ => ⟨rfl, Nat.le_refl _⟩
  | g :: r, ho, hm => by
    obtain ⟨a, b⟩ := gs_tame hn (gs := r) (fun x hx => ho x (List.mem_cons_of_mem _ hx)) fun x hx => hm x (List.mem_cons_of_mem _ hx)
    obtain ⟨c, d⟩ := g_tame (ho g List.mem_cons_self) hn (hm g List.mem_cons_self)
    refine ⟨?_, ?_⟩
    · show (tame g.py && tameAll (r.map Gt.py)) = true
      rw [a, c]
      rfl
    · show wt g.py + 2 + wtAll (r.map Gt.py) ≤ 152 * (r.length + 1)
      omega
theorem net_len {n : Nat} {gs : List Gt} (hn : n ≤ 12) (ho : ∀ g ∈ gs, g.ok n) (hm : ∀ g ∈ gs, g.mild = true) (hf : gs.length ≤ 400) : PyData.showableAll (gs.map Gt.py) = true ∧ (netText n gs).length ≤ 70000 := by
  obtain ⟨a, b⟩ := gs_tame hn ho hm
  obtain ⟨c, d, e⟩ := toldAll a
  have f := listText_le (gsTexts gs)
  have g : (PyData.int (n : Int)).shown.length ≤ 45 := (told (d := .int (n : Int)) (by
    show decide (((n : Nat) : Int).natAbs < 10 ^ 40) = true
    exact decide_eq_true (by rw [Int.natAbs_natCast]; exact Nat.lt_of_le_of_lt hn (by decide +kernel)))).1
  refine ⟨d, ?_⟩
  unfold netText
  simp only [strLen_append]
  have e1 : (Str.empty : Str).length = 0 := rfl
  have e2 : (("Net(" : Str)).length = 4 := by decide +kernel
  have e3 : ((", " : Str)).length = 2 := by decide +kernel
  have e4 : ((")" : Str)).length = 1 := by decide +kernel
  have g' : (toString (n : Int) : Str).length ≤ 45 := g
  have c' : piled (gsTexts gs) ≤ wtAll (gs.map Gt.py) := c
  omega
theorem Wd.mut {a b : Addr} {H0 H : Hp} {o : HO} (w : Wd a H0 H) (h : H0 b = none) (n : b ≠ a) : Wd a H0 (upd H b o) := by
  obtain ⟨p0, p1, e, q⟩ := w.pot
  exact ⟨w.same.mut h, w.off, p0, p1, by rw [upd_ne n.symm]; exact e, q⟩
theorem same_out {H : Hp} {a : Addr} : Same (del H a) H := fun b o h => by
  have hb : b ≠ a := fun z => by
    rw [z, del_at] at h
    cases h
  rw [del_ne hb] at h
  exact h
theorem Wd.all {a : Addr} {H : Hp} (p : Pot H a) : Wd a (del H a) H := ⟨same_out, del_at, p⟩
theorem Wd.under {a : Addr} {H0 H : Hp} (w : Wd a H0 H) : Same H0 (del H a) := same_del w.same w.off
theorem del_some {H : Hp} {a b : Addr} {o : HO} (h : H b = some o) (n : b ≠ a) : del H a b = some o := by rw [del_ne n]; exact h
theorem rows_off {H1 H2 H6 : Hp} {r a : Addr} {rows : List (List Int)} {o : HO} (h : NewRows H1 H2 r rows) (s : Same H2 H6) (n : H1 a = some o) : ∃ xs, del H6 a r = some (.lst xs) ∧ All2 (fun v ns => ∃ b, v = V.ref b ∧ del H6 a b = some (.lst (ns.map V.int))) xs rows := by
  obtain ⟨h0, xs, h1, hA⟩ := h
  exact ⟨xs, del_some (s _ _ h1) (ne_of_none n h0).symm, hA.mono fun v ns ⟨b, e, b0, b1⟩ => ⟨b, e, del_some (s _ _ b1) (ne_of_none n b0).symm⟩⟩
end LL

namespace LL
open PySem L2 PySem.Spec PyProof.Rows
section
variable {P : Program} {w : World} {K : PySem.W.Frag} {mg : Str → Option Value} {base : Heap} {C : Addr}
theorem row_told {ns : List Int} (h : ∀ x ∈ ns, x.natAbs < 10 ^ 40) (hl : ns.length ≤ 12) : (rowPy ns).shown.length ≤ 600 ∧ tame (rowPy ns) = true := by
  obtain ⟨a, b⟩ := row_tame h
  have t : tame (rowPy ns) = true := a
  refine ⟨Nat.le_trans (told t).1 ?_, t⟩
  show wtAll (ns.map PyData.int) + 2 ≤ 600
  omega
theorem pair_told {d e : PyData} (hd : tame d = true) (he : tame e = true) (w : wt d + wt e ≤ 16000000) (p : d.depth ≤ 50) (q : e.depth ≤ 50) :
    PyData.showable (.list [d, e]) = true ∧ PyData.hasDict (.list [d, e]) = false ∧ PyData.depth (.list [d, e]) ≤ 60 ∧ (PyData.shown (.list [d, e])).length ≤ sizeLine := by
  have t : tame (.list [d, e]) = true := by
    show (tame d && (tame e && true)) = true
    rw [hd, he]
    rfl
  obtain ⟨a, b, c⟩ := told t
  refine ⟨b, c, ?_, Nat.le_trans a ?_⟩
  · show PyData.depthAll [d, e] + 1 ≤ 60
    have : PyData.depthAll [d, e] ≤ 50 := Nat.max_le.mpr ⟨p, Nat.max_le.mpr ⟨q, Nat.zero_le _⟩⟩
    omega
  · show wt d + 2 + (wt e + 2 + 0) + 2 ≤ 16777216
    omega
theorem del_none {H : Hp} {a b : Addr} (h : H b = none) : del H a b = none := by
  unfold del
  split
  · rfl
  · exact h
theorem new_ne {H H' : Hp} {r : Addr} {rows : List (List Int)} {xs : List V} (h : NewRows H H' r rows) (hx : H' r = some (.lst xs)) (nz : ∀ ns ∈ rows, ns ≠ []) : ∀ v ∈ xs, ∃ b ns, v = V.ref b ∧ b ≠ r ∧ H b = none ∧ H' b = some (.lst (ns.map V.int)) ∧ ns ∈ rows := by
  obtain ⟨_, ys, hy, hA⟩ := h
  rw [hx] at hy
  obtain rfl : xs = ys := by
    injection hy with hy
    injection hy
  intro v hv
  obtain ⟨i, hi⟩ := List.mem_iff_getElem?.mp hv
  obtain ⟨ns, hns, b, e, b0, b1⟩ := hA.get hi
  have hm := List.mem_of_getElem? hns
  refine ⟨b, ns, e, fun z => ?_, b0, b1, hm⟩
  rw [z, hx] at b1
  injection b1 with b1
  injection b1 with b1
  rw [b1, e] at hi
  obtain ⟨n', q, _⟩ := get_int hi
  cases q
theorem inV_mem {x : Int} : ∀ {ns : List Int}, x ∈ ns → inV (.int x) (ns.map V.int) = true
  | n :: r, h => by
    show (eqV (.int n) (.int x) || inV (.int x) (r.map V.int)) = true
    rcases List.mem_cons.mp h with e | e
    · subst e
      have : eqV (.int x) (.int x) = true := by
        show decide (x = x) = true
        exact decide_eq_true rfl
      rw [this]
      rfl
    · rw [inV_mem e, Bool.or_true]
theorem rounds_last {R : V → List Int → Prop} {gs : List Gt} {ns : List Int} {m : Nat} {xs : List V} (hA : All2 R xs (roundsOf gs ns m)) : ∃ v, atI xs (-1) = some v ∧ R v (rnds gs m ns) := by
  have hl : xs.length = m + 1 := by
    rw [hA.1]
    unfold roundsOf
    rw [List.length_map, List.length_range]
  have hv : xs[m]? = some xs[m] := List.getElem?_eq_getElem (by omega)
  refine ⟨xs[m], ?_, hA.2 m _ (rnds gs m ns) hv (by unfold roundsOf; rw [List.getElem?_map, List.getElem?_range (by omega)]; rfl)⟩
  unfold atI ixN
  rw [if_neg (by decide), if_pos (by omega)]
  show xs[((-1 : Int) + (xs.length : Int)).toNat]? = _
  rw [show ((-1 : Int) + (xs.length : Int)).toNat = m by omega, hv]
def sp_law_told_right (K : PySem.W.Frag) (C : Addr) : Sp := fun vs H Q _ => ∃ (H0 : Hp) (a p l c : Addr) (n : Nat) (gs : List Gt) (ns : List Int), vs = [V.ref a, V.ref p, V.ref l, V.ref c] ∧ Wd a H0 H ∧ NetAt K C H0 p n gs ∧ Gs K H0 l gs ∧ SqL K H0 c (ns.map V.int) ∧ ns.length = n ∧ gs.length ≤ 10 ∧
  (∀ g ∈ gs, g.mild = true) ∧ (∀ z ∈ ns, z.natAbs ≤ 10 ^ 30) ∧ ∀ H', Wd a H0 H' → Q (.bl true) H'
theorem c_law_told_right (T : Txt K mg C) : CalQ NoG P w K mg base 8 "_law_told_right" (sp_law_told_right K C) := by
  obtain ⟨f, fd, D, b⟩ := T.d_law_told_right
  refine ⟨f, fd, _, fnQ0 noG_deep D.fn sc_law_told_right (fun vs H Q E h => ?_) (fun cdv A outer s H vs Q E hr hA h => ?_), D.mgf, D.kp, b⟩
  · obtain ⟨H0, a, p, l, c, n, gs, ns, rfl, _⟩ := h
    rfl
  · obtain ⟨H0, a, p, l, c, n, gs, ns, rfl, W, N, hG, hc, hn, hf, hm, hz, k⟩ := h
    obtain ⟨qp, qg, qfd, qP, qF, qB⟩ := c_is_plain (P := P) (w := w) (base := base) T
    refine ⟨_, (pss_cons (ps_set (i := 4) sc_law_told_right.nd rfl (Or.inl rfl) (C8.pe_c (c_law_draw T) hr (by decide) rfl (pa_cons (pv 0) (pa_cons pe_int pa_nil))))
      (pss_cons (ps_par (i := 5) (j := 6) (by rfl) sc_law_told_right.nd rfl rfl (by decide) rfl rfl (pa_cons (C8.pe_c (c_law_rounds T) hr (by decide) rfl (pa_cons (pv 2) (pa_cons (pv 3) (pa_cons (pv 4) pa_nil)))) (pa_cons (pe_callB (call_reprL dnet_ext (fun a => tells_net T a) hA (hr.mono (by decide))) (by rfl) T.b_repr (by decide +kernel) (pa_cons (pe_lst (pa_cons (pv 1) (pa_cons (pv 3) pa_nil))) pa_nil)) pa_nil)) (by rfl))
      (pss_cons (ps_if (pt_cmpR op_ne (pe_callB (call_repr hA (units100 hr)) (by rfl) T.b_repr (by decide +kernel) (pa_cons (pe_lst (pa_cons (C8.pe_c (c_rounds T) hr (by decide) rfl (pa_cons (pv 1) (pa_cons (pv 3) (pa_cons (pv 4) pa_nil)))) (pa_cons (pe_cK (ck_rounds T) hr (by decide) rfl (pk_cons (pv 4) (pk_cons (pe_callTy call_tuple_of (by rfl) T.b_tuple (by decide +kernel) (pa_cons (pv 3) pa_nil)) (pk_cons (pv 1) pk_nil)))) pa_nil))) pa_nil)) (pe_callB (call_repr hA (units100 hr)) (by rfl) T.b_repr (by decide +kernel) (pa_cons (pe_op op_rep (pe_lst (pa_cons (pe_ix ix_list (pv 5) (pe_un un_neg pe_int) (fun _ _ => rfl)) pa_nil)) pe_int) pa_nil)) (nomark _))
       (pss_one (ps_ret pe_bl))
       pss_nil)
      (pss_cons (ps_set (i := 7) sc_law_told_right.nd rfl (Or.inl rfl) (C8.pe_c (c_passed T) hr (by decide) rfl (pa_cons (pv 1) (pa_cons (pv 3) (pa_cons (pv 4) pa_nil)))))
      (pss_cons (ps_if (pt_cmpR op_ne (pe_callB (call_repr hA (units100 hr)) (by rfl) T.b_repr (by decide +kernel) (pa_cons (pe_lst (pa_cons (pv 7) (pa_cons (pe_cK (ck_passed T) hr (by decide) rfl (pk_cons (pv 4) (pk_cons (pe_callTy call_tuple_of (by rfl) T.b_tuple (by decide +kernel) (pa_cons (pv 3) pa_nil)) (pk_cons (pv 1) pk_nil)))) pa_nil))) pa_nil)) (pe_callB (call_repr hA (units100 hr)) (by rfl) T.b_repr (by decide +kernel) (pa_cons (pe_op op_rep (pe_lst (pa_cons (pv 5) pa_nil)) pe_int) pa_nil)) (nomark _))
       (pss_one (ps_ret pe_bl))
       pss_nil)
      (pss_cons (ps_for PassesOwn.never rfl (pi_list (pv 7)) (pg_name (i := 8) sc_law_told_right.nd rfl (Or.inl rfl))
       (pss_one (ps_expr (pe_bm PySem.F.plainAttrs_list PySem.F.slot_list_append PySem.F.type_list_append mt_append (pv 8) (pa_cons pe_non pa_nil)))))
      (pss_cons (ps_expr (pe_bm PySem.F.plainAttrs_list PySem.F.slot_list_append PySem.F.type_list_append mt_append (pv 7) (pa_cons pe_non pa_nil)))
      (pss_cons (ps_expr (pe_bm PySem.F.plainAttrs_list PySem.F.slot_list_append PySem.F.type_list_append mt_append (C8.pe_c (c_rounds T) hr (by decide) rfl (pa_cons (pv 1) (pa_cons (pv 3) (pa_cons (pv 4) pa_nil)))) (pa_cons pe_non pa_nil)))
      (pss_cons (ps_if (pt_cmpR op_ne (pe_callB (call_repr hA (units100 hr)) (by rfl) T.b_repr (by decide +kernel) (pa_cons (pe_lst (pa_cons (C8.pe_c (c_passed T) hr (by decide) rfl (pa_cons (pv 1) (pa_cons (pv 3) (pa_cons (pv 4) pa_nil)))) (pa_cons (C8.pe_c (c_rounds T) hr (by decide) rfl (pa_cons (pv 1) (pa_cons (pv 3) (pa_cons (pv 4) pa_nil)))) pa_nil))) pa_nil)) (pe_callB (call_repr hA (units100 hr)) (by rfl) T.b_repr (by decide +kernel) (pa_cons (pe_lst (pa_cons (pv 5) (pa_cons (pe_ix ix_list (pv 5) (pe_un un_neg pe_int) (fun _ _ => rfl)) pa_nil))) pa_nil)) (nomark _))
       (pss_one (ps_ret pe_bl))
       pss_nil)
      (pss_cons (ps_set (i := 9) sc_law_told_right.nd rfl (Or.inl rfl) (C8.pe_c (c_law_draw T) hr (by decide) rfl (pa_cons (pv 0) (pa_cons (pe_op op_add (pv 4) pe_int) pa_nil))))
      (pss_cons (ps_if (PW.pt (pw_or (pt_cmpR (op_neD hr.units) (C8.pe_c (c_rounds T) hr (by decide) rfl (pa_cons (pv 1) (pa_cons (C8.pe_c (c_rounds T) hr (by decide) rfl (pa_cons (pv 1) (pa_cons (pv 3) (pa_cons (pv 9) pa_nil)))) (pa_cons (pe_op op_sub (pv 4) (pv 9)) pa_nil)))) (pe_ix ix_list (pv 5) (pe_un un_neg pe_int) (fun _ _ => rfl)) (nomark _)) (pw_or1 (pt_cmpR (op_neD hr.units) (C8.pe_c (c_rounds T) hr (by decide) rfl (pa_cons (pv 1) (pa_cons (pv 3) (pa_cons pe_int pa_nil)))) (pv 3) (nomark _)))))
       (pss_one (ps_ret pe_bl))
       pss_nil)
      (pss_cons (ps_if (PW.pt (pw_and (pt_val (pe_prop (pv 1) T.cl qP qF (hr.mono (by decide)) qB .nil pass0 rfl)) (pw_and1 (pt_not (pt_val (pe_callB (cr_all rfl) (by rfl) T.b_all (by decide +kernel) (pa_cons (pe_lc (own := [("_law_number", 10)]) (g := (gName 10)) (tt := tYes) rfl sc_law_told_right.nd (pi_list (pe_callB (cr_sumL rfl) (by rfl) T.b_sum (by decide +kernel) (pa_cons (pv 5) (pa_cons (pe_lst pa_nil) pa_nil)))) (blkOk_by (N := N_law_told_right) (sc := C8.fnScope s_law_told_right) (by decide +kernel)) (fun _ _ _ _ _ => (pg_name (i := 10) sc_law_told_right.nd rfl (Or.inl rfl))) (fun _ _ _ _ _ => pts_nil) (fun _ _ _ _ _ => (pe_cmpR (r := rIn K false) op_in_seq (pv 10) (pv 3) (by rfl)))) pa_nil)))))))
       (pss_one (ps_ret pe_bl))
       pss_nil)
      (pss_one (ps_ret (pe_cmpR op_eq (pe_callB (call_reprL dnet_ext (fun a => tells_net T a) hA (hr.mono (by decide))) (by rfl) T.b_repr (by decide +kernel) (pa_cons (pe_lst (pa_cons (pv 1) (pa_cons (pv 3) pa_nil))) pa_nil)) (pv 6) (nomark _)))))))))))))))), ?_⟩
    have ho : ∀ g ∈ gs, g.ok ns.length := by rw [hn]; exact N.ok
    have few : gs.length ≤ 400 := by omega
    have small : ∀ {j : Nat}, j ≤ 1000 → ∀ x ∈ rnds gs j ns, x.natAbs < 10 ^ 40 := fun hj => rnds_small ho hm hz few hj
    refine ⟨_, rfl, H0, a, 41, rfl, W, by decide, by decide, fun H1 d W1 d0 d1 => ?_⟩
    obtain ⟨m, rfl⟩ : ∃ m : Nat, d = m := ⟨d.toNat, by omega⟩
    have hm40 : m ≤ 40 := by omega
    have tail : tame (rowsPy (roundsOf gs ns m)) = true ∧ wt (rowsPy (roundsOf gs ns m)) ≤ 25000 := by
      have q := rows_tame (rows := roundsOf gs ns m) (fun r hr' => by
        obtain ⟨j, hj, e⟩ := List.mem_map.mp hr'
        subst e
        have := List.mem_range.mp hj
        have := N.high
        exact ⟨by rw [rnds_length]; omega, small (by omega)⟩)
      refine ⟨q.1, ?_⟩
      show wtAll ((roundsOf gs ns m).map rowPy) + 2 ≤ 25000
      have l : (roundsOf gs ns m).length = m + 1 := by unfold roundsOf; rw [List.length_map, List.length_range]
      have := q.2
      rw [l] at this
      omega
    have rowt : tame (rowPy (rnds gs m ns)) = true ∧ wt (rowPy (rnds gs m ns)) ≤ 600 := by
      have q := row_tame (small (show m ≤ 1000 by omega))
      refine ⟨q.1, ?_⟩
      show wtAll ((rnds gs m ns).map PyData.int) + 2 ≤ 600
      have := N.high
      rw [q.2, rnds_length]
      omega
    -- what is due, and how the two are told
    refine ⟨_, rfl, _, rfl, _, rfl, l, c, gs, ns, m, rfl, hG.to W1.same, W1.same.seq hc, ho, few, by omega, fun H2 r s2 R2 => ?_⟩
    have W2 := W1.pure s2
    refine ⟨_, rfl, _, rfl, by show 2 ≤ sizeLine; decide, fun b1 hb1 => ?_⟩
    have W3 := W2.new (o := .lst [V.ref p, V.ref c]) hb1
    obtain ⟨dx, lp, xs, hp, hlp, hAp⟩ := id N.at_
    have tellNet : ∀ {H' : Hp}, Wd a H0 H' → All2 (fun x t => DNet K C x t H') [V.ref p, V.ref c] [netText n gs, (rowPy ns).shown] := fun {H'} W' => by
      obtain ⟨e1, e2⟩ := net_len N.high N.ok hm few
      obtain ⟨e3, e4⟩ := row_told (fun x hx => Nat.lt_of_le_of_lt (hz x hx) (by decide +kernel)) (by have := N.high; omega : ns.length ≤ 12)
      obtain ⟨e5, e6, e7⟩ := told e4
      refine ⟨rfl, fun i x t h1 h2 => ?_⟩
      match i, h1, h2 with
      | 0, h1, h2 =>
        cases h1
        cases h2
        exact .inl ⟨p, dx, _, rfl, W'.same _ _ hp, n, gs, N.to W'.same, e1, Nat.le_trans e2 (by decide), rfl⟩
      | 1, h1, h2 =>
        cases h1
        cases h2
        exact .inr ⟨_, ints_dp (W'.same.seq hc), e6, e7, Nat.le_trans (row_depth ns) (by decide), Nat.le_trans e3 (by decide), rfl⟩
      | i + 2, h1, _ => cases h1
    have tellLen : (listText [netText n gs, (rowPy ns).shown]).length ≤ sizeLine := by
      have q := listText_le [netText n gs, (rowPy ns).shown]
      have e1 := (net_len N.high N.ok hm few).2
      have e3 := (row_told (fun x hx => Nat.lt_of_le_of_lt (hz x hx) (by decide +kernel)) (by have := N.high; omega : ns.length ≤ 12)).1
      rw [piled_cons, piled_cons, piled_nil] at q
      have : (sizeLine : Nat) = 16777216 := by decide +kernel
      omega
    have odd : ∀ {H' : Hp} {b' : Addr}, Wd a H0 H' → H' b' = some (.lst [V.ref p, V.ref c]) → Odd H' b' := fun {H' b'} W' h => ⟨p, C, dx, _, _, h, List.mem_cons_self, W'.same _ _ hp⟩
    refine ⟨b1, _, _, rfl, upd_same, by simp, odd W3 upd_same, tellNet W3, tellLen, fun H4 s4 => ?_⟩
    have W4 := W3.pure s4
    have S4 : Same H2 H4 := (Same.new hb1).trans s4
    refine ⟨_, _, rfl, ?_⟩
    have low := N.low
    have high := N.high
    have ctL : ∀ {H' : Hp}, Wd a H0 H' → Ct K H' c ns := fun W' => ⟨.inl (W'.same.seq hc), by omega, by omega⟩
    have X2 := pair_told rowt.1 rowt.1 (by have := rowt.2; omega) (Nat.le_trans (row_depth (rnds gs m ns)) (by decide)) (Nat.le_trans (row_depth (rnds gs m ns)) (by decide))
    obtain ⟨r0, ys, hr2, hA2⟩ := id R2
    obtain ⟨vl, el, bl, evl, _, hbl⟩ := rounds_last hA2
    subst evl
    -- rounds, by places and by names
    refine ⟨_, rfl, _, rfl, _, rfl, p, c, n, gs, ns, m, rfl, N.to W4.same, ctL W4, hn, by omega, fun H5 q5 s5 q50 q51 => ?_⟩
    have W5 := W4.pure s5
    refine ⟨_, rfl, _, rfl, c, _, rfl, .inl ⟨W5.same.seq hc, fun t5 ht5 => ?_⟩⟩
    have W6 := W5.new (o := .tup (ns.map V.int)) ht5
    refine ⟨_, rfl, p, t5, n, gs, ns, m, rfl, N.to W6.same, ⟨.inr (SqT.of upd_same), by omega, by omega⟩, hn, by omega, fun H7 q7 s7 q70 q71 => ?_⟩
    have W7 := W6.pure s7
    have S57 : Same H5 H7 := (Same.new ht5).trans s7
    refine ⟨by show 2 ≤ sizeLine; decide, fun b8 hb8 => ?_⟩
    have n8 : Same H7 (upd H7 b8 (.lst [.ref q5, .ref q7])) := Same.new hb8
    have W8 := W7.pure n8
    refine ⟨b8, .list [rowPy (rnds gs m ns), rowPy (rnds gs m ns)], rfl, .lst (SqL.of upd_same) (.cons (ints_dp (SqL.of ((S57.trans n8) _ _ q51))) (.cons (ints_dp (SqL.of (n8 _ _ q71))) .nil)), X2.1, X2.2.1, X2.2.2.1, X2.2.2.2, ?_⟩
    have S28 := ((S4.trans s5).trans S57).trans n8
    refine ⟨_, rfl, _, rfl, r, ys, _, _, rfl, rfl, SqL.of (S28 _ _ hr2), el, ?_⟩
    refine ⟨by show 1 ≤ sizeLine; decide, fun b9 hb9 => ?_⟩
    have W9 := W8.new (o := .lst [V.ref bl]) hb9
    refine ⟨b9, 2, _, rfl, rfl, upd_same, by decide, by decide, by show 2 ≤ sizeLine; decide, fun b10 hb10 => ?_⟩
    have W10 := W9.new (o := .lst (List.replicate (2 : Int).toNat [V.ref bl]).flatten) hb10
    have S10 := (S28.trans (Same.new (o := .lst [V.ref bl]) hb9)).trans (Same.new (o := .lst (List.replicate (2 : Int).toNat [V.ref bl]).flatten) hb10)
    refine ⟨b10, .list [rowPy (rnds gs m ns), rowPy (rnds gs m ns)], rfl, .lst (SqL.of upd_same) (.cons (ints_dp (SqL.of (S10 _ _ hbl))) (.cons (ints_dp (SqL.of (S10 _ _ hbl))) .nil)), X2.1, X2.2.1, X2.2.2.1, X2.2.2.2, ?_⟩
    refine ⟨rfl, _, rfl, itF (by simp) ?_⟩
    generalize upd (upd (upd H7 b8 (.lst [.ref q5, .ref q7])) b9 (.lst [V.ref bl])) b10 (.lst (List.replicate (2 : Int).toNat [V.ref bl]).flatten) = H10 at W10 S10
    -- the rows, by places and by names
    refine ⟨_, rfl, _, rfl, _, rfl, p, c, n, gs, ns, m, rfl, N.to W10.same, ctL W10, hn, by omega, fun H11 r11 s11 R11 => ?_⟩
    have W11 := W10.pure s11
    obtain ⟨r110, zs, hr11, hA11⟩ := id R11
    have X4 := pair_told tail.1 tail.1 (by have := tail.2; omega) (Nat.le_trans (rows_depth (roundsOf gs ns m)) (by decide)) (Nat.le_trans (rows_depth (roundsOf gs ns m)) (by decide))
    refine ⟨_, rfl, _, rfl, _, rfl, c, _, rfl, .inl ⟨W11.same.seq hc, fun t12 ht12 => ?_⟩⟩
    have W12 := W11.new (o := .tup (ns.map V.int)) ht12
    refine ⟨_, rfl, p, t12, n, gs, ns, m, rfl, N.to W12.same, ⟨.inr (SqT.of upd_same), by omega, by omega⟩, hn, by omega, fun H13 r13 s13 R13 => ?_⟩
    have S13 : Same H11 H13 := (Same.new ht12).trans s13
    refine ⟨by show 2 ≤ sizeLine; decide, fun b14 hb14 => ?_⟩
    have n14 : Same H13 (upd H13 b14 (.lst [.ref r11, .ref r13])) := Same.new hb14
    refine ⟨b14, .list [rowsPy (roundsOf gs ns m), rowsPy (roundsOf gs ns m)], rfl, .lst (SqL.of upd_same) (.cons (rws_dp (R11.rws.to (S13.trans n14))) (.cons (rws_dp (R13.rws.to n14)) .nil)), X4.1, X4.2.1, X4.2.2.1, X4.2.2.2, ?_⟩
    refine ⟨_, rfl, by show 1 ≤ sizeLine; decide, fun b15 hb15 => ?_⟩
    refine ⟨b15, 2, _, rfl, rfl, upd_same, by decide, by decide, by show 2 ≤ sizeLine; decide, fun b16 hb16 => ?_⟩
    have S16 : Same H11 _ := ((S13.trans n14).trans (Same.new (o := .lst [V.ref r]) hb15)).trans (Same.new (o := .lst (List.replicate (2 : Int).toNat [V.ref r]).flatten) hb16)
    refine ⟨b16, .list [rowsPy (roundsOf gs ns m), rowsPy (roundsOf gs ns m)], rfl, .lst (SqL.of upd_same) (.cons (rws_dp (R2.rws.to ((S10.trans s11).trans S16))) (.cons (rws_dp (R2.rws.to ((S10.trans s11).trans S16))) .nil)), X4.1, X4.2.1, X4.2.2.1, X4.2.2.2, ?_⟩
    refine ⟨rfl, _, rfl, itF (by simp) ?_⟩
    generalize upd (upd (upd H13 b14 (.lst [.ref r11, .ref r13])) b15 (.lst [V.ref r])) b16 (.lst (List.replicate (2 : Int).toNat [V.ref r]).flatten) = H16 at S16
    -- what is told may be changed
    have pot10 := W10.pot
    have U := W10.under
    have G16 : Wd a (del H10 a) H16 := (Wd.all pot10).pure (s11.trans S16)
    have n11 : r11 ≠ a := W10.ne r110
    have NG := N.to U
    have cG := U.seq hc
    obtain ⟨ys', gr, gA⟩ := rows_off R2 S10 W1.pot.choose_spec.choose_spec.1
    have back : ∀ {H' : Hp}, Wd a (del H10 a) H' → Wd a H0 H' := fun w => w.back U
    have g11 : del H10 a r11 = none := del_none r110
    have all11 := new_ne R11 hr11 (fun x hx => by
      obtain ⟨j, _, e⟩ := List.mem_map.mp hx
      subst e
      intro z
      have q := rnds_length gs ns j
      rw [z] at q
      simp at q
      omega)
    have rowsN : ∀ x ∈ roundsOf gs ns m, x.length ≤ 12 := fun x hx => by
      obtain ⟨j, _, e⟩ := List.mem_map.mp hx
      subst e
      rw [rnds_length]
      omega
    have zl : zs.length ≤ 41 := by
      rw [hA11.1]
      unfold roundsOf
      rw [List.length_map, List.length_range]
      omega
    have gOff : ∀ b, H10 b = none → del H10 a b = none := fun b h => del_none h
    generalize del H10 a = G at G16 NG cG gr gA back g11 gOff
    refine ⟨_, rfl, r11, rfl, ⟨_, SqL.of (S16 _ _ hr11)⟩, ?_⟩
    refine for_it walk_list (fun i σ H' => Wd a G H' ∧ H' r11 = some (.lst zs) ∧ (∀ v ∈ zs, ∃ b us, v = V.ref b ∧ b ≠ r11 ∧ b ≠ a ∧ G b = none ∧ H' b = some (.lst us) ∧ us.length ≤ 12 + i) ∧ ∃ v8, σ = [some (.ref a), some (.ref p), some (.ref l), some (.ref c), some (.int m), some (.ref r), some (.str (listText [netText n gs, (rowPy ns).shown])), some (.ref r11), v8, none, none])
      ⟨G16, S16 _ _ hr11, fun v hv => ?_, none, rfl⟩ (fun i σ H' _ z => SqL.of z.2.1) (fun i x σ H17 H18 hi z y => ?_) (fun σ H17 z => ?_)
    · obtain ⟨b, us, e, nb, b0, b1, hm'⟩ := all11 v hv
      exact ⟨b, _, e, nb, W10.ne b0, gOff b b0, S16 _ _ b1, by rw [List.length_map]; have := rowsN us hm'; omega⟩
    · obtain ⟨w17, h11, hall, v8, rfl⟩ := z
      obtain ⟨rfl, hx⟩ := y
      obtain ⟨b, us, rfl, nb, na, g0, hb, hl⟩ := hall x (List.mem_of_getElem? hx)
      refine ⟨_, rfl, .inl ⟨rfl, _, SqL.of hb⟩, b, us, _, rfl, rfl, hb, size100 (by omega), w17.mut g0 na, by rw [upd_ne nb.symm]; exact h11, fun v hv => ?_, _, rfl⟩
      obtain ⟨b', us', e, nb', na', g0', hb', hl'⟩ := hall v hv
      by_cases e2 : b' = b
      · subst e2
        rw [hb] at hb'
        obtain rfl : us = us' := by
          injection hb' with hb'
          injection hb'
        exact ⟨b', _, e, nb', na', g0', upd_same, by rw [List.length_append]; show us.length + 1 ≤ _; omega⟩
      · exact ⟨b', us', e, nb', na', g0', by rw [upd_ne e2]; exact hb', by omega⟩
    obtain ⟨w17, h11, _, v8, rfl⟩ := z
    refine ⟨_, rfl, .inl ⟨rfl, _, SqL.of h11⟩, r11, zs, _, rfl, rfl, h11, size100 (by omega), ?_⟩
    have w18 := w17.mut (o := .lst (zs ++ [V.non])) g11 n11
    refine ⟨_, rfl, _, rfl, _, rfl, p, c, n, gs, ns, m, rfl, NG.to w18.same, ⟨.inl (w18.same.seq cG), by omega, by omega⟩, hn, by omega, fun H19 q19 s19 q190 q191 => ⟨.inl ⟨rfl, _, SqL.of q191⟩, q19, _, _, rfl, rfl, q191, size100 (by rw [List.length_map, rnds_length]; omega), ?_⟩⟩
    have w20 := (w18.pure s19).mut (b := q19) (o := .lst ((rnds gs m ns).map V.int ++ [V.non])) (w18.fresh q190) (w18.ne q190)
    -- asked again
    have ctG : ∀ {H' : Hp}, Wd a G H' → Ct K H' c ns := fun w => ⟨.inl (w.same.seq cG), by omega, by omega⟩
    refine ⟨_, rfl, _, rfl, _, rfl, p, c, n, gs, ns, m, rfl, NG.to w20.same, ctG w20, hn, by omega, fun H21 r21 s21 R21 => ?_⟩
    have w21 := w20.pure s21
    refine ⟨_, rfl, _, rfl, _, rfl, p, c, n, gs, ns, m, rfl, NG.to w21.same, ctG w21, hn, by omega, fun H22 q22 s22 q220 q221 => ?_⟩
    have w22 := w21.pure s22
    refine ⟨by show 2 ≤ sizeLine; decide, fun b23 hb23 => ?_⟩
    have n23 : Same H22 (upd H22 b23 (.lst [.ref r21, .ref q22])) := Same.new hb23
    have w23 := w22.pure n23
    have X6 := pair_told tail.1 rowt.1 (by have := tail.2; have := rowt.2; omega) (Nat.le_trans (rows_depth (roundsOf gs ns m)) (by decide)) (Nat.le_trans (row_depth (rnds gs m ns)) (by decide))
    refine ⟨b23, .list [rowsPy (roundsOf gs ns m), rowPy (rnds gs m ns)], rfl, .lst (SqL.of upd_same) (.cons (rws_dp (R21.rws.to (s22.trans n23))) (.cons (ints_dp (SqL.of (n23 _ _ q221))) .nil)), X6.1, X6.2.1, X6.2.2.1, X6.2.2.2, ?_⟩
    obtain ⟨vl', el', bl', evl', hbl'⟩ := rounds_last gA
    subst evl'
    have dueG : ∀ {H' : Hp}, Wd a G H' → Rws K H' r (roundsOf gs ns m) := fun w => ⟨ys', SqL.of (w.same _ _ gr), gA.mono fun v x ⟨b, e, h⟩ => ⟨b, e, SqL.of (w.same _ _ h)⟩⟩
    refine ⟨_, rfl, _, rfl, _, rfl, r, ys', _, _, rfl, rfl, SqL.of (w23.same _ _ gr), el', ?_⟩
    refine ⟨by show 2 ≤ sizeLine; decide, fun b24 hb24 => ?_⟩
    have w24 := w23.new (o := .lst [V.ref r, V.ref bl']) hb24
    refine ⟨b24, .list [rowsPy (roundsOf gs ns m), rowPy (rnds gs m ns)], rfl, .lst (SqL.of upd_same) (.cons (rws_dp (dueG w24)) (.cons (ints_dp (SqL.of (w24.same _ _ hbl'))) .nil)), X6.1, X6.2.1, X6.2.2.1, X6.2.2.2, ?_⟩
    refine ⟨rfl, _, rfl, itF (by simp) ?_⟩
    generalize upd (upd H22 b23 (.lst [.ref r21, .ref q22])) b24 (.lst [V.ref r, V.ref bl']) = H24 at w24
    -- rounds behind rounds
    refine ⟨_, rfl, _, rfl, _, _, rfl, rfl, G, a, (m : Int) + 1, rfl, w24, by omega, by omega, fun H25 d w25 d2 d3 => ?_⟩
    obtain ⟨j, rfl⟩ : ∃ j : Nat, d = j := ⟨d.toNat, by omega⟩
    have hj : j ≤ m := by omega
    refine ⟨_, rfl, _, rfl, _, rfl, _, rfl, p, c, n, gs, ns, j, rfl, NG.to w25.same, ctG w25, hn, by omega, fun H26 q26 s26 q260 q261 => ?_⟩
    have w26 := w25.pure s26
    refine ⟨_, rfl, _, rfl, _, _, rfl, rfl, p, q26, n, gs, rnds gs j ns, m - j, by rw [Int.natCast_sub hj]; rfl, NG.to w26.same, ⟨.inl (SqL.of q261), by rw [rnds_length]; omega, by rw [rnds_length]; omega⟩, by rw [rnds_length]; exact hn, by omega, fun H27 q27 s27 q270 q271 => ?_⟩
    have w27 := w26.pure s27
    have eqR : rnds gs (m - j) (rnds gs j ns) = rnds gs m ns := by
      rw [← rnds_add]
      congr 1
      omega
    refine ⟨_, rfl, _, rfl, r, ys', _, _, rfl, rfl, SqL.of (w27.same _ _ gr), el', ?_⟩
    refine ⟨_, _, ints_dp (SqL.of q271), ints_dp (SqL.of (w27.same _ _ hbl')), row_shaped _, row_shaped _, _, rfl, itF (by rw [row_same eqR]; rfl) ?_⟩
    refine ⟨_, rfl, _, rfl, p, c, n, gs, ns, 0, rfl, NG.to w27.same, ctG w27, hn, by omega, fun H28 q28 s28 q280 q281 => ?_⟩
    have w28 := w27.pure s28
    refine ⟨_, rfl, _, _, ints_dp (SqL.of q281), ints_dp (w28.same.seq cG), row_shaped _, row_shaped _, _, rfl, itF (by rw [row_same (show rnds gs 0 ns = ns from rfl)]; rfl) ?_⟩
    -- the end
    have fin : ∀ H', Wd a G H' → ∀ (b : Addr), H' b = none → ∀ H'', Same (upd H' b (.lst [V.ref p, V.ref c])) H'' → Wd a G H'' := fun H' w b hb H'' s => (w.new hb).pure s
    obtain ⟨dxG, lG, xsG, hpG, _⟩ := id NG.at_
    refine ⟨_, rfl, p, dxG, _, rfl, w28.same _ _ hpG, p, n, gs, rfl, NG.to w28.same, fun H29 s29 => ⟨_, rfl, ?_⟩⟩
    have w29 := w28.pure s29
    refine ite2 (fun hpl => ?_) (fun hpl => ?_)
    · have hpl' : plainL gs = true := hpl
      refine ⟨_, rfl, by show 0 ≤ sizeLine; decide, fun be hbe => ?_⟩
      have w30 := w29.new (o := .lst []) hbe
      have few2 : ((roundsOf gs ns m).map (fun x : List Int => x.map V.int)).flatten.length ≤ 1000 := by
        rw [List.length_flatten, List.map_map]
        have : ((roundsOf gs ns m).map (List.length ∘ fun x : List Int => x.map V.int)) = List.replicate (m + 1) n := by
          apply List.ext_getElem?
          intro i
          unfold roundsOf
          rw [List.map_map, List.getElem?_map, List.getElem?_replicate]
          by_cases hi : i < m + 1
          · rw [List.getElem?_range hi, if_pos hi]
            show some (((rnds gs i ns).map V.int).length) = some n
            rw [List.length_map, rnds_length, hn]
          · rw [List.getElem?_eq_none (by rw [List.length_range]; omega), if_neg hi]
            rfl
        rw [this, List.sum_replicate_nat]
        have : (m + 1) * n ≤ 41 * 12 := Nat.mul_le_mul (by omega) high
        omega
      refine ⟨r, be, ys', (roundsOf gs ns m).map (fun x : List Int => x.map V.int), rfl, w30.same _ _ gr, upd_same, fun z => ?_, ⟨by rw [List.length_map]; exact gA.1, fun i v x h1 h2 => ?_⟩, Nat.le_trans few2 (by decide), fun ps hps => ?_⟩
      · have q := gA.1
        rw [z] at q
        unfold roundsOf at q
        simp at q
      · obtain ⟨x', h3, b, e, hb⟩ := gA.get h1
        rw [List.getElem?_map, h3] at h2
        cases h2
        exact ⟨b, e, w30.same _ _ hb⟩
      have w31 := w30.new (o := .lst ((roundsOf gs ns m).map (fun x : List Int => x.map V.int)).flatten) hps
      have flat : ((roundsOf gs ns m).map (fun x : List Int => x.map V.int)).flatten = (roundsOf gs ns m).flatten.map V.int := List.map_flatten.symm
      refine ⟨ps, rfl, ⟨_, SqL.of upd_same⟩, fun D hD => lc_pure (walk_list (xs := ((roundsOf gs ns m).map (fun x : List Int => x.map V.int)).flatten)) ((List.replicate ((roundsOf gs ns m).map (fun x : List Int => x.map V.int)).flatten.length true).map V.bl) (by simp) hD (by omega) (fun H' s => s.seq (SqL.of upd_same)) (fun i x H H' Q' hi s y q => ?_) (fun H' s hd => ?_)⟩
      · obtain ⟨rfl, hx⟩ := y
        rw [flat] at hx
        obtain ⟨x, rfl, hx2⟩ := get_int hx
        have hm2 := List.mem_of_getElem? hx2
        obtain ⟨row, hr1, hr2⟩ := List.mem_flatten.mp hm2
        obtain ⟨i', _, e⟩ := List.mem_map.mp hr1
        subst e
        have hin : x ∈ ns := rnds_plain (S := fun x => x ∈ ns) ho hpl' (fun _ z => z) i' x hr2
        refine ⟨rfl, _, rfl, _, rfl, c, ns.map V.int, rfl, .inl ((w31.pure s).same.seq cG), rfl, ?_, ?_⟩
        · rw [List.all_map]
          exact List.all_eq_true.mpr fun _ _ => rfl
        · refine q_bl (inV_mem hin) (q _ _ ?_ (Same.refl _))
          rw [List.getElem?_map, List.getElem?_replicate, if_pos hi]
          rfl
      · refine ⟨D, _, rfl, SqL.of hd, _, rfl, itF (by simp) ?_⟩
        have w32 := w31.pure s
        refine ⟨_, rfl, _, rfl, by show 2 ≤ sizeLine; decide, fun b33 hb33 => ?_⟩
        have w33 := w32.new (o := .lst [V.ref p, V.ref c]) hb33
        refine ⟨b33, _, _, rfl, upd_same, by simp, odd (back w33) upd_same, tellNet (back w33), tellLen, fun H34 s34 => ⟨_, rfl, rfl, ?_⟩⟩
        exact q_bl (decide_eq_true rfl) (k _ (back (w33.pure s34)))
    · refine ⟨_, rfl, _, rfl, by show 2 ≤ sizeLine; decide, fun b33 hb33 => ?_⟩
      have w33 := w29.new (o := .lst [V.ref p, V.ref c]) hb33
      refine ⟨b33, _, _, rfl, upd_same, by simp, odd (back w33) upd_same, tellNet (back w33), tellLen, fun H34 s34 => ⟨_, rfl, rfl, ?_⟩⟩
      exact q_bl (decide_eq_true rfl) (k _ (back (w33.pure s34)))
end
end LL

namespace LL
open PySem L2 PySem.Spec PyProof.Rows
section
variable {P : Program} {w : World} {K : PySem.W.Frag} {mg : Str → Option Value} {base : Heap} {C : Addr}
def sp_law_made_right (K : PySem.W.Frag) (C : Addr) : Sp := fun vs H Q _ => ∃ (H0 : Hp) (a p l c : Addr) (n : Nat) (gs : List Gt) (ns : List Int), vs = [V.ref a, V.ref p, V.ref l, V.ref c] ∧ Wd a H0 H ∧ NetAt K C H0 p n gs ∧ Gs K H0 l gs ∧ SqL K H0 c (ns.map V.int) ∧ ns.length = n ∧ gs.length ≤ 10 ∧ ∀ H', Wd a H0 H' → Q (.bl true) H'
theorem c_law_made_right (T : Txt K mg C) : C8.Cal P w K mg base 10 "_law_made_right" (sp_law_made_right K C) [] := by
  refine T.d_law_made_right.cal sc_law_made_right (fun vs H Q E h => ?_) (fun f cdv A outer s H vs Q E hr h => ?_)
  · obtain ⟨H0, a, p, l, c, n, gs, ns, rfl, _⟩ := h
    rfl
  · obtain ⟨H0, a, p, l, c, n, gs, ns, rfl, W, N, hG, hc, hn, hf, k⟩ := h
    obtain ⟨fc, cO, cF⟩ := c_call (P := P) (w := w) (base := base) T
    obtain ⟨fa, fda, aF, aS, aI, aB⟩ := c_add (P := P) (w := w) (base := base) T
    obtain ⟨fm, fdm, mF, mS, mI, mB⟩ := c_mul (P := P) (w := w) (base := base) T
    obtain ⟨fo, mH1⟩ := T.o_int1
    obtain ⟨ro, mH2⟩ := T.o_int2
    refine ⟨_, (pss_cons (ps_par (i := 4) (j := 5) (by rfl) sc_law_made_right.nd rfl rfl (by decide) rfl rfl (pa_cons (C8.pe_c (c_law_draw T) hr (by decide) rfl (pa_cons (pv 0) (pa_cons pe_int pa_nil))) (pa_cons (C8.pe_c (c_law_draw T) hr (by decide) rfl (pa_cons (pv 0) (pa_cons (pe_op op_add (pe_callB call_len_seq (by rfl) T.b_len (by decide +kernel) (pa_cons (pv 2) pa_nil)) pe_int) pa_nil))) pa_nil)) (by rfl))
      (pss_cons (ps_if (pt_cmpR (op_neD hr.units) (StX.pe_callO (pe_op (op_ownI mF (hr.mono (by decide)) T.o_first mS mI mB T.o_rmul mH1 mH2 T.o_sub) (pv 1) (pv 4)) cO cF (hr.mono (by decide)) pass0 (pa_cons (pv 3) pa_nil)) (C8.pe_c (c_rounds T) hr (by decide) rfl (pa_cons (pv 1) (pa_cons (pv 3) (pa_cons (pv 4) pa_nil)))) (nomark _))
       (pss_one (ps_ret pe_bl))
       pss_nil)
      (pss_cons (ps_if (pt_cmpR (op_neD hr.units) (C8.pe_c (c_rounds T) hr (by decide) rfl (pa_cons (pe_op (op_ownI mF (hr.mono (by decide)) T.o_first mS mI mB T.o_rmul mH1 mH2 T.o_sub) (pv 1) pe_int) (pa_cons (pv 3) (pa_cons (pv 4) pa_nil)))) (C8.pe_c (c_rounds T) hr (by decide) rfl (pa_cons (pv 1) (pa_cons (pv 3) (pa_cons (pe_op op_mul pe_int (pv 4)) pa_nil)))) (nomark _))
       (pss_one (ps_ret pe_bl))
       pss_nil)
      (pss_cons (ps_asg (C8.pe_mt (m_cut T) hr (by decide) (pv 1) (pa_cons (pv 5) pa_nil)) (pg_tup (n := 2) rfl (pgs_cons (pg_name (i := 6) sc_law_made_right.nd rfl (Or.inl rfl)) (pgs_cons (pg_name (i := 7) sc_law_made_right.nd rfl (Or.inl rfl)) pgs_nil))))
      (pss_one (ps_ret (pe_cmpR (op_eqD hr.units) (C8.pe_c (c_rounds T) hr (by decide) rfl (pa_cons (pe_op (op_own2 aF (hr.mono (by decide)) T.o_first aS aI aB) (pv 7) (pv 6)) (pa_cons (StX.pe_callO (pv 6) cO cF (hr.mono (by decide)) pass0 (pa_cons (pv 3) pa_nil)) (pa_cons (pv 4) pa_nil)))) (StX.pe_callO (pv 6) cO cF (hr.mono (by decide)) pass0 (pa_cons (C8.pe_c (c_rounds T) hr (by decide) rfl (pa_cons (pv 1) (pa_cons (pv 3) (pa_cons (pv 4) pa_nil)))) pa_nil)) (nomark _)))))))), ?_⟩
    have low := N.low
    have high := N.high
    have ctL : ∀ {H' : Hp}, Wd a H0 H' → Ct K H' c ns := fun W' => ⟨.inl (W'.same.seq hc), by omega, by omega⟩
    obtain ⟨dx, lp, hp, _⟩ := id N.old
    obtain ⟨xs, hS, hA⟩ := id hG
    have hxl := hA.1
    refine ⟨_, rfl, H0, a, 6, rfl, W, by decide, by decide, fun H1 d W1 d0 d1 => ?_⟩
    obtain ⟨m, rfl⟩ : ∃ m : Nat, d = m := ⟨d.toNat, by omega⟩
    refine ⟨_, rfl, _, rfl, l, xs, rfl, .inl (W1.same.seq hS), _, _, rfl, rfl, H0, a, (xs.length : Int) + 1, rfl, W1, by omega, by omega, fun H2 d W2 d2 d3 => ?_⟩
    obtain ⟨j, rfl⟩ : ∃ j : Nat, d = j := ⟨d.toNat, by omega⟩
    have hj : j ≤ gs.length := by omega
    refine ⟨_, _, rfl, ?_⟩
    -- so many of it
    have m5 : m * gs.length ≤ 5 * 10 := Nat.mul_le_mul (by omega) hf
    refine ⟨_, rfl, _, rfl, p, m, dx, _, rfl, rfl, W2.same _ _ hp, p, n, m, gs, rfl, N.to W2.same, by omega, by omega, fun H3 x3 s3 N3 => ?_⟩
    have W3 := W2.pure s3
    obtain ⟨dx3, l3, hx3, _⟩ := id N3.old
    refine ⟨x3, rfl, _, rfl, .inr ⟨dx3, _, hx3⟩, x3, c, n, repG m gs, ns, rfl, N3, ctL W3, hn, fun H4 q4 s4 q40 q41 => ?_⟩
    have W4 := W3.pure s4
    refine ⟨_, rfl, _, rfl, _, rfl, p, c, n, gs, ns, m, rfl, N.to W4.same, ctL W4, hn, by omega, fun H5 q5 s5 q50 q51 => ?_⟩
    have W5 := W4.pure s5
    refine ⟨_, _, ints_dp (SqL.of (s5 _ _ q41)), ints_dp (SqL.of q51), row_shaped _, row_shaped _, _, rfl, itF (by rw [row_same (runs_rep gs m ns)]; rfl) ?_⟩
    -- three of it
    refine ⟨_, rfl, p, 3, dx, _, rfl, rfl, W5.same _ _ hp, p, n, 3, gs, rfl, N.to W5.same, by omega, by omega, fun H6 x6 s6 N6 => ?_⟩
    have W6 := W5.pure s6
    refine ⟨_, rfl, _, rfl, x6, c, n, repG 3 gs, ns, m, rfl, N6, ctL W6, hn, by omega, fun H7 q7 s7 q70 q71 => ?_⟩
    have W7 := W6.pure s7
    refine ⟨_, rfl, _, rfl, _, rfl, _, _, rfl, rfl, .inl ⟨by decide, by omega⟩, p, c, n, gs, ns, 3 * m, by rw [Int.natCast_mul]; rfl, N.to W7.same, ctL W7, hn, by omega, fun H8 q8 s8 q80 q81 => ?_⟩
    have W8 := W7.pure s8
    refine ⟨_, _, ints_dp (SqL.of (s8 _ _ q71)), ints_dp (SqL.of q81), row_shaped _, row_shaped _, _, rfl, itF (by rw [row_same (rnds_rep gs 3 ns m)]; rfl) ?_⟩
    -- cut
    refine ⟨_, rfl, p, dx, _, rfl, W8.same _ _ hp, rfl, _, rfl, p, n, j, gs, rfl, N.to W8.same, hj, fun H9 t x y s9 ht Nx Ny => ?_⟩
    have W9 := W8.pure s9
    refine ⟨t, _, rfl, SqT.of ht, rfl, _, _, rfl, _, _, rfl, rfl, ?_⟩
    obtain ⟨dxx, lx, hx, _⟩ := id Nx.old
    obtain ⟨dyy, ly, hy, _⟩ := id Ny.old
    refine ⟨_, rfl, _, rfl, y, x, dyy, dxx, _, _, rfl, rfl, hy, hx, y, x, n, gs.drop j, gs.take j, rfl, Ny, Nx, by rw [List.length_drop, List.length_take]; omega, fun H10 z s10 Nz => ?_⟩
    have W10 := W9.pure s10
    refine ⟨_, rfl, x, rfl, _, rfl, .inr ⟨dxx, _, s10 _ _ hx⟩, x, c, n, gs.take j, ns, rfl, Nx.to s10, ctL W10, hn, fun H11 q11 s11 q110 q111 => ?_⟩
    have W11 := W10.pure s11
    have lt : (runs (gs.take j) ns).length = n := by rw [runs_length, hn]
    refine ⟨_, rfl, z, q11, n, gs.drop j ++ gs.take j, runs (gs.take j) ns, m, rfl, Nz.to s11, ⟨.inl (SqL.of q111), by omega, by omega⟩, lt, by omega, fun H12 q12 s12 q120 q121 => ?_⟩
    have W12 := W11.pure s12
    refine ⟨_, rfl, x, rfl, _, rfl, _, rfl, _, rfl, p, c, n, gs, ns, m, rfl, N.to W12.same, ctL W12, hn, by omega, fun H13 q13 s13 q130 q131 => ?_⟩
    have W13 := W12.pure s13
    have t13 := ((s10.trans s11).trans s12).trans s13
    have lr : (rnds gs m ns).length = n := by rw [rnds_length, hn]
    refine ⟨.inr ⟨dxx, _, t13 _ _ hx⟩, x, q13, n, gs.take j, rnds gs m ns, rfl, Nx.to t13, ⟨.inl (SqL.of q131), by omega, by omega⟩, lr, fun H14 q14 s14 q140 q141 => ?_⟩
    have W14 := W13.pure s14
    have e := rnds_cut (gs.take j) (gs.drop j) ns m
    rw [List.take_append_drop] at e
    exact ⟨_, _, ints_dp (SqL.of ((s13.trans s14) _ _ q121)), ints_dp (SqL.of q141), row_shaped _, row_shaped _, q_bl (row_same e) (k _ W14)⟩
end
end LL

namespace LL
open PySem L2 PySem.Spec PyProof.Rows
theorem gs_pot {K : PySem.W.Frag} {H : Hp} {a l : Addr} {xs : List V} {gs : List Gt} (p : Pot H a) (hx : H l = some (.lst xs)) (hA : All2 (IsG K H) xs gs) : del H a l = some (.lst xs) ∧ All2 (IsG K (del H a)) xs gs := by
  obtain ⟨p0, p1, e, _⟩ := id p
  refine ⟨del_some hx fun z => ?_, hA.mono fun v g ⟨t, e', q⟩ => ⟨t, e', sqT_del q e⟩⟩
  rw [z, e] at hx
  injection hx with hx
  injection hx with hx
  obtain ⟨g, hg, t, e', _⟩ := hA.get (i := 0) (x := V.int p0) (by rw [← hx]; rfl)
  cases e'
theorem net_pot {K : PySem.W.Frag} {C : Addr} {H : Hp} {a x : Addr} {n : Nat} {gs : List Gt} (p : Pot H a) (h : NetAt K C H x n gs) : NetAt K C (del H a) x n gs := by
  obtain ⟨⟨dx, l, xs, h1, h2, h3⟩, b, c, d, e⟩ := h
  obtain ⟨q1, q2⟩ := gs_pot p h2 h3
  obtain ⟨p0, p1, ep, _⟩ := id p
  exact ⟨⟨dx, l, xs, del_some h1 (ne_of h1 ep (by intro z; cases z)), q1, q2⟩, b, c, d, e⟩
section
variable {P : Program} {w : World} {K : PySem.W.Frag} {mg : Str → Option Value} {base : Heap} {C : Addr}
def sp_law_long_right : Sp := fun vs H Q _ => ∃ (H0 : Hp) (a : Addr) (n : Nat), vs = [V.ref a, V.int n] ∧ Wd a H0 H ∧ 1 ≤ n ∧ n ≤ 12 ∧ ∀ H', Wd a H0 H' → Q (.bl true) H'
theorem c_law_long_right (T : Txt K mg C) : C8.Cal P w K mg base 9 "_law_long_right" sp_law_long_right [] := by
  refine T.d_law_long_right.cal sc_law_long_right (fun vs H Q E h => ?_) (fun f cdv A outer s H vs Q E hr h => ?_)
  · obtain ⟨H0, a, n, rfl, _⟩ := h
    rfl
  · obtain ⟨H0, a, n, rfl, W, h1, h2, k⟩ := h
    refine ⟨_, (pss_cons (ps_setLc (i := 2) (own := [("_law_turn", 7)]) (g := (gName 7)) (tt := tYes) rfl sc_law_long_right.nd rfl rfl (sw_true rfl rfl rfl (by decide +kernel)) (pi_range1 rfl T.b_range (pa_cons pe_int pa_nil)) (blkOk_by (N := N_law_long_right) (sc := C8.fnScope s_law_long_right) (by decide +kernel)) (fun _ _ _ _ _ => (pg_name (i := 7) sc_law_long_right.nd rfl (Or.inl rfl))) (fun _ _ _ _ _ => pts_nil) (fun _ _ _ _ _ => (C8.pe_c (c_law_gate T) hr (by decide) rfl (pa_cons (pv 0) (pa_cons (pv 1) pa_nil)))))
      (pss_cons (ps_par3 (i := 3) (j := 4) (l := 5) (by rfl) sc_law_long_right.nd rfl rfl rfl (by decide) (by decide) (by decide) rfl rfl rfl (pa_cons (C8.pe_mk (c_Net T) hr (by decide) rfl (pa_cons (pv 1) (pa_cons (pv 2) pa_nil))) (pa_cons (C8.pe_c (c_law_content T) hr (by decide) rfl (pa_cons (pv 0) (pa_cons (pv 1) pa_nil))) (pa_cons (C8.pe_c (c_law_pick T) hr (by decide) rfl (pa_cons (pv 0) (pa_cons (pe_lst (pa_cons pe_int (pa_cons pe_int (pa_cons pe_int pa_nil)))) pa_nil))) pa_nil))) (by rfl))
      (pss_cons (ps_set (i := 6) sc_law_long_right.nd rfl (Or.inl rfl) (C8.pe_c (c_law_rounds T) hr (by decide) rfl (pa_cons (pv 2) (pa_cons (pv 4) (pa_cons (pv 5) pa_nil)))))
      (pss_one (ps_ret (pe_and (pe_cmpR (op_eqD hr.units) (C8.pe_c (c_rounds T) hr (by decide) rfl (pa_cons (pv 3) (pa_cons (pv 4) (pa_cons (pv 5) pa_nil)))) (pe_ix ix_list (pv 6) (pe_un un_neg pe_int) (fun _ _ => rfl)) (nomark _)) (pe_one (pe_cmpR (op_eqD hr.units) (C8.pe_c (c_passed T) hr (by decide) rfl (pa_cons (pv 3) (pa_cons (pv 4) (pa_cons (pv 5) pa_nil)))) (pv 6) (nomark _))))))))), ?_⟩
    refine ⟨2, rfl, by decide, by decide, fun D hD => lc_pot (R := IsG K) (ok := fun _ g => g.ok n ∧ g.mild = true) (fun _ _ _ _ s r => r.to s) (fun _ _ _ _ _ h r => isG_del h r) (n := 2) (walk_range (lo := 0)) W hD (by decide) (fun _ _ _ _ => trivial) (fun i x H H' H0' Q' hi s W' y q => ?_) (fun G3 H3 gs xs s W3 hl ho hx hA => ?_)⟩
    · obtain ⟨rfl, rfl⟩ := y
      exact ⟨rfl, _, rfl, _, rfl, H0', a, n, rfl, W', h1, h2, fun H0'' H3 t g s2 W3 hg hm ht => q _ _ _ g s2 W3 ⟨hg, hm⟩ ⟨t, rfl, ht⟩⟩
    have all : ∀ g ∈ gs, g.ok n ∧ g.mild = true := fun g hg => let ⟨i, hi⟩ := List.mem_iff_getElem?.mp hg; ho i g hi
    have few : gs.length ≤ 400 := by omega
    have hx3 := W3.same _ _ hx
    have hA3 : All2 (IsG K H3) xs gs := hA.mono fun _ _ z => z.to W3.same
    refine ⟨_, rfl, _, rfl, fun x dx hx1 hdx ne => ?_⟩
    refine ⟨H3, x, dx, D, n, gs, rfl, (Same.new hdx).trans (Same.new (by rw [upd_ne ne.symm]; exact hx1)), hx1, upd_same, ⟨xs, SqL.of hx3, hA3⟩, h1, h2, fun g hg => (all g hg).1, few, fun H4 s4 N4 => ⟨rfl, ?_⟩⟩
    have W4 := W3.pure s4
    have U := s.trans W4.under
    have N6 := net_pot W4.pot N4
    obtain ⟨x6, A6⟩ := gs_pot W4.pot (s4 _ _ hx3) (hA3.mono fun _ _ z => z.to s4)
    have W6 := Wd.all W4.pot
    generalize del H4 a = G6 at U N6 x6 A6 W6
    refine ⟨_, rfl, _, rfl, G6, a, n, rfl, W6, h2, fun G7 H7 c ns s7 W7 hn hb hc => ?_⟩
    refine ⟨_, rfl, by show 3 ≤ sizeLine; decide, fun b8 hb8 => ?_⟩
    refine ⟨upd G7 b8 _, a, b8, _, rfl, W7.ext hb8, SqL.of upd_same, by show 1 ≤ 3; decide, by show 3 ≤ 1000; decide, fun H8 v W8' hv => ?_⟩
    have W8 := W8'.back (Same.new (W7.fresh hb8))
    obtain ⟨m, rfl, hm⟩ : ∃ m : Nat, v = V.int m ∧ m ≤ 1000 := by
      simp only [List.mem_cons, List.not_mem_nil, or_false] at hv
      rcases hv with rfl | rfl | rfl
      · exact ⟨300, rfl, by decide⟩
      · exact ⟨999, rfl, by decide⟩
      · exact ⟨1000, rfl, by decide⟩
    refine ⟨_, _, _, rfl, ?_⟩
    have t8 := s7.trans W8.same
    refine ⟨_, rfl, _, rfl, _, rfl, D, c, gs, ns, m, rfl, ⟨xs, SqL.of (t8 _ _ x6), A6.mono fun _ _ z => z.to t8⟩, W8.same.seq hc, by rw [hn]; exact fun g hg => (all g hg).1, few, hm, fun H9 r s9 R9 => ?_⟩
    obtain ⟨r0, ys, hr9, hA9⟩ := id R9
    obtain ⟨vl, el, bl, evl, _, hbl⟩ := rounds_last hA9
    subst evl
    have t9 := t8.trans s9
    have W9 := W8.pure s9
    have ct : ∀ {H' : Hp}, Wd a G7 H' → Ct K H' c ns := fun W' => ⟨.inl (W'.same.seq hc), by omega, by omega⟩
    refine ⟨_, rfl, _, rfl, _, rfl, x, c, n, gs, ns, m, rfl, N6.to t9, ct W9, hn, hm, fun H10 q10 s10 q0 q1 => ?_⟩
    refine ⟨_, rfl, _, rfl, r, ys, _, _, rfl, rfl, SqL.of (s10 _ _ hr9), el, ?_⟩
    refine ⟨_, _, ints_dp (SqL.of q1), ints_dp (SqL.of (s10 _ _ hbl)), row_shaped _, row_shaped _, _, rfl, itT (row_same rfl) ?_⟩
    refine ⟨_, rfl, _, rfl, _, rfl, x, c, n, gs, ns, m, rfl, N6.to (t9.trans s10), ct (W9.pure s10), hn, hm, fun H11 r11 s11 R11 => ?_⟩
    refine ⟨_, rfl, _, _, rws_dp R11.rws, rws_dp (R9.rws.to (s10.trans s11)), rows_shaped _, rows_shaped _, q_bl (rows_same rfl) (k _ ?_)⟩
    exact (((W9.pure s10).pure s11).back s7).back U
end
end LL

namespace LL
open PySem L2 PySem.Spec PyProof.Rows
theorem word_add (g : Gt) : decide (V.str g.word = V.str "add") = g.isAdd := by
  cases g
  · exact (by decide +kernel : decide (V.str "low" = V.str "add") = false)
  · exact (by decide +kernel : decide (V.str "high" = V.str "add") = false)
  · exact (by decide +kernel : decide (V.str "sort" = V.str "add") = false)
  · exact (by decide +kernel : decide (V.str "copy" = V.str "add") = false)
  · exact (by decide +kernel : decide (V.str "add" = V.str "add") = true)
abbrev plains (gs : List Gt) : List Gt := gs.filter fun g => !g.isAdd
theorem plains_next {gs : List Gt} {i : Nat} {g : Gt} (h : gs[i]? = some g) : plains (gs.take (i + 1)) = plains (gs.take i) ++ (if g.isAdd = true then [] else [g]) := by
  unfold plains
  rw [List.take_add_one, h, List.filter_append]
  congr 1
  show List.filter (fun g => !g.isAdd) [g] = _
  cases e : g.isAdd <;> simp [e]
theorem known_ok : ∀ g ∈ knownG, g.ok 2 := fun g hg => by
  rcases List.mem_cons.mp hg with e | hg
  · subst e
    exact ⟨by decide, by decide, by decide⟩
  · obtain rfl := List.mem_singleton.mp hg
    exact (show 0 < 2 by decide)
section
variable {P : Program} {w : World} {K : PySem.W.Frag} {mg : Str → Option Value} {base : Heap} {C : Addr}
def sp_law_right : Sp := fun vs H Q _ => ∃ (a : Addr), vs = [V.ref a] ∧ Pot H a ∧ ∀ H', Same (del H a) H' → Q (.bl true) H'
theorem c_law_right (T : Txt K mg C) : CalQ NoG P w K mg base 11 "_law_right" sp_law_right := by
  obtain ⟨f, fd, D, b⟩ := T.d_law_right
  refine ⟨f, fd, _, fnQ0 noG_deep D.fn sc_law_right (fun vs H Q E h => ?_) (fun cdv A outer s H vs Q E hr hA h => ?_), D.mgf, D.kp, b⟩
  · obtain ⟨a, rfl, _⟩ := h
    rfl
  · obtain ⟨a, rfl, hpot, k⟩ := h
    obtain ⟨eg, efd, eF, eS, eI, eB⟩ := c_eq (P := P) (w := w) (base := base) T
    have W0 := Wd.all hpot
    refine ⟨_, (pss_cons (ps_set (i := 1) sc_law_right.nd rfl (Or.inl rfl) (pe_op op_add pe_int (C8.pe_c (c_law_draw T) hr (by decide) rfl (pa_cons (pv 0) (pa_cons pe_int pa_nil)))))
      (pss_cons (ps_set (i := 2) sc_law_right.nd rfl (Or.inl rfl) (C8.pe_c (c_law_gates T) hr (by decide) rfl (pa_cons (pv 0) (pa_cons (pv 1) (pa_cons pe_int pa_nil)))))
      (pss_cons (ps_if (pt_cmpR op_eq (C8.pe_c (c_law_draw T) hr (by decide) rfl (pa_cons (pv 0) (pa_cons pe_int pa_nil))) pe_int (nomark _))
       (pss_one (ps_setLc (i := 2) (own := [("_law_gate_here", 7)]) (g := (gName 7)) (tt := _) rfl sc_law_right.nd rfl rfl (sw_true rfl rfl rfl (by decide +kernel)) (pi_list (pv 2)) (blkOk_by (N := N_law_right) (sc := C8.fnScope s_law_right) (by decide +kernel)) (fun _ _ _ _ _ => (pg_name (i := 7) sc_law_right.nd rfl (Or.inl rfl))) (fun _ _ _ _ _ => pts_one (pt_cmpR op_ne (pe_ix (r := rIxT K) ix_tup (pv 7) pe_int (fun _ _ => rfl)) pe_str (nomark _))) (fun _ _ _ _ _ => (pv 7))))
       pss_nil)
      (pss_cons (ps_set (i := 3) sc_law_right.nd rfl (Or.inl rfl) (C8.pe_mk (c_Net T) hr (by decide) rfl (pa_cons (pv 1) (pa_cons (pv 2) pa_nil))))
      (pss_cons (ps_for PassesOwn.never rfl (pi_range1 rfl T.b_range (pa_cons pe_int pa_nil)) (pg_name (i := 4) sc_law_right.nd rfl (Or.inl rfl))
       (pss_cons (ps_set (i := 5) sc_law_right.nd rfl (Or.inl rfl) (C8.pe_c (c_law_content T) hr (by decide) rfl (pa_cons (pv 0) (pa_cons (pv 1) pa_nil))))
        (pss_one (ps_if (PW.pt (pw_or (pt_not (pt_val (pe_cQ (c_law_told_right T) hr (by decide) hA rfl (pa_cons (pv 0) (pa_cons (pv 3) (pa_cons (pv 2) (pa_cons (pv 5) pa_nil))))))) (pw_or1 (pt_not (pt_val (C8.pe_c (c_law_made_right T) hr (by decide) rfl (pa_cons (pv 0) (pa_cons (pv 3) (pa_cons (pv 2) (pa_cons (pv 5) pa_nil))))))))))
         (pss_one (ps_ret pe_bl))
         pss_nil))))
      (pss_cons (ps_if (PW.pt (pw_and (pt_cmpR op_eq (C8.pe_c (c_law_draw T) hr (by decide) rfl (pa_cons (pv 0) (pa_cons pe_int pa_nil))) pe_int (nomark _)) (pw_and1 (pt_not (pt_val (C8.pe_c (c_law_long_right T) hr (by decide) rfl (pa_cons (pv 0) (pa_cons (pv 1) pa_nil))))))))
       (pss_one (ps_ret pe_bl))
       pss_nil)
      (pss_cons (ps_set (i := 6) sc_law_right.nd rfl (Or.inl rfl) (C8.pe_mk (c_Net T) hr (by decide) rfl (pa_cons pe_int (pa_cons (pe_lst (pa_cons (pe_tup (pa_cons pe_str (pa_cons pe_int (pa_cons pe_int pa_nil)))) (pa_cons (pe_tup (pa_cons pe_str (pa_cons pe_int (pa_cons pe_int pa_nil)))) pa_nil))) pa_nil))))
      (pss_cons (ps_if (pt_cmpR (op_neD hr.units) (C8.pe_c (c_passed T) hr (by decide) rfl (pa_cons (pv 6) (pa_cons (pe_lst (pa_cons pe_int (pa_cons pe_int pa_nil))) (pa_cons pe_int pa_nil)))) (pe_lst (pa_cons (pe_lst (pa_cons pe_int (pa_cons pe_int pa_nil))) (pa_cons (pe_lst (pa_cons pe_int (pa_cons pe_int pa_nil))) (pa_cons (pe_lst (pa_cons pe_int (pa_cons pe_int pa_nil))) (pa_cons (pe_lst (pa_cons pe_int (pa_cons pe_int pa_nil))) (pa_cons (pe_lst (pa_cons pe_int (pa_cons pe_int pa_nil))) (pa_cons (pe_lst (pa_cons pe_int (pa_cons pe_int pa_nil))) pa_nil))))))) (nomark _))
       (pss_one (ps_ret pe_bl))
       pss_nil)
      (pss_one (ps_ret (pe_and (pe_cmpR (op_eqD hr.units) (C8.pe_c (c_rounds T) hr (by decide) rfl (pa_cons (pv 6) (pa_cons (pe_lst (pa_cons pe_int (pa_cons (pe_un un_neg pe_int) pa_nil))) (pa_cons pe_int pa_nil)))) (pe_lst (pa_cons (pe_un un_neg pe_int) (pa_cons (pe_un un_neg pe_int) pa_nil))) (nomark _)) (pe_one (pe_cmpR (op_eqG (rcG_ins eF eS eI eB pass0) (hr.mono (by decide))) (pv 3) (C8.pe_mk (c_Net T) hr (by decide) rfl (pa_cons (pv 1) (pa_cons (pv 2) pa_nil))) (nomark _)))))))))))))), ?_⟩
    refine ⟨_, rfl, del H a, a, 4, rfl, W0, by decide, by decide, fun H1 d W1 d0 d1 => ?_⟩
    refine ⟨_, _, rfl, rfl, ?_⟩
    obtain ⟨n, e, c1, c2⟩ : ∃ n : Nat, (1 + d : Int) = n ∧ 1 ≤ n ∧ n ≤ 12 := ⟨(1 + d).toNat, by omega, by omega, by omega⟩
    have e' : (fun i j : Int => V.int (i + j)) 1 d = V.int (n : Int) := congrArg V.int e
    rw [e']
    refine ⟨_, rfl, _, rfl, del H a, a, n, 10, rfl, W1, c1, c2, by decide, fun G2 H2 l gs s2 W2 hg hm hl hG => ?_⟩
    refine ⟨_, rfl, G2, a, 4, rfl, W2, by decide, by decide, fun H3 d3 W3 d30 d31 => ⟨rfl, _, rfl, ?_⟩⟩
    obtain ⟨xs, hS, hA2⟩ := id hG
    have okP : ∀ g ∈ plains gs, g.ok n := fun g hg' => hg g (List.mem_filter.mp hg').1
    have mildP : ∀ g ∈ plains gs, g.mild = true := fun g hg' => hm g (List.mem_filter.mp hg').1
    have lenP : (plains gs).length ≤ 10 := Nat.le_trans (List.length_filter_le _ _) hl
    refine ite2 (fun _ => ?_) (fun _ => ?_)
    · have hS3 := W3.same.seq hS
      have hA3 : All2 (IsG K H3) xs gs := hA2.mono fun _ _ z => z.to W3.same
      refine ⟨_, rfl, l, rfl, ⟨_, hS3⟩, fun D hD => lc_it (walk_list (K := K) (a := l) (xs := xs)) (fun i H' => Same H3 H' ∧ ∃ ys, H' D = some (.lst ys) ∧ All2 (IsG K H3) ys (plains (gs.take i))) ⟨Same.new hD, [], upd_same, by rw [List.take_zero]; exact All2.nil⟩ (fun i H' _ z => z.1.seq hS3) (fun i v H4 H5 hi z y => ?_) (fun H4 z => ?_)⟩
      · obtain ⟨s4, ys, hys, hY⟩ := z
        obtain ⟨rfl, hv⟩ := y
        obtain ⟨g, hg1, t, rfl, ht⟩ := hA3.get hv
        refine ⟨rfl, _, rfl, t, _, 0, _, rfl, rfl, s4.seqT ht, atI_nat (j := 0) (vals_word g), rfl, _, rfl, ?_⟩
        rw [word_add]
        have step := plains_next hg1
        refine ite2 (fun c => ?_) (fun c => ?_)
        · have ga : g.isAdd = false := by simpa using c
          refine ⟨_, rfl, ys, hys, size100 ?_, s4.mut hD, _, upd_same, ?_⟩
          · rw [hY.1]
            have : (plains (gs.take i)).length ≤ (gs.take i).length := List.length_filter_le _ _
            rw [List.length_take] at this
            omega
          · rw [step, ga]
            exact hY.snoc ⟨t, rfl, ht⟩
        · have ga : g.isAdd = true := by simpa using c
          refine ⟨s4, ys, hys, ?_⟩
          rw [step, ga, if_pos rfl, List.append_nil]
          exact hY
      obtain ⟨s4, ys, hys, hY⟩ := z
      rw [hA2.1, List.take_length] at hY
      have W4 := W3.pure s4
      have GS4 : Gs K H4 D (plains gs) := ⟨ys, SqL.of hys, hY.mono fun _ _ z => z.to s4⟩
      have GSd : ∀ H5, Same H4 H5 → Wd a G2 H5 → Gs K (del H5 a) D (plains gs) := fun H5 s5 W5 => let ⟨q1, q2⟩ := gs_pot W5.pot (s5 _ _ hys) (hY.mono fun _ _ z => (z.to s4).to s5); ⟨ys, SqL.of q1, q2⟩
      have ok4 := okP
      have mild4 := mildP
      have len4 := lenP
      have few4 : (plains gs).length ≤ 400 := by omega
      generalize plains gs = gs4 at GS4 GSd ok4 mild4 len4 few4
      generalize D = D4 at GS4 GSd ⊢
      refine ⟨_, rfl, _, rfl, fun x dx hx1 hdx ne => ?_⟩
      refine ⟨_, x, dx, D4, n, gs4, rfl, (Same.new hdx).trans (Same.new (by rw [upd_ne ne.symm]; exact hx1)), hx1, upd_same, GS4, c1, c2, ok4, few4, fun H5 s5 N5 => ⟨rfl, ?_⟩⟩
      have W5 := W4.pure s5
      have U := s2.trans W5.under
      have N6 := net_pot W5.pot N5
      have GS6 := GSd H5 s5 W5
      have W6 := Wd.all W5.pot
      generalize del H5 a = G6 at U N6 GS6 W6
      refine ⟨2, rfl, by decide, by decide, for_it (n := 2) (walk_range (lo := 0)) (fun i σ H' => ∃ v1 v2, Wd a G6 H' ∧ σ = [some (.ref a), some (.int n), some (.ref D4), some (.ref x), v1, v2, none, none]) ⟨none, none, W6, rfl⟩ (fun _ _ _ _ _ => trivial) (fun i v σ H7 H8 hi z y => ?_) (fun σ H7 z => ?_)⟩
      · obtain ⟨v1, v2, W7, rfl⟩ := z
        obtain ⟨rfl, rfl⟩ := y
        refine ⟨_, rfl, _, rfl, G6, a, n, rfl, W7, c2, fun G8 H8 b8 ns S8 W8 hn hb hc8 => ?_⟩
        refine ⟨_, rfl, _, rfl, _, rfl, _, rfl, G8, a, x, D4, b8, n, gs4, ns, rfl, W8, N6.to S8, GS6.to S8, hc8, hn, len4, mild4, hb, fun H9 W9 => ⟨true, rfl, iteF ?_⟩⟩
        refine ⟨_, rfl, _, rfl, _, rfl, _, rfl, G8, a, x, D4, b8, n, gs4, ns, rfl, W9, N6.to S8, GS6.to S8, hc8, hn, len4, fun H10 W10 => ⟨true, rfl, iteF ?_⟩⟩
        exact ⟨_, _, W10.back S8, rfl⟩
      obtain ⟨v1, v2, W7, rfl⟩ := z
      refine ⟨_, rfl, G6, a, 3, rfl, W7, by decide, by decide, fun H8 d8 W8 d80 d81 => ⟨rfl, _, rfl, ?_⟩⟩
      refine ite2 (fun _ => ?_) (fun _ => ?_)
      · refine ⟨_, rfl, _, rfl, G6, a, n, rfl, W8, c1, c2, fun H9 W9 => ⟨true, rfl, iteF ?_⟩⟩
        refine ⟨by show 3 ≤ sizeLine; decide, fun t1 ht1 => ⟨by show 3 ≤ sizeLine; decide, fun t2 ht2 => ⟨by show 2 ≤ sizeLine; decide, fun b1 hb1 => fun xk dk hxk hdk nk => ?_⟩⟩⟩
        have m1 := Same.new (o := .tup [.str "low", .int 0, .int 1]) ht1
        have m2 := Same.new (o := .tup [.str "add", .int 0, .int 2]) ht2
        have m3 := Same.new (o := .lst [.ref t1, .ref t2]) hb1
        refine ⟨_, xk, dk, b1, 2, knownG, rfl, (Same.new hdk).trans (Same.new (by rw [upd_ne nk.symm]; exact hxk)), hxk, upd_same, ⟨[.ref t1, .ref t2], SqL.of upd_same, ((All2.nil (R := IsG K _)).snoc ⟨t1, rfl, SqT.of (m3 _ _ (m2 _ _ upd_same))⟩).snoc ⟨t2, rfl, SqT.of (m3 _ _ upd_same)⟩⟩, by decide, by decide, known_ok, by decide, fun H13 s13 N13 => ⟨rfl, ?_⟩⟩
        have S13 := ((m1.trans m2).trans m3).trans s13
        refine ⟨_, rfl, by show 2 ≤ sizeLine; decide, fun b2 hb2 => ?_⟩
        have m4 := Same.new (o := .lst [.int 0, .int 7]) hb2
        refine ⟨xk, b2, 2, knownG, [0, 7], 5, rfl, N13.to m4, ⟨.inl (SqL.of upd_same), by decide, by decide⟩, rfl, by decide, fun H15 r15 s15 R15 => ?_⟩
        refine ⟨by show 2 ≤ sizeLine; decide, fun e1 he1 => ⟨by show 2 ≤ sizeLine; decide, fun e2 he2 => ⟨by show 2 ≤ sizeLine; decide, fun e3 he3 => ⟨by show 2 ≤ sizeLine; decide, fun e4 he4 => ⟨by show 2 ≤ sizeLine; decide, fun e5 he5 => ⟨by show 2 ≤ sizeLine; decide, fun e6 he6 => ⟨by show 6 ≤ sizeLine; decide, fun e7 he7 => ?_⟩⟩⟩⟩⟩⟩⟩
        have n1 := Same.new (o := .lst [.int 0, .int 7]) he1
        have n2 := Same.new (o := .lst [.int 2, .int 7]) he2
        have n3 := Same.new (o := .lst [.int 4, .int 7]) he3
        have n4 := Same.new (o := .lst [.int 6, .int 7]) he4
        have n5 := Same.new (o := .lst [.int 8, .int 7]) he5
        have n6 := Same.new (o := .lst [.int 9, .int 7]) he6
        have n7 := Same.new (o := .lst [.ref e1, .ref e2, .ref e3, .ref e4, .ref e5, .ref e6]) he7
        have c2' := n2.trans (n3.trans (n4.trans (n5.trans (n6.trans n7))))
        refine ⟨_, rowsPy [[0, 7], [2, 7], [4, 7], [6, 7], [8, 7], [9, 7]], rws_dp (R15.rws.to (n1.trans c2')), .lst (SqL.of upd_same) (.cons (ints_dp (ns := [0, 7]) (SqL.of (c2' _ _ upd_same))) (.cons (ints_dp (ns := [2, 7]) (SqL.of ((n3.trans (n4.trans (n5.trans (n6.trans n7)))) _ _ upd_same))) (.cons (ints_dp (ns := [4, 7]) (SqL.of ((n4.trans (n5.trans (n6.trans n7))) _ _ upd_same))) (.cons (ints_dp (ns := [6, 7]) (SqL.of ((n5.trans (n6.trans n7)) _ _ upd_same))) (.cons (ints_dp (ns := [8, 7]) (SqL.of ((n6.trans n7) _ _ upd_same))) (.cons (ints_dp (ns := [9, 7]) (SqL.of (n7 _ _ upd_same))) .nil)))))), rows_shaped _, rows_shaped _, _, rfl, itF (by rw [rows_same known_rows]; rfl) ?_⟩
        have S23 := S13.trans (m4.trans (s15.trans (n1.trans c2')))
        have N23 := N13.to (m4.trans (s15.trans (n1.trans c2')))
        refine ⟨_, rfl, _, rfl, by show 2 ≤ sizeLine; decide, fun b3 hb3 => ?_⟩
        have m5 := Same.new (o := .lst [.int 100, .int (-3)]) hb3
        refine ⟨xk, b3, 2, knownG, [100, -3], 1000, rfl, N23.to m5, ⟨.inl (SqL.of upd_same), by decide, by decide⟩, rfl, by decide, fun H24 q24 s24 q240 q241 => ?_⟩
        refine ⟨_, rfl, _, rfl, by show 2 ≤ sizeLine; decide, fun b4 hb4 => ?_⟩
        have m6 := Same.new (o := .lst [.int (-1), .int (-3)]) hb4
        refine ⟨_, _, ints_dp (SqL.of (m6 _ _ q241)), ints_dp (ns := [-1, -3]) (SqL.of upd_same), row_shaped _, row_shaped _, _, rfl, itT (row_same known_far) ?_⟩
        have W25 := W9.pure (S23.trans (m5.trans (s24.trans m6)))
        refine ⟨_, rfl, _, rfl, _, rfl, fun x7 dx7 hx7 hdx7 ne7 => ?_⟩
        refine ⟨_, x7, dx7, D4, n, gs4, rfl, (Same.new hdx7).trans (Same.new (by rw [upd_ne ne7.symm]; exact hx7)), hx7, upd_same, GS6.to W25.same, c1, c2, ok4, few4, fun H26 s26 N26 => ⟨rfl, ?_⟩⟩
        have N27 := (N6.to W25.same).to s26
        obtain ⟨da, la, ha, _⟩ := id N27.old
        obtain ⟨db, lb, hb', _⟩ := id N26.old
        refine ⟨⟨x, x7, da, db, _, _, rfl, rfl, ha, hb', n, gs4, N27, N26⟩, fun H28 s28 => k _ ?_⟩
        exact U.trans (W25.same.trans (s26.trans s28))
      · have W9 := W8
        refine ⟨by show 3 ≤ sizeLine; decide, fun t1 ht1 => ⟨by show 3 ≤ sizeLine; decide, fun t2 ht2 => ⟨by show 2 ≤ sizeLine; decide, fun b1 hb1 => fun xk dk hxk hdk nk => ?_⟩⟩⟩
        have m1 := Same.new (o := .tup [.str "low", .int 0, .int 1]) ht1
        have m2 := Same.new (o := .tup [.str "add", .int 0, .int 2]) ht2
        have m3 := Same.new (o := .lst [.ref t1, .ref t2]) hb1
        refine ⟨_, xk, dk, b1, 2, knownG, rfl, (Same.new hdk).trans (Same.new (by rw [upd_ne nk.symm]; exact hxk)), hxk, upd_same, ⟨[.ref t1, .ref t2], SqL.of upd_same, ((All2.nil (R := IsG K _)).snoc ⟨t1, rfl, SqT.of (m3 _ _ (m2 _ _ upd_same))⟩).snoc ⟨t2, rfl, SqT.of (m3 _ _ upd_same)⟩⟩, by decide, by decide, known_ok, by decide, fun H13 s13 N13 => ⟨rfl, ?_⟩⟩
        have S13 := ((m1.trans m2).trans m3).trans s13
        refine ⟨_, rfl, by show 2 ≤ sizeLine; decide, fun b2 hb2 => ?_⟩
        have m4 := Same.new (o := .lst [.int 0, .int 7]) hb2
        refine ⟨xk, b2, 2, knownG, [0, 7], 5, rfl, N13.to m4, ⟨.inl (SqL.of upd_same), by decide, by decide⟩, rfl, by decide, fun H15 r15 s15 R15 => ?_⟩
        refine ⟨by show 2 ≤ sizeLine; decide, fun e1 he1 => ⟨by show 2 ≤ sizeLine; decide, fun e2 he2 => ⟨by show 2 ≤ sizeLine; decide, fun e3 he3 => ⟨by show 2 ≤ sizeLine; decide, fun e4 he4 => ⟨by show 2 ≤ sizeLine; decide, fun e5 he5 => ⟨by show 2 ≤ sizeLine; decide, fun e6 he6 => ⟨by show 6 ≤ sizeLine; decide, fun e7 he7 => ?_⟩⟩⟩⟩⟩⟩⟩
        have n1 := Same.new (o := .lst [.int 0, .int 7]) he1
        have n2 := Same.new (o := .lst [.int 2, .int 7]) he2
        have n3 := Same.new (o := .lst [.int 4, .int 7]) he3
        have n4 := Same.new (o := .lst [.int 6, .int 7]) he4
        have n5 := Same.new (o := .lst [.int 8, .int 7]) he5
        have n6 := Same.new (o := .lst [.int 9, .int 7]) he6
        have n7 := Same.new (o := .lst [.ref e1, .ref e2, .ref e3, .ref e4, .ref e5, .ref e6]) he7
        have c2' := n2.trans (n3.trans (n4.trans (n5.trans (n6.trans n7))))
        refine ⟨_, rowsPy [[0, 7], [2, 7], [4, 7], [6, 7], [8, 7], [9, 7]], rws_dp (R15.rws.to (n1.trans c2')), .lst (SqL.of upd_same) (.cons (ints_dp (ns := [0, 7]) (SqL.of (c2' _ _ upd_same))) (.cons (ints_dp (ns := [2, 7]) (SqL.of ((n3.trans (n4.trans (n5.trans (n6.trans n7)))) _ _ upd_same))) (.cons (ints_dp (ns := [4, 7]) (SqL.of ((n4.trans (n5.trans (n6.trans n7))) _ _ upd_same))) (.cons (ints_dp (ns := [6, 7]) (SqL.of ((n5.trans (n6.trans n7)) _ _ upd_same))) (.cons (ints_dp (ns := [8, 7]) (SqL.of ((n6.trans n7) _ _ upd_same))) (.cons (ints_dp (ns := [9, 7]) (SqL.of (n7 _ _ upd_same))) .nil)))))), rows_shaped _, rows_shaped _, _, rfl, itF (by rw [rows_same known_rows]; rfl) ?_⟩
        have S23 := S13.trans (m4.trans (s15.trans (n1.trans c2')))
        have N23 := N13.to (m4.trans (s15.trans (n1.trans c2')))
        refine ⟨_, rfl, _, rfl, by show 2 ≤ sizeLine; decide, fun b3 hb3 => ?_⟩
        have m5 := Same.new (o := .lst [.int 100, .int (-3)]) hb3
        refine ⟨xk, b3, 2, knownG, [100, -3], 1000, rfl, N23.to m5, ⟨.inl (SqL.of upd_same), by decide, by decide⟩, rfl, by decide, fun H24 q24 s24 q240 q241 => ?_⟩
        refine ⟨_, rfl, _, rfl, by show 2 ≤ sizeLine; decide, fun b4 hb4 => ?_⟩
        have m6 := Same.new (o := .lst [.int (-1), .int (-3)]) hb4
        refine ⟨_, _, ints_dp (SqL.of (m6 _ _ q241)), ints_dp (ns := [-1, -3]) (SqL.of upd_same), row_shaped _, row_shaped _, _, rfl, itT (row_same known_far) ?_⟩
        have W25 := W9.pure (S23.trans (m5.trans (s24.trans m6)))
        refine ⟨_, rfl, _, rfl, _, rfl, fun x7 dx7 hx7 hdx7 ne7 => ?_⟩
        refine ⟨_, x7, dx7, D4, n, gs4, rfl, (Same.new hdx7).trans (Same.new (by rw [upd_ne ne7.symm]; exact hx7)), hx7, upd_same, GS6.to W25.same, c1, c2, ok4, few4, fun H26 s26 N26 => ⟨rfl, ?_⟩⟩
        have N27 := (N6.to W25.same).to s26
        obtain ⟨da, la, ha, _⟩ := id N27.old
        obtain ⟨db, lb, hb', _⟩ := id N26.old
        refine ⟨⟨x, x7, da, db, _, _, rfl, rfl, ha, hb', n, gs4, N27, N26⟩, fun H28 s28 => k _ ?_⟩
        exact U.trans (W25.same.trans (s26.trans s28))
    · have W4 := W3
      have GS4 := hG.to W3.same
      have GSd : ∀ H5, Same H3 H5 → Wd a G2 H5 → Gs K (del H5 a) l gs := fun H5 _ W5 => hG.to W5.under
      have few4 : gs.length ≤ 400 := by omega
      have ok4 := hg
      have mild4 := hm
      have len4 := hl
      generalize gs = gs4 at GS4 GSd ok4 mild4 len4 few4
      generalize l = D4 at GS4 GSd ⊢
      refine ⟨_, rfl, _, rfl, fun x dx hx1 hdx ne => ?_⟩
      refine ⟨_, x, dx, D4, n, gs4, rfl, (Same.new hdx).trans (Same.new (by rw [upd_ne ne.symm]; exact hx1)), hx1, upd_same, GS4, c1, c2, ok4, few4, fun H5 s5 N5 => ⟨rfl, ?_⟩⟩
      have W5 := W4.pure s5
      have U := s2.trans W5.under
      have N6 := net_pot W5.pot N5
      have GS6 := GSd H5 s5 W5
      have W6 := Wd.all W5.pot
      generalize del H5 a = G6 at U N6 GS6 W6
      refine ⟨2, rfl, by decide, by decide, for_it (n := 2) (walk_range (lo := 0)) (fun i σ H' => ∃ v1 v2, Wd a G6 H' ∧ σ = [some (.ref a), some (.int n), some (.ref D4), some (.ref x), v1, v2, none, none]) ⟨none, none, W6, rfl⟩ (fun _ _ _ _ _ => trivial) (fun i v σ H7 H8 hi z y => ?_) (fun σ H7 z => ?_)⟩
      · obtain ⟨v1, v2, W7, rfl⟩ := z
        obtain ⟨rfl, rfl⟩ := y
        refine ⟨_, rfl, _, rfl, G6, a, n, rfl, W7, c2, fun G8 H8 b8 ns S8 W8 hn hb hc8 => ?_⟩
        refine ⟨_, rfl, _, rfl, _, rfl, _, rfl, G8, a, x, D4, b8, n, gs4, ns, rfl, W8, N6.to S8, GS6.to S8, hc8, hn, len4, mild4, hb, fun H9 W9 => ⟨true, rfl, iteF ?_⟩⟩
        refine ⟨_, rfl, _, rfl, _, rfl, _, rfl, G8, a, x, D4, b8, n, gs4, ns, rfl, W9, N6.to S8, GS6.to S8, hc8, hn, len4, fun H10 W10 => ⟨true, rfl, iteF ?_⟩⟩
        exact ⟨_, _, W10.back S8, rfl⟩
      obtain ⟨v1, v2, W7, rfl⟩ := z
      refine ⟨_, rfl, G6, a, 3, rfl, W7, by decide, by decide, fun H8 d8 W8 d80 d81 => ⟨rfl, _, rfl, ?_⟩⟩
      refine ite2 (fun _ => ?_) (fun _ => ?_)
      · refine ⟨_, rfl, _, rfl, G6, a, n, rfl, W8, c1, c2, fun H9 W9 => ⟨true, rfl, iteF ?_⟩⟩
        refine ⟨by show 3 ≤ sizeLine; decide, fun t1 ht1 => ⟨by show 3 ≤ sizeLine; decide, fun t2 ht2 => ⟨by show 2 ≤ sizeLine; decide, fun b1 hb1 => fun xk dk hxk hdk nk => ?_⟩⟩⟩
        have m1 := Same.new (o := .tup [.str "low", .int 0, .int 1]) ht1
        have m2 := Same.new (o := .tup [.str "add", .int 0, .int 2]) ht2
        have m3 := Same.new (o := .lst [.ref t1, .ref t2]) hb1
        refine ⟨_, xk, dk, b1, 2, knownG, rfl, (Same.new hdk).trans (Same.new (by rw [upd_ne nk.symm]; exact hxk)), hxk, upd_same, ⟨[.ref t1, .ref t2], SqL.of upd_same, ((All2.nil (R := IsG K _)).snoc ⟨t1, rfl, SqT.of (m3 _ _ (m2 _ _ upd_same))⟩).snoc ⟨t2, rfl, SqT.of (m3 _ _ upd_same)⟩⟩, by decide, by decide, known_ok, by decide, fun H13 s13 N13 => ⟨rfl, ?_⟩⟩
        have S13 := ((m1.trans m2).trans m3).trans s13
        refine ⟨_, rfl, by show 2 ≤ sizeLine; decide, fun b2 hb2 => ?_⟩
        have m4 := Same.new (o := .lst [.int 0, .int 7]) hb2
        refine ⟨xk, b2, 2, knownG, [0, 7], 5, rfl, N13.to m4, ⟨.inl (SqL.of upd_same), by decide, by decide⟩, rfl, by decide, fun H15 r15 s15 R15 => ?_⟩
        refine ⟨by show 2 ≤ sizeLine; decide, fun e1 he1 => ⟨by show 2 ≤ sizeLine; decide, fun e2 he2 => ⟨by show 2 ≤ sizeLine; decide, fun e3 he3 => ⟨by show 2 ≤ sizeLine; decide, fun e4 he4 => ⟨by show 2 ≤ sizeLine; decide, fun e5 he5 => ⟨by show 2 ≤ sizeLine; decide, fun e6 he6 => ⟨by show 6 ≤ sizeLine; decide, fun e7 he7 => ?_⟩⟩⟩⟩⟩⟩⟩
        have n1 := Same.new (o := .lst [.int 0, .int 7]) he1
        have n2 := Same.new (o := .lst [.int 2, .int 7]) he2
        have n3 := Same.new (o := .lst [.int 4, .int 7]) he3
        have n4 := Same.new (o := .lst [.int 6, .int 7]) he4
        have n5 := Same.new (o := .lst [.int 8, .int 7]) he5
        have n6 := Same.new (o := .lst [.int 9, .int 7]) he6
        have n7 := Same.new (o := .lst [.ref e1, .ref e2, .ref e3, .ref e4, .ref e5, .ref e6]) he7
        have c2' := n2.trans (n3.trans (n4.trans (n5.trans (n6.trans n7))))
        refine ⟨_, rowsPy [[0, 7], [2, 7], [4, 7], [6, 7], [8, 7], [9, 7]], rws_dp (R15.rws.to (n1.trans c2')), .lst (SqL.of upd_same) (.cons (ints_dp (ns := [0, 7]) (SqL.of (c2' _ _ upd_same))) (.cons (ints_dp (ns := [2, 7]) (SqL.of ((n3.trans (n4.trans (n5.trans (n6.trans n7)))) _ _ upd_same))) (.cons (ints_dp (ns := [4, 7]) (SqL.of ((n4.trans (n5.trans (n6.trans n7))) _ _ upd_same))) (.cons (ints_dp (ns := [6, 7]) (SqL.of ((n5.trans (n6.trans n7)) _ _ upd_same))) (.cons (ints_dp (ns := [8, 7]) (SqL.of ((n6.trans n7) _ _ upd_same))) (.cons (ints_dp (ns := [9, 7]) (SqL.of (n7 _ _ upd_same))) .nil)))))), rows_shaped _, rows_shaped _, _, rfl, itF (by rw [rows_same known_rows]; rfl) ?_⟩
        have S23 := S13.trans (m4.trans (s15.trans (n1.trans c2')))
        have N23 := N13.to (m4.trans (s15.trans (n1.trans c2')))
        refine ⟨_, rfl, _, rfl, by show 2 ≤ sizeLine; decide, fun b3 hb3 => ?_⟩
        have m5 := Same.new (o := .lst [.int 100, .int (-3)]) hb3
        refine ⟨xk, b3, 2, knownG, [100, -3], 1000, rfl, N23.to m5, ⟨.inl (SqL.of upd_same), by decide, by decide⟩, rfl, by decide, fun H24 q24 s24 q240 q241 => ?_⟩
        refine ⟨_, rfl, _, rfl, by show 2 ≤ sizeLine; decide, fun b4 hb4 => ?_⟩
        have m6 := Same.new (o := .lst [.int (-1), .int (-3)]) hb4
        refine ⟨_, _, ints_dp (SqL.of (m6 _ _ q241)), ints_dp (ns := [-1, -3]) (SqL.of upd_same), row_shaped _, row_shaped _, _, rfl, itT (row_same known_far) ?_⟩
        have W25 := W9.pure (S23.trans (m5.trans (s24.trans m6)))
        refine ⟨_, rfl, _, rfl, _, rfl, fun x7 dx7 hx7 hdx7 ne7 => ?_⟩
        refine ⟨_, x7, dx7, D4, n, gs4, rfl, (Same.new hdx7).trans (Same.new (by rw [upd_ne ne7.symm]; exact hx7)), hx7, upd_same, GS6.to W25.same, c1, c2, ok4, few4, fun H26 s26 N26 => ⟨rfl, ?_⟩⟩
        have N27 := (N6.to W25.same).to s26
        obtain ⟨da, la, ha, _⟩ := id N27.old
        obtain ⟨db, lb, hb', _⟩ := id N26.old
        refine ⟨⟨x, x7, da, db, _, _, rfl, rfl, ha, hb', n, gs4, N27, N26⟩, fun H28 s28 => k _ ?_⟩
        exact U.trans (W25.same.trans (s26.trans s28))
      · have W9 := W8
        refine ⟨by show 3 ≤ sizeLine; decide, fun t1 ht1 => ⟨by show 3 ≤ sizeLine; decide, fun t2 ht2 => ⟨by show 2 ≤ sizeLine; decide, fun b1 hb1 => fun xk dk hxk hdk nk => ?_⟩⟩⟩
        have m1 := Same.new (o := .tup [.str "low", .int 0, .int 1]) ht1
        have m2 := Same.new (o := .tup [.str "add", .int 0, .int 2]) ht2
        have m3 := Same.new (o := .lst [.ref t1, .ref t2]) hb1
        refine ⟨_, xk, dk, b1, 2, knownG, rfl, (Same.new hdk).trans (Same.new (by rw [upd_ne nk.symm]; exact hxk)), hxk, upd_same, ⟨[.ref t1, .ref t2], SqL.of upd_same, ((All2.nil (R := IsG K _)).snoc ⟨t1, rfl, SqT.of (m3 _ _ (m2 _ _ upd_same))⟩).snoc ⟨t2, rfl, SqT.of (m3 _ _ upd_same)⟩⟩, by decide, by decide, known_ok, by decide, fun H13 s13 N13 => ⟨rfl, ?_⟩⟩
        have S13 := ((m1.trans m2).trans m3).trans s13
        refine ⟨_, rfl, by show 2 ≤ sizeLine; decide, fun b2 hb2 => ?_⟩
        have m4 := Same.new (o := .lst [.int 0, .int 7]) hb2
        refine ⟨xk, b2, 2, knownG, [0, 7], 5, rfl, N13.to m4, ⟨.inl (SqL.of upd_same), by decide, by decide⟩, rfl, by decide, fun H15 r15 s15 R15 => ?_⟩
        refine ⟨by show 2 ≤ sizeLine; decide, fun e1 he1 => ⟨by show 2 ≤ sizeLine; decide, fun e2 he2 => ⟨by show 2 ≤ sizeLine; decide, fun e3 he3 => ⟨by show 2 ≤ sizeLine; decide, fun e4 he4 => ⟨by show 2 ≤ sizeLine; decide, fun e5 he5 => ⟨by show 2 ≤ sizeLine; decide, fun e6 he6 => ⟨by show 6 ≤ sizeLine; decide, fun e7 he7 => ?_⟩⟩⟩⟩⟩⟩⟩
        have n1 := Same.new (o := .lst [.int 0, .int 7]) he1
        have n2 := Same.new (o := .lst [.int 2, .int 7]) he2
        have n3 := Same.new (o := .lst [.int 4, .int 7]) he3
        have n4 := Same.new (o := .lst [.int 6, .int 7]) he4
        have n5 := Same.new (o := .lst [.int 8, .int 7]) he5
        have n6 := Same.new (o := .lst [.int 9, .int 7]) he6
        have n7 := Same.new (o := .lst [.ref e1, .ref e2, .ref e3, .ref e4, .ref e5, .ref e6]) he7
        have c2' := n2.trans (n3.trans (n4.trans (n5.trans (n6.trans n7))))
        refine ⟨_, rowsPy [[0, 7], [2, 7], [4, 7], [6, 7], [8, 7], [9, 7]], rws_dp (R15.rws.to (n1.trans c2')), .lst (SqL.of upd_same) (.cons (ints_dp (ns := [0, 7]) (SqL.of (c2' _ _ upd_same))) (.cons (ints_dp (ns := [2, 7]) (SqL.of ((n3.trans (n4.trans (n5.trans (n6.trans n7)))) _ _ upd_same))) (.cons (ints_dp (ns := [4, 7]) (SqL.of ((n4.trans (n5.trans (n6.trans n7))) _ _ upd_same))) (.cons (ints_dp (ns := [6, 7]) (SqL.of ((n5.trans (n6.trans n7)) _ _ upd_same))) (.cons (ints_dp (ns := [8, 7]) (SqL.of ((n6.trans n7) _ _ upd_same))) (.cons (ints_dp (ns := [9, 7]) (SqL.of (n7 _ _ upd_same))) .nil)))))), rows_shaped _, rows_shaped _, _, rfl, itF (by rw [rows_same known_rows]; rfl) ?_⟩
        have S23 := S13.trans (m4.trans (s15.trans (n1.trans c2')))
        have N23 := N13.to (m4.trans (s15.trans (n1.trans c2')))
        refine ⟨_, rfl, _, rfl, by show 2 ≤ sizeLine; decide, fun b3 hb3 => ?_⟩
        have m5 := Same.new (o := .lst [.int 100, .int (-3)]) hb3
        refine ⟨xk, b3, 2, knownG, [100, -3], 1000, rfl, N23.to m5, ⟨.inl (SqL.of upd_same), by decide, by decide⟩, rfl, by decide, fun H24 q24 s24 q240 q241 => ?_⟩
        refine ⟨_, rfl, _, rfl, by show 2 ≤ sizeLine; decide, fun b4 hb4 => ?_⟩
        have m6 := Same.new (o := .lst [.int (-1), .int (-3)]) hb4
        refine ⟨_, _, ints_dp (SqL.of (m6 _ _ q241)), ints_dp (ns := [-1, -3]) (SqL.of upd_same), row_shaped _, row_shaped _, _, rfl, itT (row_same known_far) ?_⟩
        have W25 := W9.pure (S23.trans (m5.trans (s24.trans m6)))
        refine ⟨_, rfl, _, rfl, _, rfl, fun x7 dx7 hx7 hdx7 ne7 => ?_⟩
        refine ⟨_, x7, dx7, D4, n, gs4, rfl, (Same.new hdx7).trans (Same.new (by rw [upd_ne ne7.symm]; exact hx7)), hx7, upd_same, GS6.to W25.same, c1, c2, ok4, few4, fun H26 s26 N26 => ⟨rfl, ?_⟩⟩
        have N27 := (N6.to W25.same).to s26
        obtain ⟨da, la, ha, _⟩ := id N27.old
        obtain ⟨db, lb, hb', _⟩ := id N26.old
        refine ⟨⟨x, x7, da, db, _, _, rfl, rfl, ha, hb', n, gs4, N27, N26⟩, fun H28 s28 => k _ ?_⟩
        exact U.trans (W25.same.trans (s26.trans s28))
end
end LL

namespace LL
open PySem L2 PySem.Spec PyProof.Rows
section
variable {P : Program} {w : World} {K : PySem.W.Frag} {mg : Str → Option Value} {base : Heap} {C : Addr}
def sp_law (K : PySem.W.Frag) : Sp := fun vs H Q _ => ∃ (s : Addr) (is : List Int), vs = [V.ref s] ∧ SqL K H s (is.map V.int) ∧ is.length ≤ 63 ∧ ∀ H', Q (.bl true) H'
theorem ok_law (T : Txt K mg C) {f : Addr} {fd : FuncData} (F : C8.Fun K "law" "law" s_law f fd) : FnQ NoG P w K mg base 12 f fd ["_law_script"] (sp_law K) := by
  refine fnQ0 noG_deep F sc_law (fun vs H Q E h => ?_) (fun cdv A outer s H vs Q E hr hA h => ?_)
  · obtain ⟨s, is, rfl, _⟩ := h
    rfl
  · obtain ⟨sc, is, rfl, hs, hl, k⟩ := h
    refine ⟨_, (pss_one (ps_ret (pe_callB (cr_all rfl) (by rfl) T.b_all (by decide +kernel) (pa_cons (pe_lc (own := [("_law_k", 1)]) (g := (gName 1)) (tt := tYes) rfl sc_law.nd (pi_range1 rfl T.b_range (pa_cons (pe_callB (call_max2 rfl) (by rfl) T.b_max (by decide +kernel) (pa_cons pe_int (pa_cons (pe_callB (call_min2 rfl) (by rfl) T.b_min (by decide +kernel) (pa_cons pe_int (pa_cons (pe_callB call_len_seq (by rfl) T.b_len (by decide +kernel) (pa_cons (pv 0) pa_nil)) pa_nil))) pa_nil))) pa_nil)) (blkOk_by (N := N_law) (sc := C8.fnScope s_law) (by decide +kernel)) (fun _ _ _ _ _ => (pg_name (i := 1) sc_law.nd rfl (Or.inl rfl))) (fun _ _ _ _ _ => pts_nil) (fun _ _ _ _ _ => (pe_cQ (c_law_right T) hr (by decide) hA rfl (pa_cons (C8.pe_c (c_law_pot T) hr (by decide) rfl (pa_cons (pv 0) (pa_cons (pv 1) pa_nil))) pa_nil)))) pa_nil)))), ?_⟩
    have hl' : (is.map V.int).length = is.length := List.length_map ..
    refine ⟨_, rfl, sc, _, rfl, .inl hs, _, _, rfl, _, _, rfl, ?_⟩
    rw [hl']
    generalize hN : (if (if (is.length : Int) < 2 then (is.length : Int) else 2) > 1 then (if (is.length : Int) < 2 then (is.length : Int) else 2) else 1) = N
    have hN3 : 1 ≤ N ∧ N ≤ 3 := by
      rw [← hN]
      split <;> split <;> omega
    refine ⟨N, rfl, by omega, by omega, fun D hD => lc_pure (n := N.toNat) (walk_range (lo := 0)) ((List.replicate N.toNat true).map V.bl) (by rw [List.length_map, List.length_replicate]) hD (by omega) (fun _ _ => trivial) (fun i x H' H2 Q' hi s1 y q => ?_) (fun H' s1 hd => ?_)⟩
    · obtain ⟨rfl, rfl⟩ := y
      refine ⟨rfl, _, rfl, _, rfl, sc, is, i, (by show [V.ref sc, V.int (0 + (i : Int))] = _; rw [Int.zero_add]), s1.seq hs, by omega, fun H3 a s3 ha hp => ?_⟩
      refine ⟨a, rfl, hp, fun H4 s4 => q _ _ ?_ ((same_del s3 ha).trans s4)⟩
      rw [List.getElem?_map, List.getElem?_replicate, if_pos hi]
      rfl
    · refine ⟨D, _, rfl, SqL.of hd, ?_⟩
      exact q_bl (by simp) (k _)
end
end LL

namespace LL
open PySem L2 PySem.Spec PyProof.Rows
theorem funMk {K : PySem.W.Frag} {x qual : Str} {st : Stmt} {f : Addr} {oc : Value} {od an : Option Addr} {osl : Array (Option Value)} {dV kV doc pm cdv ct : Value} (l : K.lookup f = some ⟨oc, od, .func (PySem.W.fnOf x qual (C8.fnArgs st) (C8.fnBody st) (C8.fnScope st) dV kV doc pm an cdv ct), osl⟩)
    (c : PySem.W.codeIn K cdv qual = true) : C8.Fun K x qual st f (PySem.W.fnOf x qual (C8.fnArgs st) (C8.fnBody st) (C8.fnScope st) dV kV doc pm an cdv ct) := ⟨⟨oc, od, dV, kV, doc, pm, an, cdv, ct, osl, rfl, l, c⟩⟩
theorem kb3 {K : PySem.W.Frag} {x : Str} {st : Stmt} {f : Addr} {fd : FuncData} (F : C8.Fun K x x st f fd) (df : fd.defaults = .none)
    (h : ∀ (kV doc pm : Value) (an : Option Addr) (cdv ct : Value) (m c n : Value), bindArgs (PySem.W.fnOf x x (C8.fnArgs st) (C8.fnBody st) (C8.fnScope st) .none kV doc pm an cdv ct) ⟨[], [(("many" : Str), m), (("content" : Str), c), (("net" : Str), n)]⟩ = pure [(("net" : Str), n), (("content" : Str), c), (("many" : Str), m)]) :
    KBinds K fd ["net", "content", "many"] ["many", "content", "net"] rot3 rot3 := by
  obtain ⟨oc, od, dV, kV, doc, pm, an, cdv, ct, osl, rfl, lk, hc⟩ := F.ex
  have e : dV = .none := df
  subst e
  refine ⟨fun s us ws KI hl => ?_, fun {vs us zs ws} r rz => ?_⟩
  · match us, ws, hl with
    | [], [m, c, n], _ => exact .of_eq (h kV doc pm an cdv ct m c n)
    | [], [], hl => exact absurd (show (0 : Nat) = 3 from hl) (by decide)
    | [], [_], hl => exact absurd (show (0 : Nat) = 3 from hl) (by decide)
    | [], [_, _], hl => exact absurd (show (0 : Nat) = 3 from hl) (by decide)
    | [], _ :: _ :: _ :: _ :: _, hl => exact absurd (show (0 : Nat) = 3 from hl) (by decide)
    | _ :: _, _, hl => exact absurd (show (0 : Nat) = 3 from hl) (by decide)
  · match vs, us, r, zs, ws, rz with
    | [], [], _, [], [], _ => exact .nil
    | [], [], _, [_], [_], _ => exact .nil
    | [], [], _, [_, _], [_, _], _ => exact .nil
    | [], [], _, [_, _, _], [_, _, _], .cons r1 (.cons r2 (.cons r3 .nil)) => exact .cons r3 (.cons r2 (.cons r1 .nil))
    | [], [], _, _ :: _ :: _ :: _ :: _, _ :: _ :: _ :: _ :: _, _ => exact .nil
    | _ :: _, _ :: _, _, _, _, _ => exact .nil
theorem all_mk {l : PySem.W.OpenLaw} {w : World} {K : PySem.W.Frag} {h : Heap} {mg : Str → Option Value} {fa : Addr} (X : K.In h) (G : h.Ns mainGlobals mg) (hfa : mg "law" = some (.ref fa))
    {f1 : Addr} {od1 an1 : Option Addr} {sl1 : Array (Option Value)} {oc1 kV1 dc1 pm1 cd1 ct1 : Value}
    {f2 : Addr} {od2 an2 : Option Addr} {sl2 : Array (Option Value)} {oc2 kV2 dc2 pm2 cd2 ct2 : Value}
    {f3 : Addr} {od3 an3 : Option Addr} {sl3 : Array (Option Value)} {oc3 kV3 dc3 pm3 cd3 ct3 : Value}
    {f4 : Addr} {od4 an4 : Option Addr} {sl4 : Array (Option Value)} {oc4 kV4 dc4 pm4 cd4 ct4 : Value}
    {f5 : Addr} {od5 an5 : Option Addr} {sl5 : Array (Option Value)} {oc5 kV5 dc5 pm5 cd5 ct5 : Value}
    {f6 : Addr} {od6 an6 : Option Addr} {sl6 : Array (Option Value)} {oc6 kV6 dc6 pm6 cd6 ct6 : Value}
    {f7 : Addr} {od7 an7 : Option Addr} {sl7 : Array (Option Value)} {oc7 kV7 dc7 pm7 cd7 ct7 : Value}
    {f8 : Addr} {od8 an8 : Option Addr} {sl8 : Array (Option Value)} {oc8 kV8 dc8 pm8 cd8 ct8 : Value}
    {f9 : Addr} {od9 an9 : Option Addr} {sl9 : Array (Option Value)} {oc9 kV9 dc9 pm9 cd9 ct9 : Value}
    {f10 : Addr} {od10 an10 : Option Addr} {sl10 : Array (Option Value)} {oc10 kV10 dc10 pm10 cd10 ct10 : Value}
    {f11 : Addr} {od11 an11 : Option Addr} {sl11 : Array (Option Value)} {oc11 kV11 dc11 pm11 cd11 ct11 : Value}
    {f12 : Addr} {od12 an12 : Option Addr} {sl12 : Array (Option Value)} {oc12 kV12 dc12 pm12 cd12 ct12 : Value}
    {f13 : Addr} {od13 an13 : Option Addr} {sl13 : Array (Option Value)} {oc13 kV13 dc13 pm13 cd13 ct13 : Value}
    {f14 : Addr} {od14 an14 : Option Addr} {sl14 : Array (Option Value)} {oc14 kV14 dc14 pm14 cd14 ct14 : Value}
    {f15 : Addr} {od15 an15 : Option Addr} {sl15 : Array (Option Value)} {oc15 kV15 dc15 pm15 cd15 ct15 : Value}
    {f16 : Addr} {od16 an16 : Option Addr} {sl16 : Array (Option Value)} {oc16 kV16 dc16 pm16 cd16 ct16 : Value}
    {f17 : Addr} {od17 an17 : Option Addr} {sl17 : Array (Option Value)} {oc17 kV17 dc17 pm17 cd17 ct17 : Value}
    {f18 : Addr} {od18 an18 : Option Addr} {sl18 : Array (Option Value)} {oc18 kV18 dc18 pm18 cd18 ct18 : Value}
    {f19 : Addr} {od19 an19 : Option Addr} {sl19 : Array (Option Value)} {oc19 kV19 dc19 pm19 cd19 ct19 : Value}
    {f20 : Addr} {od20 an20 : Option Addr} {sl20 : Array (Option Value)} {oc20 kV20 dc20 pm20 cd20 ct20 : Value}
    {f21 : Addr} {od21 an21 : Option Addr} {sl21 : Array (Option Value)} {oc21 kV21 dc21 pm21 cd21 ct21 : Value}
    {f22 : Addr} {od22 an22 : Option Addr} {sl22 : Array (Option Value)} {oc22 kV22 dc22 pm22 cd22 ct22 : Value}
    {f23 : Addr} {od23 an23 : Option Addr} {sl23 : Array (Option Value)} {oc23 kV23 dc23 pm23 cd23 ct23 : Value}
    {f24 : Addr} {od24 an24 : Option Addr} {sl24 : Array (Option Value)} {oc24 kV24 dc24 pm24 cd24 ct24 : Value}
    {f25 : Addr} {od25 an25 : Option Addr} {sl25 : Array (Option Value)} {oc25 kV25 dc25 pm25 cd25 ct25 : Value}
    {f26 : Addr} {od26 an26 : Option Addr} {sl26 : Array (Option Value)} {oc26 kV26 dc26 pm26 cd26 ct26 : Value}
    {f27 : Addr} {od27 an27 : Option Addr} {sl27 : Array (Option Value)} {oc27 kV27 dc27 pm27 cd27 ct27 : Value}
    {f28 : Addr} {od28 an28 : Option Addr} {sl28 : Array (Option Value)} {oc28 kV28 dc28 pm28 cd28 ct28 : Value}
    {f29 : Addr} {od29 an29 : Option Addr} {sl29 : Array (Option Value)} {oc29 kV29 dc29 pm29 cd29 ct29 : Value}
    {C : Addr}
    {tM tN : Tok}
    {tA tR : Tok}
    {aT : Addr} {dT : Option Addr} {nT : Nat} {sT : Array (Option Value)} {t1 t2 t3 t4 : Tok}
    {fo ro : Option Value}
    {TD : Addr} {dO : Option Addr} {nD : Nat} {sD : Array (Option Value)} {oD : Value} {eD : Addr}
    {f30 : Addr} {od30 an30 : Option Addr} {sl30 : Array (Option Value)} {oc30 kV30 dc30 pm30 cd30 ct30 : Value}
    {f31 : Addr} {od31 an31 : Option Addr} {sl31 : Array (Option Value)} {oc31 kV31 dc31 pm31 cd31 ct31 : Value}
    {f32 : Addr} {od32 an32 : Option Addr} {sl32 : Array (Option Value)} {oc32 kV32 dc32 pm32 cd32 ct32 : Value}
    {f33 : Addr} {od33 an33 : Option Addr} {sl33 : Array (Option Value)} {oc33 kV33 dc33 pm33 cd33 ct33 : Value}
    {f34 : Addr} {od34 an34 : Option Addr} {sl34 : Array (Option Value)} {oc34 kV34 dc34 pm34 cd34 ct34 : Value}
    {f35 : Addr} {od35 an35 : Option Addr} {sl35 : Array (Option Value)} {oc35 kV35 dc35 pm35 cd35 ct35 : Value}
    {f36 : Addr} {od36 an36 : Option Addr} {sl36 : Array (Option Value)} {oc36 kV36 dc36 pm36 cd36 ct36 : Value}
    {p37 : Addr} {r37 : List Value}
    {f37 : Addr} {od37 an37 : Option Addr} {sl37 : Array (Option Value)} {oc37 kV37 dc37 pm37 cd37 ct37 : Value}
    {p38 : Addr} {r38 : List Value}
    {f38 : Addr} {od38 an38 : Option Addr} {sl38 : Array (Option Value)} {oc38 kV38 dc38 pm38 cd38 ct38 : Value}
    (z_abs : PySem.W.nsIn K mainGlobals "abs" = some none)
    (z_all : PySem.W.nsIn K mainGlobals "all" = some none)
    (z_bool : PySem.W.nsIn K mainGlobals "bool" = some none)
    (z_divmod : PySem.W.nsIn K mainGlobals "divmod" = some none)
    (z_enumerate : PySem.W.nsIn K mainGlobals "enumerate" = some none)
    (z_int : PySem.W.nsIn K mainGlobals "int" = some none)
    (z_isinstance : PySem.W.nsIn K mainGlobals "isinstance" = some none)
    (z_len : PySem.W.nsIn K mainGlobals "len" = some none)
    (z_list : PySem.W.nsIn K mainGlobals "list" = some none)
    (z_max : PySem.W.nsIn K mainGlobals "max" = some none)
    (z_min : PySem.W.nsIn K mainGlobals "min" = some none)
    (z_range : PySem.W.nsIn K mainGlobals "range" = some none)
    (z_repr : PySem.W.nsIn K mainGlobals "repr" = some none)
    (z_str : PySem.W.nsIn K mainGlobals "str" = some none)
    (z_sum : PySem.W.nsIn K mainGlobals "sum" = some none)
    (z_tuple : PySem.W.nsIn K mainGlobals "tuple" = some none)
    (a1 : PySem.W.nsIn K mainGlobals "is_integer" = some (some (.ref f1)))
    (l1 : K.lookup f1 = some ⟨oc1, od1, .func (PySem.W.fnOf "is_integer" "is_integer" (C8.fnArgs s_is_integer) (C8.fnBody s_is_integer) (C8.fnScope s_is_integer) .none kV1 dc1 pm1 an1 cd1 ct1), sl1⟩)
    (c1 : PySem.W.codeIn K cd1 "is_integer" = true)
    (k1 : PySem.W.keepIn K (.ref f1) = true)
    (a2 : PySem.W.nsIn K mainGlobals "is_count" = some (some (.ref f2)))
    (l2 : K.lookup f2 = some ⟨oc2, od2, .func (PySem.W.fnOf "is_count" "is_count" (C8.fnArgs s_is_count) (C8.fnBody s_is_count) (C8.fnScope s_is_count) .none kV2 dc2 pm2 an2 cd2 ct2), sl2⟩)
    (c2 : PySem.W.codeIn K cd2 "is_count" = true)
    (k2 : PySem.W.keepIn K (.ref f2) = true)
    (a3 : PySem.W.nsIn K mainGlobals "is_list" = some (some (.ref f3)))
    (l3 : K.lookup f3 = some ⟨oc3, od3, .func (PySem.W.fnOf "is_list" "is_list" (C8.fnArgs s_is_list) (C8.fnBody s_is_list) (C8.fnScope s_is_list) .none kV3 dc3 pm3 an3 cd3 ct3), sl3⟩)
    (c3 : PySem.W.codeIn K cd3 "is_list" = true)
    (k3 : PySem.W.keepIn K (.ref f3) = true)
    (a4 : PySem.W.nsIn K mainGlobals "is_content" = some (some (.ref f4)))
    (l4 : K.lookup f4 = some ⟨oc4, od4, .func (PySem.W.fnOf "is_content" "is_content" (C8.fnArgs s_is_content) (C8.fnBody s_is_content) (C8.fnScope s_is_content) .none kV4 dc4 pm4 an4 cd4 ct4), sl4⟩)
    (c4 : PySem.W.codeIn K cd4 "is_content" = true)
    (k4 : PySem.W.keepIn K (.ref f4) = true)
    (a5 : PySem.W.nsIn K mainGlobals "_has_lanes" = some (some (.ref f5)))
    (l5 : K.lookup f5 = some ⟨oc5, od5, .func (PySem.W.fnOf "_has_lanes" "_has_lanes" (C8.fnArgs s_has_lanes) (C8.fnBody s_has_lanes) (C8.fnScope s_has_lanes) .none kV5 dc5 pm5 an5 cd5 ct5), sl5⟩)
    (c5 : PySem.W.codeIn K cd5 "_has_lanes" = true)
    (k5 : PySem.W.keepIn K (.ref f5) = true)
    (a6 : PySem.W.nsIn K mainGlobals "is_lane" = some (some (.ref f6)))
    (l6 : K.lookup f6 = some ⟨oc6, od6, .func (PySem.W.fnOf "is_lane" "is_lane" (C8.fnArgs s_is_lane) (C8.fnBody s_is_lane) (C8.fnScope s_is_lane) .none kV6 dc6 pm6 an6 cd6 ct6), sl6⟩)
    (c6 : PySem.W.codeIn K cd6 "is_lane" = true)
    (k6 : PySem.W.keepIn K (.ref f6) = true)
    (a7 : PySem.W.nsIn K mainGlobals "check_content" = some (some (.ref f7)))
    (l7 : K.lookup f7 = some ⟨oc7, od7, .func (PySem.W.fnOf "check_content" "check_content" (C8.fnArgs s_check_content) (C8.fnBody s_check_content) (C8.fnScope s_check_content) .none kV7 dc7 pm7 an7 cd7 ct7), sl7⟩)
    (c7 : PySem.W.codeIn K cd7 "check_content" = true)
    (k7 : PySem.W.keepIn K (.ref f7) = true)
    (a8 : PySem.W.nsIn K mainGlobals "check_lanes" = some (some (.ref f8)))
    (l8 : K.lookup f8 = some ⟨oc8, od8, .func (PySem.W.fnOf "check_lanes" "check_lanes" (C8.fnArgs s_check_lanes) (C8.fnBody s_check_lanes) (C8.fnScope s_check_lanes) .none kV8 dc8 pm8 an8 cd8 ct8), sl8⟩)
    (c8 : PySem.W.codeIn K cd8 "check_lanes" = true)
    (k8 : PySem.W.keepIn K (.ref f8) = true)
    (a9 : PySem.W.nsIn K mainGlobals "check_many" = some (some (.ref f9)))
    (l9 : K.lookup f9 = some ⟨oc9, od9, .func (PySem.W.fnOf "check_many" "check_many" (C8.fnArgs s_check_many) (C8.fnBody s_check_many) (C8.fnScope s_check_many) .none kV9 dc9 pm9 an9 cd9 ct9), sl9⟩)
    (c9 : PySem.W.codeIn K cd9 "check_many" = true)
    (k9 : PySem.W.keepIn K (.ref f9) = true)
    (a10 : PySem.W.nsIn K mainGlobals "is_gate" = some (some (.ref f10)))
    (l10 : K.lookup f10 = some ⟨oc10, od10, .func (PySem.W.fnOf "is_gate" "is_gate" (C8.fnArgs s_is_gate) (C8.fnBody s_is_gate) (C8.fnScope s_is_gate) .none kV10 dc10 pm10 an10 cd10 ct10), sl10⟩)
    (c10 : PySem.W.codeIn K cd10 "is_gate" = true)
    (k10 : PySem.W.keepIn K (.ref f10) = true)
    (a11 : PySem.W.nsIn K mainGlobals "behind_gate" = some (some (.ref f11)))
    (l11 : K.lookup f11 = some ⟨oc11, od11, .func (PySem.W.fnOf "behind_gate" "behind_gate" (C8.fnArgs s_behind_gate) (C8.fnBody s_behind_gate) (C8.fnScope s_behind_gate) .none kV11 dc11 pm11 an11 cd11 ct11), sl11⟩)
    (c11 : PySem.W.codeIn K cd11 "behind_gate" = true)
    (k11 : PySem.W.keepIn K (.ref f11) = true)
    (a12 : PySem.W.nsIn K mainGlobals "_check_gates" = some (some (.ref f12)))
    (l12 : K.lookup f12 = some ⟨oc12, od12, .func (PySem.W.fnOf "_check_gates" "_check_gates" (C8.fnArgs s_check_gates) (C8.fnBody s_check_gates) (C8.fnScope s_check_gates) .none kV12 dc12 pm12 an12 cd12 ct12), sl12⟩)
    (c12 : PySem.W.codeIn K cd12 "_check_gates" = true)
    (k12 : PySem.W.keepIn K (.ref f12) = true)
    (a13 : PySem.W.nsIn K mainGlobals "check_position" = some (some (.ref f13)))
    (l13 : K.lookup f13 = some ⟨oc13, od13, .func (PySem.W.fnOf "check_position" "check_position" (C8.fnArgs s_check_position) (C8.fnBody s_check_position) (C8.fnScope s_check_position) .none kV13 dc13 pm13 an13 cd13 ct13), sl13⟩)
    (c13 : PySem.W.codeIn K cd13 "check_position" = true)
    (k13 : PySem.W.keepIn K (.ref f13) = true)
    (a14 : PySem.W.nsIn K mainGlobals "rounds" = some (some (.ref f14)))
    (l14 : K.lookup f14 = some ⟨oc14, od14, .func (PySem.W.fnOf "rounds" "rounds" (C8.fnArgs s_rounds) (C8.fnBody s_rounds) (C8.fnScope s_rounds) .none kV14 dc14 pm14 an14 cd14 ct14), sl14⟩)
    (c14 : PySem.W.codeIn K cd14 "rounds" = true)
    (k14 : PySem.W.keepIn K (.ref f14) = true)
    (a15 : PySem.W.nsIn K mainGlobals "passed" = some (some (.ref f15)))
    (l15 : K.lookup f15 = some ⟨oc15, od15, .func (PySem.W.fnOf "passed" "passed" (C8.fnArgs s_passed) (C8.fnBody s_passed) (C8.fnScope s_passed) .none kV15 dc15 pm15 an15 cd15 ct15), sl15⟩)
    (c15 : PySem.W.codeIn K cd15 "passed" = true)
    (k15 : PySem.W.keepIn K (.ref f15) = true)
    (a16 : PySem.W.nsIn K mainGlobals "_law_pot" = some (some (.ref f16)))
    (l16 : K.lookup f16 = some ⟨oc16, od16, .func (PySem.W.fnOf "_law_pot" "_law_pot" (C8.fnArgs s_law_pot) (C8.fnBody s_law_pot) (C8.fnScope s_law_pot) .none kV16 dc16 pm16 an16 cd16 ct16), sl16⟩)
    (c16 : PySem.W.codeIn K cd16 "_law_pot" = true)
    (k16 : PySem.W.keepIn K (.ref f16) = true)
    (a17 : PySem.W.nsIn K mainGlobals "_law_draw" = some (some (.ref f17)))
    (l17 : K.lookup f17 = some ⟨oc17, od17, .func (PySem.W.fnOf "_law_draw" "_law_draw" (C8.fnArgs s_law_draw) (C8.fnBody s_law_draw) (C8.fnScope s_law_draw) .none kV17 dc17 pm17 an17 cd17 ct17), sl17⟩)
    (c17 : PySem.W.codeIn K cd17 "_law_draw" = true)
    (k17 : PySem.W.keepIn K (.ref f17) = true)
    (a18 : PySem.W.nsIn K mainGlobals "_law_pick" = some (some (.ref f18)))
    (l18 : K.lookup f18 = some ⟨oc18, od18, .func (PySem.W.fnOf "_law_pick" "_law_pick" (C8.fnArgs s_law_pick) (C8.fnBody s_law_pick) (C8.fnScope s_law_pick) .none kV18 dc18 pm18 an18 cd18 ct18), sl18⟩)
    (c18 : PySem.W.codeIn K cd18 "_law_pick" = true)
    (k18 : PySem.W.keepIn K (.ref f18) = true)
    (a19 : PySem.W.nsIn K mainGlobals "_law_gate" = some (some (.ref f19)))
    (l19 : K.lookup f19 = some ⟨oc19, od19, .func (PySem.W.fnOf "_law_gate" "_law_gate" (C8.fnArgs s_law_gate) (C8.fnBody s_law_gate) (C8.fnScope s_law_gate) .none kV19 dc19 pm19 an19 cd19 ct19), sl19⟩)
    (c19 : PySem.W.codeIn K cd19 "_law_gate" = true)
    (k19 : PySem.W.keepIn K (.ref f19) = true)
    (a20 : PySem.W.nsIn K mainGlobals "_law_gates" = some (some (.ref f20)))
    (l20 : K.lookup f20 = some ⟨oc20, od20, .func (PySem.W.fnOf "_law_gates" "_law_gates" (C8.fnArgs s_law_gates) (C8.fnBody s_law_gates) (C8.fnScope s_law_gates) .none kV20 dc20 pm20 an20 cd20 ct20), sl20⟩)
    (c20 : PySem.W.codeIn K cd20 "_law_gates" = true)
    (k20 : PySem.W.keepIn K (.ref f20) = true)
    (a21 : PySem.W.nsIn K mainGlobals "_law_content" = some (some (.ref f21)))
    (l21 : K.lookup f21 = some ⟨oc21, od21, .func (PySem.W.fnOf "_law_content" "_law_content" (C8.fnArgs s_law_content) (C8.fnBody s_law_content) (C8.fnScope s_law_content) .none kV21 dc21 pm21 an21 cd21 ct21), sl21⟩)
    (c21 : PySem.W.codeIn K cd21 "_law_content" = true)
    (k21 : PySem.W.keepIn K (.ref f21) = true)
    (a22 : PySem.W.nsIn K mainGlobals "_law_done" = some (some (.ref f22)))
    (l22 : K.lookup f22 = some ⟨oc22, od22, .func (PySem.W.fnOf "_law_done" "_law_done" (C8.fnArgs s_law_done) (C8.fnBody s_law_done) (C8.fnScope s_law_done) .none kV22 dc22 pm22 an22 cd22 ct22), sl22⟩)
    (c22 : PySem.W.codeIn K cd22 "_law_done" = true)
    (k22 : PySem.W.keepIn K (.ref f22) = true)
    (a23 : PySem.W.nsIn K mainGlobals "_law_run" = some (some (.ref f23)))
    (l23 : K.lookup f23 = some ⟨oc23, od23, .func (PySem.W.fnOf "_law_run" "_law_run" (C8.fnArgs s_law_run) (C8.fnBody s_law_run) (C8.fnScope s_law_run) .none kV23 dc23 pm23 an23 cd23 ct23), sl23⟩)
    (c23 : PySem.W.codeIn K cd23 "_law_run" = true)
    (k23 : PySem.W.keepIn K (.ref f23) = true)
    (a24 : PySem.W.nsIn K mainGlobals "_law_rounds" = some (some (.ref f24)))
    (l24 : K.lookup f24 = some ⟨oc24, od24, .func (PySem.W.fnOf "_law_rounds" "_law_rounds" (C8.fnArgs s_law_rounds) (C8.fnBody s_law_rounds) (C8.fnScope s_law_rounds) .none kV24 dc24 pm24 an24 cd24 ct24), sl24⟩)
    (c24 : PySem.W.codeIn K cd24 "_law_rounds" = true)
    (k24 : PySem.W.keepIn K (.ref f24) = true)
    (a25 : PySem.W.nsIn K mainGlobals "_law_told_right" = some (some (.ref f25)))
    (l25 : K.lookup f25 = some ⟨oc25, od25, .func (PySem.W.fnOf "_law_told_right" "_law_told_right" (C8.fnArgs s_law_told_right) (C8.fnBody s_law_told_right) (C8.fnScope s_law_told_right) .none kV25 dc25 pm25 an25 cd25 ct25), sl25⟩)
    (c25 : PySem.W.codeIn K cd25 "_law_told_right" = true)
    (k25 : PySem.W.keepIn K (.ref f25) = true)
    (a26 : PySem.W.nsIn K mainGlobals "_law_made_right" = some (some (.ref f26)))
    (l26 : K.lookup f26 = some ⟨oc26, od26, .func (PySem.W.fnOf "_law_made_right" "_law_made_right" (C8.fnArgs s_law_made_right) (C8.fnBody s_law_made_right) (C8.fnScope s_law_made_right) .none kV26 dc26 pm26 an26 cd26 ct26), sl26⟩)
    (c26 : PySem.W.codeIn K cd26 "_law_made_right" = true)
    (k26 : PySem.W.keepIn K (.ref f26) = true)
    (a27 : PySem.W.nsIn K mainGlobals "_law_long_right" = some (some (.ref f27)))
    (l27 : K.lookup f27 = some ⟨oc27, od27, .func (PySem.W.fnOf "_law_long_right" "_law_long_right" (C8.fnArgs s_law_long_right) (C8.fnBody s_law_long_right) (C8.fnScope s_law_long_right) .none kV27 dc27 pm27 an27 cd27 ct27), sl27⟩)
    (c27 : PySem.W.codeIn K cd27 "_law_long_right" = true)
    (k27 : PySem.W.keepIn K (.ref f27) = true)
    (a28 : PySem.W.nsIn K mainGlobals "_law_right" = some (some (.ref f28)))
    (l28 : K.lookup f28 = some ⟨oc28, od28, .func (PySem.W.fnOf "_law_right" "_law_right" (C8.fnArgs s_law_right) (C8.fnBody s_law_right) (C8.fnScope s_law_right) .none kV28 dc28 pm28 an28 cd28 ct28), sl28⟩)
    (c28 : PySem.W.codeIn K cd28 "_law_right" = true)
    (k28 : PySem.W.keepIn K (.ref f28) = true)
    (a29 : PySem.W.nsIn K mainGlobals "law" = some (some (.ref f29)))
    (l29 : K.lookup f29 = some ⟨oc29, od29, .func (PySem.W.fnOf "law" "law" (C8.fnArgs s_law) (C8.fnBody s_law) (C8.fnScope s_law) .none kV29 dc29 pm29 an29 cd29 ct29), sl29⟩)
    (c29 : PySem.W.codeIn K cd29 "law" = true)
    (k29 : PySem.W.keepIn K (.ref f29) = true)
    (aC : PySem.W.nsIn K mainGlobals "Net" = some (some (.ref C)))
    (pg : PySem.W.plainGet K C Str.empty = true)
    (hd : PySem.W.hasDictIn K C = true)
    (po : PySem.W.plainOver K C = true)
    (sa : PySem.W.findIn K (.ref C) "__setattr__" = some (some (.builtin "object.__setattr__")))
    (mk : PySem.W.makesIn K C = true)
    (kc : PySem.W.keepIn K (.ref C) = true)
    (nL : PySem.W.findIn K (.ref C) "_lanes" = some none)
    (nG : PySem.W.findIn K (.ref C) "_gates" = some none)
    (rd : PySem.W.readsIn K C (.type "type") = true)
    (ga : PySem.W.specialIn K (.ref C) "__getattribute__" = some (some (.builtin "type.__getattribute__")))
    (vM : PySem.W.findCls K (.ref C) (.type "type") "MOST_GATES" = some (.val (.int 400 tM)))
    (vN : PySem.W.findIn K (.ref C) "MOST_GATES" = some (some (.int 400 tN)))
    (vG : PySem.W.specialIn K (.int 400 tN) "__get__" = some none)
    (vA : PySem.W.nsIn K mainGlobals "LANES_AT_MOST" = some (some (.int 12 tA)))
    (vR : PySem.W.nsIn K mainGlobals "MOST_ROUNDS" = some (some (.int 1000 tR)))
    (vT : PySem.W.nsIn K mainGlobals "_TWO_LANE_WORDS" = some (some (.ref aT)))
    (lT : K.lookup aT = some ⟨.type "tuple", dT, .seq #[.str "low" t1, .str "high" t2, .str "sort" t3, .str "copy" t4] nT, sT⟩)
    (qa : PySem.W.findIn K (.ref C) "__class__" = some (some (.builtin "object.__class__")))
    (qn : PySem.W.specialIn K (.builtin "object.__class__") "__get__" = some (some (.builtin "getset_descriptor.__get__")))
    (qt : PySem.W.takesIn K (.builtin "object.__class__") = some true)
    (qm : PySem.W.mroIn K C (.type "object") = some true)
    (oF : PySem.W.selfFirst K C = true)
    (oR : PySem.W.findIn K (.ref C) (PySem.dunderR Operator.Mult.info.2) = some none)
    (o1 : PySem.W.findIn K (.type "int") (PySem.dunder Operator.Mult.info.2) = some fo)
    (o2 : PySem.W.findIn K (.type "int") (PySem.dunderR Operator.Mult.info.2) = some ro)
    (oS : PySem.W.subIn K (.type "int") (.ref C) = some false)
    (a30 : PySem.W.findIn K (.ref C) "__init__" = some (some (.ref f30)))
    (l30 : K.lookup f30 = some ⟨oc30, od30, .func (PySem.W.fnOf "__init__" "Net.__init__" (C8.fnArgs s_Net_init) (C8.fnBody s_Net_init) (C8.fnScope s_Net_init) (.ref TD) kV30 dc30 pm30 an30 cd30 ct30), sl30⟩)
    (c30 : PySem.W.codeIn K cd30 "Net.__init__" = true)
    (i30 : PySem.W.isFn K (.ref f30) = true)
    (lD : K.lookup TD = some ⟨oD, dO, .seq #[.ref eD] nD, sD⟩)
    (k30 : PySem.W.keepIn K (.ref f30) = true)
    (a31 : PySem.W.findIn K (.ref C) "__call__" = some (some (.ref f31)))
    (l31 : K.lookup f31 = some ⟨oc31, od31, .func (PySem.W.fnOf "__call__" "Net.__call__" (C8.fnArgs s_Net_call) (C8.fnBody s_Net_call) (C8.fnScope s_Net_call) .none kV31 dc31 pm31 an31 cd31 ct31), sl31⟩)
    (c31 : PySem.W.codeIn K cd31 "Net.__call__" = true)
    (i31 : PySem.W.isFn K (.ref f31) = true)
    (n31 : PySem.W.fnIn K f31 = true)
    (a32 : PySem.W.findIn K (.ref C) (PySem.dunder Operator.Add.info.2) = some (some (.ref f32)))
    (l32 : K.lookup f32 = some ⟨oc32, od32, .func (PySem.W.fnOf "__add__" "Net.__add__" (C8.fnArgs s_Net_add) (C8.fnBody s_Net_add) (C8.fnScope s_Net_add) .none kV32 dc32 pm32 an32 cd32 ct32), sl32⟩)
    (c32 : PySem.W.codeIn K cd32 "Net.__add__" = true)
    (i32 : PySem.W.isFn K (.ref f32) = true)
    (a33 : PySem.W.findIn K (.ref C) (PySem.dunder Operator.Mult.info.2) = some (some (.ref f33)))
    (l33 : K.lookup f33 = some ⟨oc33, od33, .func (PySem.W.fnOf "__mul__" "Net.__mul__" (C8.fnArgs s_Net_mul) (C8.fnBody s_Net_mul) (C8.fnScope s_Net_mul) .none kV33 dc33 pm33 an33 cd33 ct33), sl33⟩)
    (c33 : PySem.W.codeIn K cd33 "Net.__mul__" = true)
    (i33 : PySem.W.isFn K (.ref f33) = true)
    (a34 : PySem.W.findIn K (.ref C) "__eq__" = some (some (.ref f34)))
    (l34 : K.lookup f34 = some ⟨oc34, od34, .func (PySem.W.fnOf "__eq__" "Net.__eq__" (C8.fnArgs s_Net_eq) (C8.fnBody s_Net_eq) (C8.fnScope s_Net_eq) .none kV34 dc34 pm34 an34 cd34 ct34), sl34⟩)
    (c34 : PySem.W.codeIn K cd34 "Net.__eq__" = true)
    (i34 : PySem.W.isFn K (.ref f34) = true)
    (a35 : PySem.W.findIn K (.ref C) "__repr__" = some (some (.ref f35)))
    (l35 : K.lookup f35 = some ⟨oc35, od35, .func (PySem.W.fnOf "__repr__" "Net.__repr__" (C8.fnArgs s_Net_repr) (C8.fnBody s_Net_repr) (C8.fnScope s_Net_repr) .none kV35 dc35 pm35 an35 cd35 ct35), sl35⟩)
    (c35 : PySem.W.codeIn K cd35 "Net.__repr__" = true)
    (i35 : PySem.W.isFn K (.ref f35) = true)
    (a36 : PySem.W.findIn K (.ref C) "cut" = some (some (.ref f36)))
    (l36 : K.lookup f36 = some ⟨oc36, od36, .func (PySem.W.fnOf "cut" "Net.cut" (C8.fnArgs s_Net_cut) (C8.fnBody s_Net_cut) (C8.fnScope s_Net_cut) .none kV36 dc36 pm36 an36 cd36 ct36), sl36⟩)
    (c36 : PySem.W.codeIn K cd36 "Net.cut" = true)
    (i36 : PySem.W.isFn K (.ref f36) = true)
    (k36 : PySem.W.keepIn K (.ref f36) = true)
    (a37 : PySem.W.findIn K (.ref C) "lanes" = some (some (.ref p37)))
    (r37' : PySem.W.recIn K p37 "property" = some (.ref f37 :: r37))
    (l37 : K.lookup f37 = some ⟨oc37, od37, .func (PySem.W.fnOf "lanes" "Net.lanes" (C8.fnArgs s_Net_lanes) (C8.fnBody s_Net_lanes) (C8.fnScope s_Net_lanes) .none kV37 dc37 pm37 an37 cd37 ct37), sl37⟩)
    (c37 : PySem.W.codeIn K cd37 "Net.lanes" = true)
    (g37 : PySem.W.specialIn K (.ref p37) "__get__" = some (some (.builtin "property.__get__")))
    (t37 : PySem.W.takesIn K (.ref p37) = some true)
    (a38 : PySem.W.findIn K (.ref C) "is_plain" = some (some (.ref p38)))
    (r38' : PySem.W.recIn K p38 "property" = some (.ref f38 :: r38))
    (l38 : K.lookup f38 = some ⟨oc38, od38, .func (PySem.W.fnOf "is_plain" "Net.is_plain" (C8.fnArgs s_Net_is_plain) (C8.fnBody s_Net_is_plain) (C8.fnScope s_Net_is_plain) .none kV38 dc38 pm38 an38 cd38 ct38), sl38⟩)
    (c38 : PySem.W.codeIn K cd38 "Net.is_plain" = true)
    (g38 : PySem.W.specialIn K (.ref p38) "__get__" = some (some (.builtin "property.__get__")))
    (t38 : PySem.W.takesIn K (.ref p38) = some true)
    : ∃ fd : FuncData, (∀ (s : Shared) (v : Value), BindsTo s fd ⟨[v], []⟩ [("_law_script", v)]) ∧ ∀ base : Heap, K.In base → base.Ns mainGlobals mg → FnQ NoG l.prog w K mg base 12 fa fd ["_law_script"] (sp_law K) := by
  have b_abs : mg "abs" = none := PySem.W.mg_none_of X G z_abs
  have b_all : mg "all" = none := PySem.W.mg_none_of X G z_all
  have b_bool : mg "bool" = none := PySem.W.mg_none_of X G z_bool
  have b_divmod : mg "divmod" = none := PySem.W.mg_none_of X G z_divmod
  have b_enumerate : mg "enumerate" = none := PySem.W.mg_none_of X G z_enumerate
  have b_int : mg "int" = none := PySem.W.mg_none_of X G z_int
  have b_isinstance : mg "isinstance" = none := PySem.W.mg_none_of X G z_isinstance
  have b_len : mg "len" = none := PySem.W.mg_none_of X G z_len
  have b_list : mg "list" = none := PySem.W.mg_none_of X G z_list
  have b_max : mg "max" = none := PySem.W.mg_none_of X G z_max
  have b_min : mg "min" = none := PySem.W.mg_none_of X G z_min
  have b_range : mg "range" = none := PySem.W.mg_none_of X G z_range
  have b_repr : mg "repr" = none := PySem.W.mg_none_of X G z_repr
  have b_str : mg "str" = none := PySem.W.mg_none_of X G z_str
  have b_sum : mg "sum" = none := PySem.W.mg_none_of X G z_sum
  have b_tuple : mg "tuple" = none := PySem.W.mg_none_of X G z_tuple
  have F1 := funMk (st := s_is_integer) l1 c1
  have d_is_integer : DefAt K mg "is_integer" s_is_integer ["value"] := ⟨f1, _, ⟨F1, PySem.W.mg_of X G a1, k1⟩, C8.Fun.binds F1 rfl fun _ _ _ _ _ _ us hl => match us, hl with | [_], _ => rfl⟩
  have F2 := funMk (st := s_is_count) l2 c2
  have d_is_count : DefAt K mg "is_count" s_is_count ["value"] := ⟨f2, _, ⟨F2, PySem.W.mg_of X G a2, k2⟩, C8.Fun.binds F2 rfl fun _ _ _ _ _ _ us hl => match us, hl with | [_], _ => rfl⟩
  have F3 := funMk (st := s_is_list) l3 c3
  have d_is_list : DefAt K mg "is_list" s_is_list ["value"] := ⟨f3, _, ⟨F3, PySem.W.mg_of X G a3, k3⟩, C8.Fun.binds F3 rfl fun _ _ _ _ _ _ us hl => match us, hl with | [_], _ => rfl⟩
  have F4 := funMk (st := s_is_content) l4 c4
  have d_is_content : DefAt K mg "is_content" s_is_content ["value"] := ⟨f4, _, ⟨F4, PySem.W.mg_of X G a4, k4⟩, C8.Fun.binds F4 rfl fun _ _ _ _ _ _ us hl => match us, hl with | [_], _ => rfl⟩
  have F5 := funMk (st := s_has_lanes) l5 c5
  have d_has_lanes : DefAt K mg "_has_lanes" s_has_lanes ["value"] := ⟨f5, _, ⟨F5, PySem.W.mg_of X G a5, k5⟩, C8.Fun.binds F5 rfl fun _ _ _ _ _ _ us hl => match us, hl with | [_], _ => rfl⟩
  have F6 := funMk (st := s_is_lane) l6 c6
  have d_is_lane : DefAt K mg "is_lane" s_is_lane ["value", "lanes"] := ⟨f6, _, ⟨F6, PySem.W.mg_of X G a6, k6⟩, C8.Fun.binds F6 rfl fun _ _ _ _ _ _ us hl => match us, hl with | [_, _], _ => rfl⟩
  have F7 := funMk (st := s_check_content) l7 c7
  have d_check_content : DefAt K mg "check_content" s_check_content ["content", "lanes"] := ⟨f7, _, ⟨F7, PySem.W.mg_of X G a7, k7⟩, C8.Fun.binds F7 rfl fun _ _ _ _ _ _ us hl => match us, hl with | [_, _], _ => rfl⟩
  have F8 := funMk (st := s_check_lanes) l8 c8
  have d_check_lanes : DefAt K mg "check_lanes" s_check_lanes ["lanes", "least"] := ⟨f8, _, ⟨F8, PySem.W.mg_of X G a8, k8⟩, C8.Fun.binds F8 rfl fun _ _ _ _ _ _ us hl => match us, hl with | [_, _], _ => rfl⟩
  have F9 := funMk (st := s_check_many) l9 c9
  have d_check_many : DefAt K mg "check_many" s_check_many ["many"] := ⟨f9, _, ⟨F9, PySem.W.mg_of X G a9, k9⟩, C8.Fun.binds F9 rfl fun _ _ _ _ _ _ us hl => match us, hl with | [_], _ => rfl⟩
  have F10 := funMk (st := s_is_gate) l10 c10
  have d_is_gate : DefAt K mg "is_gate" s_is_gate ["value", "lanes"] := ⟨f10, _, ⟨F10, PySem.W.mg_of X G a10, k10⟩, C8.Fun.binds F10 rfl fun _ _ _ _ _ _ us hl => match us, hl with | [_, _], _ => rfl⟩
  have F11 := funMk (st := s_behind_gate) l11 c11
  have d_behind_gate : DefAt K mg "behind_gate" s_behind_gate ["gate", "content"] := ⟨f11, _, ⟨F11, PySem.W.mg_of X G a11, k11⟩, C8.Fun.binds F11 rfl fun _ _ _ _ _ _ us hl => match us, hl with | [_, _], _ => rfl⟩
  have F12 := funMk (st := s_check_gates) l12 c12
  have d_check_gates : DefAt K mg "_check_gates" s_check_gates ["gates", "lanes"] := ⟨f12, _, ⟨F12, PySem.W.mg_of X G a12, k12⟩, C8.Fun.binds F12 rfl fun _ _ _ _ _ _ us hl => match us, hl with | [_, _], _ => rfl⟩
  have F13 := funMk (st := s_check_position) l13 c13
  have d_check_position : DefAt K mg "check_position" s_check_position ["position", "places"] := ⟨f13, _, ⟨F13, PySem.W.mg_of X G a13, k13⟩, C8.Fun.binds F13 rfl fun _ _ _ _ _ _ us hl => match us, hl with | [_, _], _ => rfl⟩
  have F14 := funMk (st := s_rounds) l14 c14
  have d_rounds : DefAt K mg "rounds" s_rounds ["net", "content", "many"] := ⟨f14, _, ⟨F14, PySem.W.mg_of X G a14, k14⟩, C8.Fun.binds F14 rfl fun _ _ _ _ _ _ us hl => match us, hl with | [_, _, _], _ => rfl⟩
  have F15 := funMk (st := s_passed) l15 c15
  have d_passed : DefAt K mg "passed" s_passed ["net", "content", "many"] := ⟨f15, _, ⟨F15, PySem.W.mg_of X G a15, k15⟩, C8.Fun.binds F15 rfl fun _ _ _ _ _ _ us hl => match us, hl with | [_, _, _], _ => rfl⟩
  have F16 := funMk (st := s_law_pot) l16 c16
  have d_law_pot : DefAt K mg "_law_pot" s_law_pot ["_law_script", "_law_k"] := ⟨f16, _, ⟨F16, PySem.W.mg_of X G a16, k16⟩, C8.Fun.binds F16 rfl fun _ _ _ _ _ _ us hl => match us, hl with | [_, _], _ => rfl⟩
  have F17 := funMk (st := s_law_draw) l17 c17
  have d_law_draw : DefAt K mg "_law_draw" s_law_draw ["_law_pot_here", "_law_size"] := ⟨f17, _, ⟨F17, PySem.W.mg_of X G a17, k17⟩, C8.Fun.binds F17 rfl fun _ _ _ _ _ _ us hl => match us, hl with | [_, _], _ => rfl⟩
  have F18 := funMk (st := s_law_pick) l18 c18
  have d_law_pick : DefAt K mg "_law_pick" s_law_pick ["_law_pot_here", "_law_some"] := ⟨f18, _, ⟨F18, PySem.W.mg_of X G a18, k18⟩, C8.Fun.binds F18 rfl fun _ _ _ _ _ _ us hl => match us, hl with | [_, _], _ => rfl⟩
  have F19 := funMk (st := s_law_gate) l19 c19
  have d_law_gate : DefAt K mg "_law_gate" s_law_gate ["_law_pot_here", "_law_lanes"] := ⟨f19, _, ⟨F19, PySem.W.mg_of X G a19, k19⟩, C8.Fun.binds F19 rfl fun _ _ _ _ _ _ us hl => match us, hl with | [_, _], _ => rfl⟩
  have F20 := funMk (st := s_law_gates) l20 c20
  have d_law_gates : DefAt K mg "_law_gates" s_law_gates ["_law_pot_here", "_law_lanes", "_law_most"] := ⟨f20, _, ⟨F20, PySem.W.mg_of X G a20, k20⟩, C8.Fun.binds F20 rfl fun _ _ _ _ _ _ us hl => match us, hl with | [_, _, _], _ => rfl⟩
  have F21 := funMk (st := s_law_content) l21 c21
  have d_law_content : DefAt K mg "_law_content" s_law_content ["_law_pot_here", "_law_lanes"] := ⟨f21, _, ⟨F21, PySem.W.mg_of X G a21, k21⟩, C8.Fun.binds F21 rfl fun _ _ _ _ _ _ us hl => match us, hl with | [_, _], _ => rfl⟩
  have F22 := funMk (st := s_law_done) l22 c22
  have d_law_done : DefAt K mg "_law_done" s_law_done ["_law_gate_here", "_law_here"] := ⟨f22, _, ⟨F22, PySem.W.mg_of X G a22, k22⟩, C8.Fun.binds F22 rfl fun _ _ _ _ _ _ us hl => match us, hl with | [_, _], _ => rfl⟩
  have F23 := funMk (st := s_law_run) l23 c23
  have d_law_run : DefAt K mg "_law_run" s_law_run ["_law_gates_here", "_law_content_here"] := ⟨f23, _, ⟨F23, PySem.W.mg_of X G a23, k23⟩, C8.Fun.binds F23 rfl fun _ _ _ _ _ _ us hl => match us, hl with | [_, _], _ => rfl⟩
  have F24 := funMk (st := s_law_rounds) l24 c24
  have d_law_rounds : DefAt K mg "_law_rounds" s_law_rounds ["_law_gates_here", "_law_content_here", "_law_many"] := ⟨f24, _, ⟨F24, PySem.W.mg_of X G a24, k24⟩, C8.Fun.binds F24 rfl fun _ _ _ _ _ _ us hl => match us, hl with | [_, _, _], _ => rfl⟩
  have F25 := funMk (st := s_law_told_right) l25 c25
  have d_law_told_right : DefAt K mg "_law_told_right" s_law_told_right ["_law_pot_here", "_law_net", "_law_gates_here", "_law_content_here"] := ⟨f25, _, ⟨F25, PySem.W.mg_of X G a25, k25⟩, C8.Fun.binds F25 rfl fun _ _ _ _ _ _ us hl => match us, hl with | [_, _, _, _], _ => rfl⟩
  have F26 := funMk (st := s_law_made_right) l26 c26
  have d_law_made_right : DefAt K mg "_law_made_right" s_law_made_right ["_law_pot_here", "_law_net", "_law_gates_here", "_law_content_here"] := ⟨f26, _, ⟨F26, PySem.W.mg_of X G a26, k26⟩, C8.Fun.binds F26 rfl fun _ _ _ _ _ _ us hl => match us, hl with | [_, _, _, _], _ => rfl⟩
  have F27 := funMk (st := s_law_long_right) l27 c27
  have d_law_long_right : DefAt K mg "_law_long_right" s_law_long_right ["_law_pot_here", "_law_lanes"] := ⟨f27, _, ⟨F27, PySem.W.mg_of X G a27, k27⟩, C8.Fun.binds F27 rfl fun _ _ _ _ _ _ us hl => match us, hl with | [_, _], _ => rfl⟩
  have F28 := funMk (st := s_law_right) l28 c28
  have d_law_right : DefAt K mg "_law_right" s_law_right ["_law_pot_here"] := ⟨f28, _, ⟨F28, PySem.W.mg_of X G a28, k28⟩, C8.Fun.binds F28 rfl fun _ _ _ _ _ _ us hl => match us, hl with | [_], _ => rfl⟩
  have F29 := funMk (st := s_law) l29 c29
  have d_law : DefAt K mg "law" s_law ["_law_script"] := ⟨f29, _, ⟨F29, PySem.W.mg_of X G a29, k29⟩, C8.Fun.binds F29 rfl fun _ _ _ _ _ _ us hl => match us, hl with | [_], _ => rfl⟩
  have F30 := funMk (st := s_Net_init) l30 c30
  have F31 := funMk (st := s_Net_call) l31 c31
  have F32 := funMk (st := s_Net_add) l32 c32
  have F33 := funMk (st := s_Net_mul) l33 c33
  have F34 := funMk (st := s_Net_eq) l34 c34
  have F35 := funMk (st := s_Net_repr) l35 c35
  have F36 := funMk (st := s_Net_cut) l36 c36
  have F37 := funMk (st := s_Net_lanes) l37 c37
  have F38 := funMk (st := s_Net_is_plain) l38 c38
  have cl : Cls K C := ⟨pg, hd, po, sa⟩
  have bI : Binds K (PySem.W.fnOf "__init__" "Net.__init__" (C8.fnArgs s_Net_init) (C8.fnBody s_Net_init) (C8.fnScope s_Net_init) (.ref TD) kV30 dc30 pm30 an30 cd30 ct30) ["self", "lanes", "gates"] [] := by
    have FD : FunD K "__init__" "Net.__init__" (C8.fnArgs s_Net_init) (C8.fnBody s_Net_init) (C8.fnScope s_Net_init) [V.ref eD] [] f30 (PySem.W.fnOf "__init__" "Net.__init__" (C8.fnArgs s_Net_init) (C8.fnBody s_Net_init) (C8.fnScope s_Net_init) (.ref TD) kV30 dc30 pm30 an30 cd30 ct30) := ⟨⟨oc30, od30, .ref TD, kV30, dc30, pm30, an30, cd30, ct30, sl30, rfl, l30, c30, .inr ⟨(by intro z; cases z), TD, _, [Value.ref eD], nD, rfl, lD, rfl, .cons rfl .nil⟩, .inl rfl⟩, k30⟩
    obtain ⟨ds, hv, hb⟩ := FD.binds1 (ps := ["self", "lanes", "gates"]) 3 1 (by intro z; cases z) (by rfl) fun T kV doc pm an cdv ct us its h1 h2 => match us, h1, its, h2 with | [_, _, _], _, [_], _ => ⟨_, rfl, rfl⟩
    cases hv
    exact hb
  have T : Txt K mg C := {
    b_abs := b_abs
    b_all := b_all
    b_bool := b_bool
    b_divmod := b_divmod
    b_enumerate := b_enumerate
    b_int := b_int
    b_isinstance := b_isinstance
    b_len := b_len
    b_list := b_list
    b_max := b_max
    b_min := b_min
    b_range := b_range
    b_repr := b_repr
    b_str := b_str
    b_sum := b_sum
    b_tuple := b_tuple
    d_is_integer := d_is_integer
    d_is_count := d_is_count
    d_is_list := d_is_list
    d_is_content := d_is_content
    d_has_lanes := d_has_lanes
    d_is_lane := d_is_lane
    d_check_content := d_check_content
    d_check_lanes := d_check_lanes
    d_check_many := d_check_many
    d_is_gate := d_is_gate
    d_behind_gate := d_behind_gate
    d_check_gates := d_check_gates
    d_check_position := d_check_position
    d_rounds := d_rounds
    d_passed := d_passed
    d_law_pot := d_law_pot
    d_law_draw := d_law_draw
    d_law_pick := d_law_pick
    d_law_gate := d_law_gate
    d_law_gates := d_law_gates
    d_law_content := d_law_content
    d_law_done := d_law_done
    d_law_run := d_law_run
    d_law_rounds := d_law_rounds
    d_law_told_right := d_law_told_right
    d_law_made_right := d_law_made_right
    d_law_long_right := d_law_long_right
    d_law_right := d_law_right
    d_law := d_law
    gLANES_AT_MOST := ⟨_, PySem.W.mg_of X G vA, ⟨_, rfl⟩⟩
    gMOST_ROUNDS := ⟨_, PySem.W.mg_of X G vR, ⟨_, rfl⟩⟩
    gTWO := ⟨aT, PySem.W.mg_of X G vT, fun H => .inr ⟨_, _, _, lT, rfl, rfl, by show 4 ≤ sizeLine; decide, .cons ⟨_, rfl⟩ (.cons ⟨_, rfl⟩ (.cons ⟨_, rfl⟩ (.cons ⟨_, rfl⟩ .nil)))⟩⟩
    cl := cl
    mgC := PySem.W.mg_of X G aC
    nL := nL
    nG := nG
    cM := ⟨_, _, ⟨rd, ga⟩, ⟨vM, ⟨_, rfl⟩⟩⟩
    cI := ⟨_, vN, ⟨_, rfl⟩, vG, by decide⟩
    i_init := ⟨_, _, F30, ⟨mk, a30, i30, kc⟩, bI⟩
    i_cut := ⟨_, _, F36, ⟨a36, i36, k36⟩, C8.Fun.binds F36 rfl fun _ _ _ _ _ _ us hl => match us, hl with | [_, _], _ => rfl⟩
    i_call := ⟨_, _, F31, ⟨a31, i31, n31⟩, C8.Fun.binds F31 rfl fun _ _ _ _ _ _ us hl => match us, hl with | [_, _], _ => rfl⟩
    i_lanes := ⟨_, _, _, F37, ⟨a37, g37, t37, _, r37'⟩, C8.Fun.binds F37 rfl fun _ _ _ _ _ _ us hl => match us, hl with | [_], _ => rfl⟩
    i_plain := ⟨_, _, _, F38, ⟨a38, g38, t38, _, r38'⟩, C8.Fun.binds F38 rfl fun _ _ _ _ _ _ us hl => match us, hl with | [_], _ => rfl⟩
    i_eq := ⟨_, _, F34, a34, i34, C8.Fun.binds F34 rfl fun _ _ _ _ _ _ us hl => match us, hl with | [_, _], _ => rfl⟩
    i_repr := ⟨_, _, F35, a35, i35, C8.Fun.binds F35 rfl fun _ _ _ _ _ _ us hl => match us, hl with | [_], _ => rfl⟩
    i_add := ⟨_, _, F32, a32, i32, C8.Fun.binds F32 rfl fun _ _ _ _ _ _ us hl => match us, hl with | [_, _], _ => rfl⟩
    i_mul := ⟨_, _, F33, a33, i33, C8.Fun.binds F33 rfl fun _ _ _ _ _ _ us hl => match us, hl with | [_, _], _ => rfl⟩
    o_first := oF
    o_rmul := oR
    o_int1 := ⟨_, o1⟩
    o_int2 := ⟨_, o2⟩
    o_sub := oS
    q_ha := qa
    q_hn := qn
    q_ht := qt
    q_hm := qm
    k_rounds := ⟨_, _, ⟨F14, PySem.W.mg_of X G a14, k14⟩, kb3 F14 rfl fun _ _ _ _ _ _ _ _ _ => rfl⟩
    k_passed := ⟨_, _, ⟨F15, PySem.W.mg_of X G a15, k15⟩, kb3 F15 rfl fun _ _ _ _ _ _ _ _ _ => rfl⟩ }
  have e := hfa.symm.trans (PySem.W.mg_of X G a29)
  cases e
  exact ⟨_, fun s v => .of_eq rfl, fun base _ _ => ok_law T F29⟩
theorem walk {l : PySem.W.OpenLaw} {q : Program} {loose : List Str} {XP : (Str → Option Value) → Heap → Prop} {YP : World → Heap → Prop} {d : DefRec} {K : Params → PySem.W.Frag} (hn : l.most = some 63) (hdf : d.params.defaults = [])
    (hY : ∀ (w : World) (h : Heap), YP w h → (K w.params).In h)
    (F : ∀ (w : World) (mg : Str → Option Value) (fa : Addr) (h : Heap), (K w.params).In h → h.Ns mainGlobals mg → mg d.name = some (.ref fa) →
      ∃ fd : FuncData, (∀ (s : Shared) (u : Value), BindsTo s fd ⟨[u], []⟩ [("_law_script", u)]) ∧ ∀ base : Heap, (K w.params).In base → base.Ns mainGlobals mg → FnQ NoG l.prog w (K w.params) mg base 12 fa fd ["_law_script"] (sp_law (K w.params))) :
    PySem.W.WalkO q loose XP YP l.row.toRowW d [] (fun f vs => PySem.call f vs) :=
  walkQ (n := 63) (x := "_law_script") (sp := fun K => sp_law K) hn (by decide) hdf ⟨rfl, by decide, by decide⟩ hY F fun K G a ns hl hS => ⟨a, ns, rfl, hS, hl, fun _ => rfl⟩
end LL

open PySem PySem.W PyProof.Rows in
set_option maxRecDepth 100000 in
set_option maxHeartbeats 0 in
theorem PySem.Challenge.cw_lanelots_k15_whole_rounds_holds : PySem.Challenge.rw_lanelots_k15_whole_rounds.Holds := by
  w_on; o_law; k_head; (case hw => w_witness2)
  k_fill
  refine LL.walk (l := PySem.Challenge.rw_lanelots_k15_whole_rounds) rfl rfl (fun w h Y => PySem.W.kIn_of Y) ?F
  case F =>
    intro w mg fa h KX G hmg
    refine' LL.all_mk KX G hmg ?z_abs ?z_all ?z_bool ?z_divmod ?z_enumerate ?z_int ?z_isinstance ?z_len ?z_list ?z_max ?z_min ?z_range ?z_repr ?z_str ?z_sum ?z_tuple ?a1 ?l1 ?c1 ?k1 ?a2 ?l2 ?c2 ?k2 ?a3 ?l3 ?c3 ?k3 ?a4 ?l4 ?c4 ?k4 ?a5 ?l5 ?c5 ?k5 ?a6 ?l6 ?c6 ?k6 ?a7 ?l7 ?c7 ?k7 ?a8 ?l8 ?c8 ?k8 ?a9 ?l9 ?c9 ?k9 ?a10 ?l10 ?c10 ?k10 ?a11 ?l11 ?c11 ?k11 ?a12 ?l12 ?c12 ?k12 ?a13 ?l13 ?c13 ?k13 ?a14 ?l14 ?c14 ?k14 ?a15 ?l15 ?c15 ?k15 ?a16 ?l16 ?c16 ?k16 ?a17 ?l17 ?c17 ?k17 ?a18 ?l18 ?c18 ?k18 ?a19 ?l19 ?c19 ?k19 ?a20 ?l20 ?c20 ?k20 ?a21 ?l21 ?c21 ?k21 ?a22 ?l22 ?c22 ?k22 ?a23 ?l23 ?c23 ?k23 ?a24 ?l24 ?c24 ?k24 ?a25 ?l25 ?c25 ?k25 ?a26 ?l26 ?c26 ?k26 ?a27 ?l27 ?c27 ?k27 ?a28 ?l28 ?c28 ?k28 ?a29 ?l29 ?c29 ?k29 ?aC ?pg ?hd ?po ?sa ?mk ?kc ?nL ?nG ?rd ?ga ?vM ?vN ?vG ?vA ?vR ?vT ?lT ?qa ?qn ?qt ?qm ?oF ?oR ?o1 ?o2 ?oS ?a30 ?l30 ?c30 ?i30 ?lD ?k30 ?a31 ?l31 ?c31 ?i31 ?n31 ?a32 ?l32 ?c32 ?i32 ?a33 ?l33 ?c33 ?i33 ?a34 ?l34 ?c34 ?i34 ?a35 ?l35 ?c35 ?i35 ?a36 ?l36 ?c36 ?i36 ?k36 ?a37 ?r37' ?l37 ?c37 ?g37 ?t37 ?a38 ?r38' ?l38 ?c38 ?g38 ?t38
    (case z_abs => k_is)
    (case z_all => k_is)
    (case z_bool => k_is)
    (case z_divmod => k_is)
    (case z_enumerate => k_is)
    (case z_int => k_is)
    (case z_isinstance => k_is)
    (case z_len => k_is)
    (case z_list => k_is)
    (case z_max => k_is)
    (case z_min => k_is)
    (case z_range => k_is)
    (case z_repr => k_is)
    (case z_str => k_is)
    (case z_sum => k_is)
    (case z_tuple => k_is)
    (case a1 => k_is)
    (case l1 => k_is)
    (case c1 => k_is)
    (case k1 => k_is)
    (case a2 => k_is)
    (case l2 => k_is)
    (case c2 => k_is)
    (case k2 => k_is)
    (case a3 => k_is)
    (case l3 => k_is)
    (case c3 => k_is)
    (case k3 => k_is)
    (case a4 => k_is)
    (case l4 => k_is)
    (case c4 => k_is)
    (case k4 => k_is)
    (case a5 => k_is)
    (case l5 => k_is)
    (case c5 => k_is)
    (case k5 => k_is)
    (case a6 => k_is)
    (case l6 => k_is)
    (case c6 => k_is)
    (case k6 => k_is)
    (case a7 => k_is)
    (case l7 => k_is)
    (case c7 => k_is)
    (case k7 => k_is)
    (case a8 => k_is)
    (case l8 => k_is)
    (case c8 => k_is)
    (case k8 => k_is)
    (case a9 => k_is)
    (case l9 => k_is)
    (case c9 => k_is)
    (case k9 => k_is)
    (case a10 => k_is)
    (case l10 => k_is)
    (case c10 => k_is)
    (case k10 => k_is)
    (case a11 => k_is)
    (case l11 => k_is)
    (case c11 => k_is)
    (case k11 => k_is)
    (case a12 => k_is)
    (case l12 => k_is)
    (case c12 => k_is)
    (case k12 => k_is)
    (case a13 => k_is)
    (case l13 => k_is)
    (case c13 => k_is)
    (case k13 => k_is)
    (case a14 => k_is)
    (case l14 => k_is)
    (case c14 => k_is)
    (case k14 => k_is)
    (case a15 => k_is)
    (case l15 => k_is)
    (case c15 => k_is)
    (case k15 => k_is)
    (case a16 => k_is)
    (case l16 => k_is)
    (case c16 => k_is)
    (case k16 => k_is)
    (case a17 => k_is)
    (case l17 => k_is)
    (case c17 => k_is)
    (case k17 => k_is)
    (case a18 => k_is)
    (case l18 => k_is)
    (case c18 => k_is)
    (case k18 => k_is)
    (case a19 => k_is)
    (case l19 => k_is)
    (case c19 => k_is)
    (case k19 => k_is)
    (case a20 => k_is)
    (case l20 => k_is)
    (case c20 => k_is)
    (case k20 => k_is)
    (case a21 => k_is)
    (case l21 => k_is)
    (case c21 => k_is)
    (case k21 => k_is)
    (case a22 => k_is)
    (case l22 => k_is)
    (case c22 => k_is)
    (case k22 => k_is)
    (case a23 => k_is)
    (case l23 => k_is)
    (case c23 => k_is)
    (case k23 => k_is)
    (case a24 => k_is)
    (case l24 => k_is)
    (case c24 => k_is)
    (case k24 => k_is)
    (case a25 => k_is)
    (case l25 => k_is)
    (case c25 => k_is)
    (case k25 => k_is)
    (case a26 => k_is)
    (case l26 => k_is)
    (case c26 => k_is)
    (case k26 => k_is)
    (case a27 => k_is)
    (case l27 => k_is)
    (case c27 => k_is)
    (case k27 => k_is)
    (case a28 => k_is)
    (case l28 => k_is)
    (case c28 => k_is)
    (case k28 => k_is)
    (case a29 => k_is)
    (case l29 => k_is)
    (case c29 => k_is)
    (case k29 => k_is)
    (case aC => k_is)
    (case pg => k_is)
    (case hd => k_is)
    (case po => k_is)
    (case sa => k_is)
    (case mk => k_is)
    (case kc => k_is)
    (case nL => k_is)
    (case nG => k_is)
    (case rd => k_is)
    (case ga => k_is)
    (case vM => k_is)
    (case vN => k_is)
    (case vG => k_is)
    (case vA => k_is)
    (case vR => k_is)
    (case vT => k_is)
    (case lT => k_is)
    (case qa => k_is)
    (case qn => k_is)
    (case qt => k_is)
    (case qm => k_is)
    (case oF => k_is)
    (case oR => k_is)
    (case o1 => k_is)
    (case o2 => k_is)
    (case oS => k_is)
    (case a30 => k_is)
    (case l30 => k_is)
    (case c30 => k_is)
    (case i30 => k_is)
    (case lD => k_is)
    (case k30 => k_is)
    (case a31 => k_is)
    (case l31 => k_is)
    (case c31 => k_is)
    (case i31 => k_is)
    (case n31 => k_is)
    (case a32 => k_is)
    (case l32 => k_is)
    (case c32 => k_is)
    (case i32 => k_is)
    (case a33 => k_is)
    (case l33 => k_is)
    (case c33 => k_is)
    (case i33 => k_is)
    (case a34 => k_is)
    (case l34 => k_is)
    (case c34 => k_is)
    (case i34 => k_is)
    (case a35 => k_is)
    (case l35 => k_is)
    (case c35 => k_is)
    (case i35 => k_is)
    (case a36 => k_is)
    (case l36 => k_is)
    (case c36 => k_is)
    (case i36 => k_is)
    (case k36 => k_is)
    (case a37 => k_is)
    (case r37' => k_is)
    (case l37 => k_is)
    (case c37 => k_is)
    (case g37 => k_is)
    (case t37 => k_is)
    (case a38 => k_is)
    (case r38' => k_is)
    (case l38 => k_is)
    (case c38 => k_is)
    (case g38 => k_is)
    (case t38 => k_is)
