import PyProof.Rows.All
import Wide.All
import OpenK.AllK
import Wide.FinOn
import HandS.ForMost
import HandS.Codes
import HandS.Walk
import HandS.DictComp
import HandS.ListItems
import HandS.Property
import HandS.Wide
import HandS.Style
import HandS.More
import HandS.Defaults
import HandS.MakeKwOnly
import HandS.IsInst
import HandS.SetBool
import HandS.Strs
import HandS.Zip
import HandS.SetFor
import HandS.TryOnly
import HandS.Star
import HandS.Conv
import HandS.Defaults
import HandS.SortInts
import HandS.MakeKw
import HandS.DeepEq
import HandS.OwnEq
import PySem.Challenge.RW_dueclocks_k20_rules_without_changes
set_option Elab.async false
set_option linter.all false
set_option maxRecDepth 100000
set_option maxHeartbeats 4000000
namespace DK
open PySem PySem.Spec PyProof.Rows L2

/-- a def that is only run where no repr is under way -/
structure FnG (P : Program) (w : World) (K : PySem.W.Frag) (mg : Str → Option Value) (b0 : Heap) (k : Nat) (f : Addr)
    (fd : FuncData) (ps : List Str) (sp : Sp) : Prop where
  size : ∀ vs H Q E, sp vs H Q E → vs.length = ps.length
  go : ∀ (B : Around) (stk : List Env) (s : Shared) (H : Hp) (ar : Args) (us : List Value) (vs : List V) (Q : VK) (E : XK),
    B.guards = some [] → Room k B → Env0 P w K mg b0 B stk s H → BindsTo s fd ar (ps.zip us) → Vals vs us → sp vs H Q E →
      codeAny (model P w) B (.call (.ref f) ar) (CR CX0 stk P w H s Q E) s

section
variable {P : Program} {w : World} {K : PySem.W.Frag} {mg : Str → Option Value} {b0 : Heap}

theorem okG {x qual : Str} {st : Stmt} {f : Addr} {fd : FuncData} {N ps : List Str} {k : Nat} {sp : Sp}
    (F : Fun K x qual st f fd) (S : FnScope N ps (defScope st)) (size : ∀ vs H Q E, sp vs H Q E → vs.length = ps.length)
    (body : ∀ (cdv : Value) (B : Around) (stk : List Env) (s : Shared) (H : Hp) (vs : List V) (Q : VK) (E : XK),
      B.guards = some [] → Room k (B.deeper (envOfC qual (defScope st) s.heap.objs.size f cdv)) → sp vs H Q E →
      ∃ t, PSs (cxOf CX0 P w K mg b0 N qual (defScope st) f cdv B stk s H E).nox (defBody st) t ∧
        t { nx := fun _ J => Q .non J, rt := Q } (start N vs) H) : FnG P w K mg b0 (k + 1) f fd ps sp := by
  obtain ⟨oc, od, kV, dc, pm, an, cv, ct, osl, rfl, hf, hcode⟩ := F.ex
  refine ⟨size, fun B stk s H ar us vs Q E hgd hr env hbi hv hs => ?_⟩
  have hlen := size _ _ _ _ hs
  have inK : K.In s.heap := env.mod.kin.keeps fun c u g => (env.bs c u g).1
  have noL : s.heap.NoLimit := env.mod.nolimit.keeps fun c u g => (env.bs c u g).1
  have kinds : ∀ z ∈ ps.zip us, (defScope st).names.lookup z.1 = some .local ∨
      ((defScope st).names.lookup z.1 = some .cell ∧
        ((cellsFrom (s.heap.objs.size + 1) (defScope st).names []).lookup z.1).isSome = true) := by
    rintro ⟨n, v⟩ hz
    rcases S.par n (List.of_mem_zip hz).1 with g | g
    · exact Or.inl g
    · exact Or.inr ⟨g, PySem.W.cellsFrom_some _ _ _ (Or.inl g)⟩
  refine codeAny_call_function hr.depth (inK _ _ hf) rfl S.co S.gen rfl (PySem.W.codeRec_of inK hcode) (hbi _ _ _ _ ?_)
  refine wpAny_newFunctionEnv_cells S.kind kinds fun en hen s2 inc => ?_
  subst hen
  refine ⟨noL.keeps inc.toInCall.keep, codeAny_func ?_⟩
  obtain ⟨t, ht0, hq⟩ := body cv B stk s H vs Q E hgd (hr.deeper _) hs
  have ht := ht0.nox
  have I : Inv (cxOf CX0 P w K mg b0 N qual (defScope st) f cv B stk s H E) [] (start N vs) H s2 := inv_start S hr.hd env hlen hv inc
  refine wpAny_mono (ht.run [] s2 (start N vs) H _ I hq) (fun fl s3 h3 => ?_) fun e s3 h3 => h3
  have close : ∀ {τ : L2.St} {J : Hp} {v : V} {u : Value}, Inv (cxOf CX0 P w K mg b0 N qual (defScope st) f cv B stk s H E) [] τ J s3 →
      RelV v u → Q v J → CE stk P w H s Q u s3 := fun {τ J v u} I3 rv q => ⟨v, J, I3.os, I3.bare, I3.base, I3.hok, rv, q⟩
  cases fl with
  | next =>
    obtain ⟨τ, J, I3, q⟩ := h3
    exact close (v := V.non) (u := Value.none) I3 rfl q
  | ret u =>
    obtain ⟨v, τ, J, I3, rv, q⟩ := h3
    exact close I3 rv q
  | cont =>
    obtain ⟨_, _, _, q⟩ := h3
    exact q.elim
  | brk =>
    obtain ⟨_, _, _, q⟩ := h3
    exact q.elim
end

section
variable {X : Cx}
/-- f(e, ..) of such a def -/
theorem pe_callG {k : Nat} {f : Addr} {fd : FuncData} {ps : List Str} {sp : Sp} {x : Str} {p pos : Pos} {e : Expr} {es : List Expr} {t : TA}
    (F : FnG X.prog X.w X.K X.mg X.base k f fd ps sp) (hgd : X.A.guards = some []) (hr : Room k X.A) (hg : Gl X x)
    (hm : X.mg x = some (.ref f)) (hk : PySem.W.keepIn X.K (.ref f) = true) (hb : Binds X.K fd ps []) (ha : PA X (e :: es) t)
    (hdb : (x == ("__debug__" : Str)) = false := by decide)
    (he : starEach (e :: es) X.env = (false, eval e X.env) :: starEach es X.env := by rfl)
    (hpl : (backTo pos (starEach es X.env)).any (·.1) = false := by rfl) :
    PE X (.Call (.Name x p) (e :: es) [] pos) (tCall sp [] E0 t) := by
  refine ⟨fun pins s σ H Q I h => ?_⟩
  refine wpAny_Call_Name_kw (ld_glob I hg hm ?_ hdb)
  refine PySem.W.callWith_K (h₀ := X.base) I.ok.mod.kin hk (thn (ha.run pos pins s σ H _ I h) fun us s1 hh => ?_) he hpl
  obtain ⟨vs, J, I1, r, q⟩ := hh
  refine ⟨I1.kIn, ?_⟩
  rw [List.append_nil] at q
  have hl : us.length = ps.length := r.length.symm.trans (F.size _ _ _ _ q)
  have bi := hb s1 us I1.kIn (by rw [List.append_nil]; exact hl)
  rw [List.append_nil] at bi
  refine wpAny_call (codeAny_mono (F.go X.A X.stack s1 J ⟨us, []⟩ us vs Q E0 hgd hr I1.env0 bi r q) fun res s2 hq => ?_)
  cases res with
  | error er => exact False.elim hq
  | ok fl =>
    cases fl with
    | ret u => exact I1.after hq
    | next => exact False.elim hq
    | brk => exact False.elim hq
    | cont => exact False.elim hq

/-- repr(x), x a list or a tuple of data -/
def rRepr (K : PySem.W.Frag) : List V → Hp → VK → Prop := fun xs H Q => ∃ (a : Addr) (d : PyData), xs = [.ref a] ∧ Dp K H (.ref a) d ∧
  d.showable = true ∧ d.hasDict = false ∧ d.depth ≤ 60 ∧ d.shown.length ≤ sizeLine ∧ Q (.str d.shown) H
theorem call_repr (hgd : X.A.guards = some []) (hu : X.A.units + 64 < cLine) : CallR X (.builtin "repr") (rRepr X.K) := by
  intro pins s σ H xs us Q I r h
  obtain ⟨a, d, rfl, hd, hs, hn, hdp, hz, q⟩ := h
  cases r with
  | cons r1 r2 =>
    cases r2
    rename_i u
    obtain rfl : u = Value.ref a := r1
    obtain ⟨as, rd⟩ := Dp.reads I d _ _ hd (show RelV (V.ref a) (Value.ref a) from rfl)
    refine repr_of_reads' rd hs (PyData.noDict_hsm hn) hgd (by omega) (fun _ _ e => e) (fun h' u tk hk => ?_) hz
    exact ⟨.str d.shown, H, I.kept hk, ⟨u, rfl⟩, q⟩
end

/-- what is hidden of the heap behind the top: the script alone, where it is not the module's own -/
structure Veil (P : Program) (w : World) (K : PySem.W.Frag) (h : Heap) (a : Addr) (ns : List Int) (H : Hp) : Prop where
  only : Only H
  at_ : SqL K H a (ns.map V.int)
  ok : HOk P w H h
  one : ∀ c, H c ≠ none → c = a
  out : H a ≠ none → K.lookup a = none

theorem veil_of {P : Program} {w : World} {K : PySem.W.Frag} {h : Heap} {a : Addr} {us : List Value} {ns : List Int} (inK : K.In h)
    (ha : h.get? a = some { cls := .type "list", data := .seq us.toArray }) (hi : IntsAre us ns) (hz : ns.length ≤ sizeLine) :
    ∃ H, Veil P w K h a ns H := by
  have rv := vals_ints hi
  cases hk : K.lookup a with
  | some o =>
    have e := (inK a o hk).symm.trans ha
    cases e
    refine ⟨fun _ => none, fun _ => Or.inl rfl, Or.inr ⟨_, us.toArray, _, hk, rfl, rfl, rfl, ?_, ?_⟩, fun c u z => ?_, fun c z => absurd rfl z, fun z => absurd rfl z⟩
    · rw [List.size_toArray, hi.length]
      exact hz
    · simpa using rv
    · exact nomatch (show (none : Option HO) = some u from z)
  | none =>
    let O : Obj := { cls := .type "list", data := .seq us.toArray }
    let H : Hp := fun c => if c = a then some (.frz O (.lst (ns.map V.int))) else none
    have hA : H a = some (.frz O (.lst (ns.map V.int))) := if_pos rfl
    have hN : ∀ c, c ≠ a → H c = none := fun c g => if_neg g
    refine ⟨H, fun c => ?_, Or.inl (Or.inr ⟨O, hA⟩), fun c u z => ?_, fun c z => ?_, fun _ => hk⟩
    · by_cases g : c = a
      · subst g
        exact Or.inr ⟨_, _, hA⟩
      · exact Or.inl (hN c g)
    · by_cases g : c = a
      · subst g
        have z2 := hA.symm.trans z
        cases z2
        refine ⟨ha, ?_, us, _, rv, ha⟩
        rw [List.length_map]
        exact hz
      · exact nomatch (hN c g).symm.trans z
    · by_cases g : c = a
      · exact g
      · exact absurd (hN c g) z

theorem lawG {P : Program} {w : World} {K : PySem.W.Frag} {mg mb : Str → Option Value} {k : Nat} {fa a : Addr} {fd : FuncData} {x : Str} {sp : Sp} {s : Shared} {us : List Value} {ns : List Int}
    (inK : K.In s.heap) (hmg : s.heap.Ns mainGlobals mg) (hmb : s.heap.Ns builtinsNs mb) (hbo : ∀ y : Str, y ≠ "__name__" → mb y = bootBuiltins y)
    (noL : s.heap.NoLimit) (gen : s.gens = #[]) (ha : s.heap.get? a = some { cls := .type "list", data := .seq us.toArray })
    (hi : IntsAre us ns) (hz : ns.length ≤ sizeLine) (hr : Room k callerA)
    (F : ∀ b0 : Heap, K.In b0 → b0.Ns mainGlobals mg → FnG P w K mg b0 k fa fd [x] sp)
    (bind : ∀ (t : Shared) (u : Value), BindsTo t fd ⟨[u], []⟩ [(x, u)])
    (hsp : ∀ H : Hp, Only H → SqL K H a (ns.map V.int) → sp [.ref a] H (fun v _ => v = .bl true) E0) :
    codeAny (model P w) callerA (.call (.ref fa) ⟨[.ref a], []⟩)
      (fun r t => r = .ok (.ret (.bool true)) ∧ OldK s.heap t.heap ∧ t.os = s.os ∧ AllBare t.gens) s := by
  obtain ⟨H, W⟩ := veil_of (P := P) (w := w) inK ha hi hz
  have through : ∀ {c : Addr} {o : Obj}, s.heap.get? c = some o → H c = none → (hidT s.heap H).get? c = some o := fun g n => hidT_get g n
  have dicts : ∀ {c : Addr} {o : Obj} {es : Array DictEntry} {ep : Nat}, s.heap.get? c = some o → o.data = .dict es ep → H c = none := by
    intro c o es ep g d
    by_cases n : H c = none
    · exact n
    · have := W.one c n
      subst this
      rw [ha] at g
      cases g
      exact nomatch d
  have names : ∀ {c : Addr} {m : Str → Option Value}, s.heap.Ns c m → (hidT s.heap H).Ns c m := fun {c m} ⟨o, es, ep, g, d, r⟩ => ⟨o, es, ep, through g (dicts g d), d, r⟩
  have inB : K.In (hidT s.heap H) := by
    intro c o g
    refine through (inK c o g) ?_
    by_cases n : H c = none
    · exact n
    · have e := W.one c n
      subst e
      rw [W.out n] at g
      exact nomatch g
  have md : Mod K mg (hidT s.heap H) := ⟨inB, names hmg, ⟨mb, names hmb, hbo⟩, noL.elim fun mc q => ⟨mc, names q.1, q.2⟩⟩
  have nil : ∀ c : Addr, c ∉ ([] : List Addr) := fun c q => nomatch q
  have env : Env0 P w K mg (hidT s.heap H) callerA [] s H :=
    ⟨rfl, md, fun c o g => of_hidT g, Nat.le_of_eq (hidT_size _ _), trivial, fun c q => absurd q (nil c), W.ok, .of_eq gen⟩
  refine codeAny_mono ((F _ inB (names hmg)).go callerA [] s H ⟨[.ref a], []⟩ [.ref a] [.ref a] _ _ rfl hr env (bind s (.ref a)) (.cons rfl .nil) (hsp H W.only W.at_)) fun r t q => ?_
  rcases r with er | fl
  · exact False.elim q
  · rcases fl with _ | _ | _ | u
    iterate 3 exact False.elim q
    · obtain ⟨v, H', os, bare, un, ok2, rv, rfl⟩ := q
      obtain rfl : u = Value.bool true := rv
      refine ⟨rfl, OldK.of_keep fun c o g => ?_, os, bare⟩
      by_cases n : H c = none
      · exact un.keep c o g n (fun z => absurd z (nil c)) (nil c)
      · rcases W.only c with z | ⟨O, xs, z⟩
        · exact absurd z n
        · have e1 := (W.ok c _ z).1
          have e2 := (ok2 c _ (un.frzs c O _ z)).1
          rw [g] at e1
          cases e1
          exact e2
/-- the end of a law row -/
theorem walkG {l : PySem.W.OpenLaw} {n k : Nat} {q : Program} {loose : List Str} {XP : (Str → Option Value) → Heap → Prop} {YP : World → Heap → Prop} {d : DefRec} {K : Params → PySem.W.Frag} {sp : PySem.W.Frag → Sp} {x : Str}
    (hn : l.most = some n) (hn2 : n ≤ sizeLine) (hdf : d.params.defaults = []) (hr : Room k callerA)
    (hY : ∀ (w : World) (h : Heap), YP w h → (K w.params).In h)
    (F : ∀ (w : World) (mg : Str → Option Value) (fa : Addr) (h : Heap), (K w.params).In h → h.Ns mainGlobals mg → mg d.name = some (.ref fa) →
      ∃ fd : FuncData, (∀ (t : Shared) (u : Value), BindsTo t fd ⟨[u], []⟩ [(x, u)]) ∧
        ∀ b0 : Heap, (K w.params).In b0 → b0.Ns mainGlobals mg → FnG l.prog w (K w.params) mg b0 k fa fd [x] (sp (K w.params)))
    (hsp : ∀ (J : PySem.W.Frag) (H : Hp) (a : Addr) (ns : List Int), ns.length ≤ n → Only H → SqL J H a (ns.map V.int) → sp J [.ref a] H (fun v _ => v = .bl true) E0) :
    PySem.W.WalkO q loose XP YP l.row.toRowW d [] (fun f vs => PySem.call f vs) := by
  refine Att.attach_call hn hdf fun w s₀ s₁ mg mb fa o pm cd doc a vs ns G Y ho hd hcd hmg hobj hints hlen hg => ?_
  have inK := hY w _ Y
  obtain ⟨fd, bi, hF⟩ := F w mg fa _ inK G.T.g hmg
  exact lawG inK G.T.g G.T.b G.T.builtins G.T.nolimit hg hobj hints (Nat.le_trans hlen hn2) hr hF bi fun H hO hS => hsp _ H a ns hlen hO hS
def top (i : Nat) : Stmt := PySem.Challenge.pw_dueclocks_k20_rules_without_changes.main.body.getD i (.Pass ⟨0, 0, 0, 0⟩)
abbrev sLaw : Stmt := top 37
abbrev sErr : Stmt := inClass (top 2) 0
abbrev sAmount : Stmt := top 12
abbrev sWeeks : Stmt := top 11
abbrev sNearness : Stmt := top 21
abbrev sNearest : Stmt := top 22
abbrev sChanged : Stmt := top 20
abbrev sChkWeek : Stmt := top 10
abbrev sBehind : Stmt := top 13
abbrev sRight : Stmt := top 36
abbrev sUpto : Stmt := top 15
abbrev sTelling : Stmt := top 16
abbrev sLanes : Stmt := top 17
abbrev sLaneI : Stmt := inClass (top 18) 0
abbrev sLaneOff : Stmt := inClass (top 18) 1
abbrev sLaneLat : Stmt := inClass (top 18) 2
abbrev sBeside : Stmt := top 23
abbrev sAscend : Stmt := top 25
abbrev sRising : Stmt := top 26
abbrev sRuI : Stmt := inClass (top 30) 0
abbrev sRuWeek : Stmt := inClass (top 30) 4
abbrev sRuBase : Stmt := inClass (top 30) 5
abbrev sRuChanges : Stmt := inClass (top 30) 6
abbrev sRuOff : Stmt := inClass (top 30) 7
abbrev sRuAns : Stmt := inClass (top 30) 8
abbrev sRuLat : Stmt := inClass (top 30) 9
abbrev sRuCall : Stmt := inClass (top 30) 10
abbrev sRuHas : Stmt := inClass (top 30) 11
abbrev sRuEq : Stmt := inClass (top 30) 12
abbrev sRuDelay : Stmt := inClass (top 30) 3
abbrev sPool : Stmt := top 32
abbrev sDraw : Stmt := top 33
abbrev sRisingL : Stmt := top 34
abbrev sShape : Stmt := top 35
/-! ### the well -/
def Fr (p : Addr) (H H' : Hp) : Prop := ∀ b o, H b = some o → b ≠ p → H' b = some o
theorem Fr.refl (p : Addr) (H : Hp) : Fr p H H := fun _ _ h _ => h
theorem Fr.trans {p : Addr} {H H1 H2 : Hp} (a : Fr p H H1) (b : Fr p H1 H2) : Fr p H H2 := fun c o h g => b c o (a c o h g) g
theorem Fr.of {p : Addr} {H H' : Hp} (a : Same H H') : Fr p H H' := fun c o h _ => a c o h
theorem Fr.at_ {p : Addr} {o : HO} {H : Hp} : Fr p H (upd H p o) := fun b u h g => by
  rw [upd_ne g]
  exact h
theorem Fr.new {p q : Addr} {o : HO} {H : Hp} (h : H q = none) : Fr p H (upd H q o) := fun b u e _ => by
  rw [upd_ne (ne_of_none e h)]
  exact e
theorem Fr.seq {K : PySem.W.Frag} {p a : Addr} {H H' : Hp} {xs : List V} (f : Fr p H H') (g : a ≠ p) (h : SqL K H a xs) : SqL K H' a xs := by
  rcases h with (h | ⟨o, h⟩) | h
  · exact .inl (.inl (f _ _ h g))
  · exact .inl (.inr ⟨o, f _ _ h g⟩)
  · exact .inr h
theorem same_new {H : Hp} {q : Addr} {o : HO} (h : H q = none) : Same H (upd H q o) := fun b u e => by
  rw [upd_ne (ne_of_none e h)]
  exact e
/-- a well at p, from which n or fewer draws were mixed -/
def Well (H : Hp) (p : Addr) (n : Nat) : Prop := ∃ a b c : Int, H p = some (.lst [.int a, .int b, .int c]) ∧ 0 ≤ b ∧ b < 2 ^ 62 ∧ 0 ≤ c ∧ c ≤ n
theorem Well.mono {H : Hp} {p : Addr} {n m : Nat} (h : Well H p n) (g : n ≤ m) : Well H p m := by
  obtain ⟨a, b, c, h1, h2, h3, h4, h5⟩ := h
  exact ⟨a, b, c, h1, h2, h3, h4, by omega⟩
theorem Well.same {H H' : Hp} {p : Addr} {n : Nat} (h : Well H p n) (g : Same H H') : Well H' p n := by
  obtain ⟨a, b, c, h1, h2⟩ := h
  exact ⟨a, b, c, g _ _ h1, h2⟩
theorem Well.new {H : Hp} {p q : Addr} {n : Nat} {o : HO} (h : Well H p n) (g : H q = none) : Well (upd H q o) p n := h.same (same_new g)
theorem Well.upd_ne {H : Hp} {p q : Addr} {n : Nat} {o : HO} (h : Well H p n) (g : p ≠ q) : Well (upd H q o) p n := by
  obtain ⟨a, b, c, h1, h2⟩ := h
  exact ⟨a, b, c, by rw [L2.upd_ne g]; exact h1, h2⟩
theorem Well.ne {H : Hp} {p q : Addr} {n : Nat} (h : Well H p n) (g : H q = none) : p ≠ q := by
  obtain ⟨a, b, c, h1, h2⟩ := h
  exact ne_of_none h1 g
/-- the built-in names are still the built-in ones -/
structure Blt (mg : Str → Option Value) : Prop where
  int : mg "int" = none
  len : mg "len" = none
  abs : mg "abs" = none
  max : mg "max" = none
  min : mg "min" = none
  range : mg "range" = none
  repr : mg "repr" = none
  list : mg "list" = none
theorem set0 (a b c v : V) : ([a, b, c] : List V).set 0 v = [v, b, c] := rfl
theorem set2 (a b c v : V) : ([a, b, c] : List V).set 2 v = [a, b, v] := rfl

/-! ### lists of numbers -/
theorem atI_ints {xs : List Int} {i : Int} (h0 : 0 ≤ i) (h1 : i < xs.length) : ∃ v, v ∈ xs ∧ xs[i.toNat]? = some v ∧ atI (xs.map V.int) i = some (.int v) := by
  obtain ⟨j, rfl⟩ : ∃ j : Nat, i = (j : Int) := ⟨i.toNat, by omega⟩
  have hj : j < xs.length := by omega
  refine ⟨xs[j], List.getElem_mem hj, by simp [hj], atI_nat (j := j) ?_⟩
  rw [List.getElem?_map, List.getElem?_eq_getElem hj]
  rfl

/-! ### the changes that a law draws: tuples of a moment and a speed -/
def Tups (H : Hp) : List Addr → List (Int × Int) → Prop
  | [], [] => True
  | t :: ts, m :: ms => H t = some (.tup [.int m.1, .int m.2]) ∧ Tups H ts ms
  | _, _ => False
theorem Tups.len {H : Hp} : ∀ {ts : List Addr} {ms : List (Int × Int)}, Tups H ts ms → ts.length = ms.length
  | [], [], _ => rfl
  | _ :: _, _ :: _, h => by
    rw [List.length_cons, List.length_cons, Tups.len h.2]
theorem Tups.imp {H H' : Hp} : ∀ {ts : List Addr} {ms : List (Int × Int)}, (∀ t xs, H t = some (.tup xs) → H' t = some (.tup xs)) → Tups H ts ms → Tups H' ts ms
  | [], [], _, _ => trivial
  | _ :: _, _ :: _, f, h => ⟨f _ _ h.1, Tups.imp f h.2⟩
theorem Tups.same {H H' : Hp} {ts : List Addr} {ms : List (Int × Int)} (h : Tups H ts ms) (f : Same H H') : Tups H' ts ms := h.imp fun _ _ e => f _ _ e
theorem Tups.fr {H H' : Hp} {p : Addr} {n : Nat} {ts : List Addr} {ms : List (Int × Int)} (h : Tups H ts ms) (w : Well H p n) (f : Fr p H H') : Tups H' ts ms := h.imp fun t xs e => f _ _ e fun z => by
  obtain ⟨a, b, c, g, _⟩ := w
  rw [z, g] at e
  cases e
theorem Tups.put {H : Hp} {q : Addr} {ys : List V} {o : HO} {ts : List Addr} {ms : List (Int × Int)} (h : Tups H ts ms) (g : H q = some (.lst ys)) : Tups (upd H q o) ts ms := h.imp fun t xs e => by
  rw [upd_ne (fun z => by rw [z, g] at e; cases e)]
  exact e
theorem Tups.snoc {H : Hp} {t : Addr} {m : Int × Int} : ∀ {ts : List Addr} {ms : List (Int × Int)}, Tups H ts ms → H t = some (.tup [.int m.1, .int m.2]) → Tups H (ts ++ [t]) (ms ++ [m])
  | [], [], _, g => ⟨g, trivial⟩
  | _ :: _, _ :: _, h, g => ⟨h.1, Tups.snoc h.2 g⟩
theorem Tups.get {H : Hp} : ∀ {ts : List Addr} {ms : List (Int × Int)} {i : Nat} {t : Addr}, Tups H ts ms → ts[i]? = some t → ∃ m, ms[i]? = some m ∧ H t = some (.tup [.int m.1, .int m.2])
  | _ :: _, m :: _, 0, t, h, e => by
    obtain rfl := Option.some.inj e
    exact ⟨m, rfl, h.1⟩
  | _ :: _, _ :: _, i + 1, t, h, e => Tups.get (i := i) h.2 e

/-- len of a list or a tuple, told by the written part -/
def rLen (K : PySem.W.Frag) : List V → Hp → VK → Prop := fun vs H Q => ∃ (p : Addr) (ys : List V), vs = [.ref p] ∧
  (SqL K H p ys ∨ SqT K H p ys) ∧ Q (.int (ys.length : Nat)) H

structure At (P : Program) (w : World) (K : PySem.W.Frag) (mg : Str → Option Value) (base : Heap) (k : Nat) (x : Str) (ps : List Str) (sp : Sp) (f : Addr) (fd : FuncData) : Prop where
  ok : FnOk P w K mg base CX0 k f fd ps sp
  at_ : mg x = some (.ref f)
  kp : PySem.W.keepIn K (.ref f) = true
  bi : Binds K fd ps []

structure Pp (P : Program) (w : World) (K : PySem.W.Frag) (mg : Str → Option Value) (base : Heap) (C : Addr) (x : Str) (sp : Sp) (p g : Addr) (fd : FuncData) : Prop where
  of : PropOf K C x p g
  ok : FnOk P w K mg base CX0 1 g fd ["self"] sp
  bi : Binds K fd ["self"] []

/-- what stands behind x[i], i in x of an own class -/
structure Own (K : PySem.W.Frag) (C : Addr) (m : Str) (f : Addr) : Prop where
  at_ : PySem.W.findIn K (.ref C) m = some (some (.ref f))
  fn : PySem.W.isFn K (.ref f) = true
  fi : PySem.W.fnIn K f = true

/-! ### what a week and changes are checked for -/
/-- whether a change stands behind the one ahead of it -/
def behind (ms : List (Int × Int)) (i : Nat) : Bool := decide (i = 0) || decide ((ms.getD (i - 1) (0, 0)).1 < (ms.getD i (0, 0)).1)
structure ConW (mg : Str → Option Value) : Prop where
  gw : ∃ t, mg "GREATEST_WEEK" = some (.int 12 t)
def spChkW : Sp := fun vs H Q _ => ∃ n : Int, vs = [.int n] ∧ 1 ≤ n ∧ n ≤ 12 ∧ Q .non H
def spBehind (K : PySem.W.Frag) : Sp := fun vs H Q _ => ∃ (a : Addr) (ts : List Addr) (ms : List (Int × Int)) (i : Nat), vs = [.ref a, .int (i : Int)] ∧ SqL K H a (ts.map V.ref) ∧ Tups H ts ms ∧ i < ms.length ∧ Q (.bl (behind ms i)) H
section
variable {P : Program} {w : World} {K : PySem.W.Frag} {mg : Str → Option Value} {base : Heap}
theorem scChkW : FnScope ["number"] ["number"] (defScope sChkWeek) := ⟨rfl, rfl, rfl, by decide +kernel, rfl, by decide +kernel, by decide +kernel⟩
theorem ok_chkW {f : Addr} {fd : FuncData} (F : Fun K "check_week" "check_week" sChkWeek f fd) (C : ConW mg) : FnOk P w K mg base CX0 1 f fd ["number"] spChkW := by
  refine F.ok scChkW (fun vs H Q E h => ?_) (fun cdv A outer s H vs Q E hr h => ?_)
  · obtain ⟨n, rfl, _⟩ := h
    rfl
  · obtain ⟨n, rfl, n1, n2, q⟩ := h
    obtain ⟨t, ht⟩ := C.gw
    refine ⟨_, pss_one (ps_if (pt_not (pt_chain op_le op_le pe_int (pv 0) (pe_glob (v := .int 12) (by rfl) ht ⟨t, rfl⟩))) (pss_one ps_never) pss_nil), ?_⟩
    refine ⟨_, rfl, _, _, rfl, rfl, _, rfl, ite2 (fun g => ?_) (fun g => absurd (decide_eq_true (by omega)) g)⟩
    refine ⟨_, _, rfl, rfl, _, rfl, ite2 (fun g2 => absurd g2 ?_) (fun _ => q)⟩
    rw [decide_eq_true (by omega)]
    decide
theorem scBehind : FnScope ["changes", "index"] ["changes", "index"] (defScope sBehind) := ⟨rfl, rfl, rfl, by decide +kernel, rfl, by decide +kernel, by decide +kernel⟩
theorem behind_fit {ms : List (Int × Int)} {i : Nat} (h : ms.Pairwise fun a b => a.1 < b.1) (hi : i < ms.length) : behind ms i = true := by
  unfold behind
  cases i with
  | zero => rfl
  | succ j =>
    have lt := List.pairwise_iff_getElem.mp h j (j + 1) (by omega) hi (by omega)
    simp only [Nat.add_sub_cancel]
    rw [List.getD_eq_getElem?_getD, List.getD_eq_getElem?_getD, List.getElem?_eq_getElem hi, List.getElem?_eq_getElem (by omega : j < ms.length)]
    simp [lt]
theorem ok_behind {f : Addr} {fd : FuncData} (F : Fun K "is_behind" "is_behind" sBehind f fd) : FnOk P w K mg base CX0 1 f fd ["changes", "index"] (spBehind K) := by
  refine F.ok scBehind (fun vs H Q E h => ?_) (fun cdv A outer s H vs Q E hr h => ?_)
  · obtain ⟨a, ts, ms, i, rfl, _⟩ := h
    rfl
  · obtain ⟨a, ts, ms, i, rfl, hS, tp, hi, q⟩ := h
    refine ⟨_, pss_one (ps_ret (pe_or (pe_cmpR op_eq (pv 1) pe_int (nomark _)) (pe_one (pe_cmpR op_lt
      (pe_ix ix_tup (pe_ix ix_list (pv 0) (pe_op op_sub (pv 1) pe_int) (fun _ _ => rfl)) pe_int (fun _ _ => rfl))
      (pe_ix ix_tup (pe_ix ix_list (pv 0) (pv 1) (fun _ _ => rfl)) pe_int (fun _ _ => rfl)) (nomark _))))), ?_⟩
    have tl := tp.len
    have ez : decide (V.int (i : Int) = V.int 0) = decide (i = 0) := by
      rw [decide_eq_decide]
      exact ⟨fun e => by injection e with e; omega, fun e => by rw [e]; rfl⟩
    refine ⟨_, rfl, rfl, _, rfl, ?_⟩
    rw [ez]
    cases i with
    | zero => exact q
    | succ j =>
      have hj : j < ts.length := by omega
      have hj1 : j + 1 < ts.length := by omega
      obtain ⟨m', hm', hm2'⟩ := tp.get (List.getElem?_eq_getElem hj)
      obtain ⟨m, hm, hm2⟩ := tp.get (List.getElem?_eq_getElem hj1)
      have ej : (((j + 1 : Nat) : Int) - 1) = (j : Nat) := by omega
      refine ⟨_, rfl, _, rfl, _, _, rfl, rfl, a, _, _, _, rfl, rfl, hS, at_of (j := j) (v := V.ref ts[j]) ej (by rw [List.getElem?_map, List.getElem?_eq_getElem hj]; rfl), ts[j], _, 0, _, rfl, rfl, SqT.of hm2', atI_nat (j := 0) rfl,
        _, rfl, _, rfl, a, _, _, _, rfl, rfl, hS, atI_nat (j := j + 1) (v := V.ref ts[j + 1]) (by rw [List.getElem?_map, List.getElem?_eq_getElem hj1]; rfl), ts[j + 1], _, 0, _, rfl, rfl, SqT.of hm2, atI_nat (j := 0) rfl, _, _, rfl, rfl, ?_⟩
      have e : behind ms (j + 1) = decide (m'.1 < m.1) := by
        unfold behind
        simp only [Nat.add_sub_cancel]
        rw [List.getD_eq_getElem?_getD, List.getD_eq_getElem?_getD, hm, hm']
        simp
      rw [e] at q
      exact q
end

/-! ### {e for x in ..} of ints -/
/-- the reading: as of a list's, the new set at D, what it has and how many -/
def tScI (w : World) (wi : TI) (g : TG) (tt : TT) (te : TE) (vs : List Nat) : TE := fun σ H Q =>
  wi σ H fun J Ha => ∀ D, Ha D = none → ∃ Wk : Nat → Nat → Hp → Prop, (∃ m, Wk 0 m (upd Ha D (SetO w D (fun _ => false) 0))) ∧
    ∀ i m Hb, Wk i m Hb → (J.stop i Hb ∧ Q (.ref D) Hb) ∨
      (J.go i Hb ∧ ∃ Go : Hp → Prop, (∀ Hc, Go Hc → ∃ m', m' < m ∧ Wk (i + 1) m' Hc) ∧
        ∀ x Hc, J.yld i Hb x Hc → g x (wipe σ vs) Hc fun τ Hd => wipe τ vs = wipe σ vs ∧ tt τ Hd fun b He =>
          if b = true then te τ He fun y Hf => ∃ (c : Int) (S : Int → Bool) (n : Nat), y = .int c ∧ Hf D = some (SetO w D S n) ∧ n + 1 < scanBound ∧
            Go (upd Hf D (SetO w D (fun j => S j || decide (j = c)) (if S c = true then n else n + 1))) else Go He)
section
variable {X : Cx}
theorem addI_ok {pins : List (Addr × Obj)} {τ : L2.St} {H : Hp} {s : Shared} {E : Value → Shared → Prop} {D : Addr} {S : Int → Bool} {n : Nat} {c : Int} {tk : Tok} {Q : Value → Shared → Prop}
    (I : Inv X pins τ H s) (at_ : H D = some (SetO X.w D S n)) (room : n + 1 < scanBound)
    (q : ∀ s', Inv X pins τ (upd H D (SetO X.w D (fun j => S j || decide (j = c)) (if S c = true then n else n + 1))) s' → Q .none s') :
    wpAny (model X.prog X.w) X.A (call (.builtin "set.add") [.ref D, .int c tk]) Q E s := by
  refine setR_add (setO_get I at_) room fun h' same fresh => ?_
  have there : ∃ u, h'.get? D = some u := let ⟨o, _, _, _, e, _⟩ := fresh; ⟨o, e⟩
  exact q _ (I.write (e := D) (t' := s.toks + 1) (by rw [at_]; trivial) (.inl rfl) (fun b u ne e => (same.2 b ne).trans e) there (setO_new fresh))
end

section
variable {X : Cx}
open PpSet in
theorem pe_scI {el tgt src : Expr} {conds : List Expr} {sc : Scope} {own : List (PySem.Str × Nat)} {pos : Pos} {wi : TI} {g : TG} {tt : TT} {te : TE} (calm : X.calm = true) (nd : X.N.Nodup)
    (walks : PI X tgt src wi) (blk : BlkOk X.N X.env.scope sc own)
    (gs : ∀ (s : Shared) (H : Hp) (C : Addr) (cl : List (PySem.Str × Addr)) (fp : List Addr), PG (X.blk s H sc (compEnvC sc cl C X.env) fp) tgt g)
    (cs : ∀ (s : Shared) (H : Hp) (C : Addr) (cl : List (PySem.Str × Addr)) (fp : List Addr), PTs (X.blk s H sc (compEnvC sc cl C X.env) fp) conds tt)
    (es : ∀ (s : Shared) (H : Hp) (C : Addr) (cl : List (PySem.Str × Addr)) (fp : List Addr), PE (X.blk s H sc (compEnvC sc cl C X.env) fp) el te)
    (src0 : ∀ x, foldedSetIterable src X.env x = pure x := by intro _; rfl) :
    PE X (.SetComp el [⟨tgt, src, conds, 0⟩] sc pos) (tScI X.w wi g tt te (own.map (·.2))) := by
  refine ⟨fun pins s0 σ Hz Q Iz reading => ?_⟩
  rw [eval_SetComp]
  have cells : ∀ y ∈ sc.names, y.2 = .free → ∃ c, X.env.cells.lookup y.1 = some c := fun y my ey =>
    (blk.free y my ey).elim (fun k => Iz.ok.has _ (.inl k)) (fun k => Iz.ok.has _ (.inr k))
  refine wpAny_comprehension_free (use := none) rfl src0 (closure_ok cells) blk.kind (fun y my ey => by rw [blk.uniq y my, ey]) (thn (walks.run pins s0 σ Hz _ Iz reading) fun _ sa gotIter => thn gotIter fun _ sb got => ?_)
  obtain ⟨it, fp, tn, J, Ha, rfl, Ia, T, sta, freeA, q⟩ := got
  refine newSet_ok (newEnv_comp ?_)
  -- the set's place, and the state that has it
  generalize place : sb.heap.objs.size = D
  have none0 : Ha D = none := Ia.hok.fresh (Nat.le_of_eq place)
  obtain ⟨Wk, ⟨m0, w0⟩, turn⟩ := q D none0
  have sized : ∀ b ∈ fp, b < sb.heap.objs.size := fun b mb => let ⟨_, e, _⟩ := T.obj _ _ sta b mb; Heap.lt_size e
  generalize pushed : ({ sb with heap := sb.heap.push { cls := .type "set", dict := none, data := .set #[] 0 (.fresh 0 0 (!X.w.params.followText "set-order")) } } : Shared) = sd
  have heapd : sd.heap = sb.heap.push { cls := .type "set", dict := none, data := .set #[] 0 (.fresh 0 0 (!X.w.params.followText "set-order")) } := by rw [← pushed]
  have Id : Inv X pins σ (upd Ha D (SetO X.w D (fun _ => false) 0)) sd := by
    rw [← pushed, ← place]
    exact Ia.laid (t' := sb.toks) (fun b o e => Heap.get?_push_of_some _ e) (Nat.le_refl _) (setO_new (setR_fresh X.w))
  have freeD : ∀ b ∈ fp, FpOk X pins (upd Ha D (SetO X.w D (fun _ => false) 0)) b ∧ b < sd.heap.objs.size := fun b mb => by
    have lt := sized b mb
    refine ⟨⟨by rw [upd_ne (by rw [← place]; exact Nat.ne_of_lt lt)]; exact (freeA b mb).1, (freeA b mb).2⟩, ?_⟩
    rw [heapd, Heap.size_push]
    exact Nat.lt_succ_of_lt lt
  have std : tn 0 sd.heap := T.keep _ _ _ sta fun b _ o e => by rw [heapd]; exact Heap.get?_push_of_some _ e
  have Ie := block_start Id blk nd freeD
  have pg := gs sd (upd Ha D (SetO X.w D (fun _ => false) 0)) sd.heap.objs.size (cellsFrom (sd.heap.objs.size + 1) sc.names (cloFrom X.env.cells sc.names [])) fp
  have pt := cs sd (upd Ha D (SetO X.w D (fun _ => false) 0)) sd.heap.objs.size (cellsFrom (sd.heap.objs.size + 1) sc.names (cloFrom X.env.cells sc.names [])) fp
  have pe := es sd (upd Ha D (SetO X.w D (fun _ => false) 0)) sd.heap.objs.size (cellsFrom (sd.heap.objs.size + 1) sc.names (cloFrom X.env.cells sc.names [])) fp
  show codeAny _ _ (.compStart (.SetComp el [⟨tgt, src, conds, 0⟩] sc pos) 0 (.ref it) (.ref D) (compEnvC sc (cellsFrom (sd.heap.objs.size + 1) sc.names (cloFrom X.env.cells sc.names [])) sd.heap.objs.size X.env)) (compPost (model X.prog X.w) X.A X.xe none (EP X pins σ Q) (.ref D) sd.heap.objs.size) { sd with heap := pushCells (sd.heap.push { cls := .type "dict", data := .dict #[] }) sc.names }
  have apart : ∀ b ∈ fp, (upd Ha D (SetO X.w D (fun _ => false) 0)) b = none := fun b mb => (freeD b mb).1.1
  generalize envIs : compEnvC sc (cellsFrom (sd.heap.objs.size + 1) sc.names (cloFrom X.env.cells sc.names [])) sd.heap.objs.size X.env = ce at Ie pg pt pe ⊢
  have local_ : ce.locals = sd.heap.objs.size := by rw [← envIs]; rfl
  generalize upd Ha D (SetO X.w D (fun _ => false) 0) = Hd at Id Ie pg pt pe w0 apart freeD
  generalize blockIs : ({ sd with heap := pushCells (sd.heap.push { cls := .type "dict", data := .dict #[] }) sc.names } : Shared) = se at Ie ⊢
  have ste : tn 0 se.heap := T.keep _ _ _ std fun b _ o e => by rw [← blockIs]; exact pushCells_keeps _ _ _ _ (Heap.get?_push_of_some _ e)
  have still : ∀ {τ : L2.St} {H' : Hp} {s' : Shared}, Inv (X.blk sd Hd sc ce fp) [] τ H' s' → (∀ b ∈ fp, H' b = none) → ∀ b ∈ fp, FpOk (X.blk sd Hd sc ce fp) [] H' b := fun {τ H' s'} I' free b mb =>
    ⟨free b mb, (I'.ok.exf b mb).1, I'.ok.exfs b mb, .inl mb, fun _ c e => (I'.ok.exf b mb).2 _ c e, fun p mp => absurd (show p ∈ ([] : List (Addr × Obj)) ++ [] from mp) (by simp)⟩
  have loop : codeAny (model X.prog X.w) X.A (.compLoop (.SetComp el [⟨tgt, src, conds, 0⟩] sc pos) 0 (.ref it) (.ref D) ce) (compPost (model X.prog X.w) X.A X.xe none (EP X pins σ Q) (.ref D) sd.heap.objs.size) se := by
    refine compLoopS_any (fun k s' => ∃ i H', Inv (X.blk sd Hd sc ce fp) [] (wipe σ (own.map (·.2))) H' s' ∧ tn i s'.heap ∧ (∀ b ∈ fp, H' b = none) ∧ Wk i k H') ?_ m0 ⟨0, Hd, Ie, ste, apart, w0⟩
    rintro k sf ⟨i, Hf, If, stf, freeF, wf⟩
    rcases turn i k Hf wf with ⟨ends, res⟩ | ⟨goes, Go, less, each⟩
    · refine thnF (T.done (X.blk sd Hd sc ce fp) rfl rfl rfl calm i [] sf _ Hf (fun _ _ => False) If (still If freeF) stf ends) fun r sg hh => ?_
      obtain ⟨rfl, Ig⟩ := hh
      have back : Inv X pins σ Hf sg := Id.call' (ch := fp) Ig.os Ig.base Ig.hok Ig.bare fun b mb => ⟨(freeD b mb).1.2.2.2.1, (freeD b mb).1.2.1, (freeD b mb).1.2.2.2.2.1, (freeD b mb).1.2.2.2.2.2⟩
      have gone : Hf sd.heap.objs.size = none := by rw [← local_]; exact Ig.free
      obtain ⟨m, ns, _⟩ := Ig.loc
      have ns : sg.heap.Ns ce.locals m := ns
      rw [local_] at ns
      obtain ⟨p0, p1, p2, p3, p4, p5⟩ := Id.fpOk (Nat.le_refl _) gone
      exact ⟨m, ns, fun h'' same => ⟨.ref D, Hf, back.turned (t' := sg.toks) (fun b o ne e => (same.2 b ne).trans e) p0 p1 p3 p4 p5, rfl, res⟩⟩
    · refine thnF (T.item (X.blk sd Hd sc ce fp) rfl rfl rfl calm i [] sf _ Hf (fun _ _ => False) If (still If freeF) stf goes) fun r sg hh => ?_
      obtain ⟨u, rfl, owned⟩ := hh
      refine thnF owned fun _ sh hh => ?_
      obtain ⟨x, Hh, Ih, rx, yl, sth, freeH⟩ := hh
      have Ip := Ih.pinned (still Ih freeH) (T.obj _ _ sth)
      refine thnF (pg.run _ sh _ Hh x u _ Ip rx (each x Hh yl)) fun _ si hh => ?_
      obtain ⟨τ, Hi, Ii, wiped, rest⟩ := hh
      refine thnF (pt.run _ si τ Hi _ Ii rest) fun b sj hh => ?_
      obtain ⟨Hj, Ij, rest⟩ := hh
      have next : ∀ {s' : Shared} {H' : Hp}, Inv (X.blk sd Hd sc ce fp) ([] ++ pinsAt fp sh.heap) τ H' s' → Go H' → ∃ m, m < k ∧ ∃ i H', Inv (X.blk sd Hd sc ce fp) [] (wipe σ (own.map (·.2))) H' s' ∧ tn i s'.heap ∧ (∀ b ∈ fp, H' b = none) ∧ Wk i m H' := fun {s' H'} I' go' => by
        obtain ⟨m', lt, w'⟩ := less H' go'
        have pinned : ∀ b ∈ fp, ∀ o, sh.heap.get? b = some o → s'.heap.get? b = some o ∧ H' b = none := fun b mb o e =>
          have z := I'.pin (b, o) (List.mem_append_right _ (List.mem_append_right _ (mem_pinsAt mb e)))
          ⟨z.1, z.2.1⟩
        refine ⟨m', lt, i + 1, H', (I'.unpinned (pins := [])).weak (by rw [← wiped, wipe_length]) (fun j v e => by rw [← wiped] at e; exact (wipe_some e).1), T.keep _ _ _ sth fun b mb o e => (pinned b mb o e).1, fun b mb => ?_, w'⟩
        obtain ⟨o, e, _⟩ := T.obj _ _ sth b mb
        exact (pinned b mb o e).2
      cases b with
      | false =>
        simp only [Bool.false_eq_true, if_false] at rest ⊢
        exact next Ij rest
      | true =>
        simp only [if_true] at rest ⊢
        refine thnF (pe.run _ sj τ Hj _ Ij rest) fun zv sk hh => ?_
        obtain ⟨yv, Hk, Ik, ry, c, S, n, rfl, hasD, room, go'⟩ := hh
        obtain ⟨tk, rfl⟩ := (show ∃ t, zv = Value.int c t from ry)
        exact addI_ok (X := X.blk sd Hd sc ce fp) Ik hasD room fun s' I' => next I' go'
  exact codeAny_compStart_set loop (T.self X.A 0 _ _ _ ste loop)
end
/-- over a list that the block leaves as it is -/
theorem scI_list {w : World} {K : PySem.W.Frag} {a : Addr} {xs : List V} {g : TG} {tt : TT} {te : TE} {vs : List Nat} {σ : L2.St} {H1 : Hp} {D : Addr} {Qd : Hp → Prop} (Pv : Nat → Hp → Prop) (h0 : Pv 0 (upd H1 D (SetO w D (fun _ => false) 0)))
    (stays : ∀ i H, i ≤ xs.length → Pv i H → SqL K H a xs)
    (each : ∀ i x H, xs[i]? = some x → Pv i H → g x (wipe σ vs) H fun τ Hd => wipe τ vs = wipe σ vs ∧ tt τ Hd fun b He =>
      if b = true then te τ He fun y Hf => ∃ (c : Int) (S : Int → Bool) (n : Nat), y = .int c ∧ Hf D = some (SetO w D S n) ∧ n + 1 < scanBound ∧ Pv (i + 1) (upd Hf D (SetO w D (fun j => S j || decide (j = c)) (if S c = true then n else n + 1))) else Pv (i + 1) He)
    (fin : ∀ H, Pv xs.length H → Qd H) :
    ∃ Wk : Nat → Nat → Hp → Prop, (∃ m, Wk 0 m (upd H1 D (SetO w D (fun _ => false) 0))) ∧ ∀ i m Hb, Wk i m Hb → ((Itl K a).stop i Hb ∧ Qd Hb) ∨
      ((Itl K a).go i Hb ∧ ∃ Go : Hp → Prop, (∀ Hc, Go Hc → ∃ m', m' < m ∧ Wk (i + 1) m' Hc) ∧ ∀ x Hc, (Itl K a).yld i Hb x Hc → g x (wipe σ vs) Hc fun τ Hd => wipe τ vs = wipe σ vs ∧ tt τ Hd fun b He =>
        if b = true then te τ He fun y Hf => ∃ (c : Int) (S : Int → Bool) (n : Nat), y = .int c ∧ Hf D = some (SetO w D S n) ∧ n + 1 < scanBound ∧ Go (upd Hf D (SetO w D (fun j => S j || decide (j = c)) (if S c = true then n else n + 1))) else Go He) := by
  refine ⟨fun i m H => m = xs.length - i ∧ i ≤ xs.length ∧ Pv i H, ⟨xs.length, by simp, Nat.zero_le _, h0⟩, ?_⟩
  rintro i m H ⟨rfl, hi, pv⟩
  have sq := stays i H hi pv
  by_cases lt : i < xs.length
  · exact .inr ⟨⟨xs, xs[i], sq, by simp [lt]⟩, Pv (i + 1), fun Hc p' => ⟨xs.length - (i + 1), by omega, rfl, lt, p'⟩, fun x Hc yl => by
      obtain ⟨rfl, yl⟩ := yl
      exact each i x _ (yl xs sq) pv⟩
  · obtain rfl : i = xs.length := by omega
    exact .inl ⟨⟨xs, sq, Nat.le_refl _⟩, fin H pv⟩

/-! ### {e for x in .. for y in ..} of ints -/
section
variable {el ta sa tb sb : Expr} {ca cb : List Expr} {sc : Scope} {pos : Pos} {ite set_ : Value} {en : Env}
abbrev two2 (el ta sa tb sb : Expr) (ca cb : List Expr) (sc : Scope) (pos : Pos) : Expr := .SetComp el [⟨ta, sa, ca, 0⟩, ⟨tb, sb, cb, 0⟩] sc pos
theorem turnA (el ta sa tb sb : Expr) (ca cb : List Expr) (sc : Scope) (pos : Pos) (ite set_ : Value) (en : Env) :
    compTurn (two2 el ta sa tb sb ca cb sc pos) 0 ite set_ en = (do
      standAt sa.pos
      match ← pyNext ite with
      | none => pure (.done .next)
      | some got =>
        letOwnedTupleGo ta ite got
        assign ta en got
        let mut go := true
        for q in ca do
          if go then go ← isTrue q en (eval q en)
        if go then
          let src ← eval sb en
          standAt sb.pos
          let src ← foldedSetIterable sb en src
          let _ ← runOwn (.compStart (two2 el ta sa tb sb ca cb sc pos) 1 (← holding [src] (pyIter src)) set_ en) en
        again (.compLoop (two2 el ta sa tb sb ca cb sc pos) 0 ite set_ en)) := by rfl
theorem turnB (el ta sa tb sb : Expr) (ca cb : List Expr) (sc : Scope) (pos : Pos) (ite set_ : Value) (en : Env) :
    compTurn (two2 el ta sa tb sb ca cb sc pos) 1 ite set_ en = (do
      standAt sb.pos
      match ← pyNext ite with
      | none => pure (.done .next)
      | some got =>
        letOwnedTupleGo tb ite got
        assign tb en got
        let mut go := true
        for q in cb do
          if go then go ← isTrue q en (eval q en)
        if go then
          (do let got ← eval el en; standAt el.pos; let _ ← call (.builtin "set.add") [set_, got])
        again (.compLoop (two2 el ta sa tb sb ca cb sc pos) 1 ite set_ en)) := by rfl
variable {prog : Program} {w : World} {A : Around} {Rs : Result → Shared → Prop} {s0 : Shared}
theorem loopA (plain : ∀ z, foldedSetIterable sb en z = pure z) (J : Nat → Shared → Prop)
    (each : ∀ k t, J k t → wpAny (model prog w) A (pyNext ite) (fun got t1 => match got with
      | none => Rs (.ok .next) t1
      | some v => wpAny (model prog w) A (letOwnedTupleGo ta ite v) (fun _ t2 => wpAny (model prog w) A (assign ta en v) (fun _ t3 =>
          wpAny (model prog w) A (forIn ca true fun q go => if go = true then do let yes ← isTrue q en (eval q en); pure (ForInStep.yield yes) else pure (ForInStep.yield go)) (fun yes t4 =>
            if yes = true then wpAny (model prog w) A (eval sb en) (fun src t5 => wpAny (model prog w) A (pyIter src) (fun ite1 t6 =>
              codeAny (model prog w) A (.compStart (two2 el ta sa tb sb ca cb sc pos) 1 ite1 set_ en) (fun res t7 => match res with
                | .ok _ => ∃ j, j < k ∧ J j t7
                | .error _ => False) t6) (notedBy (model prog w) A en fun er t7 => Rs (.error er) t7) t5) (notedBy (model prog w) A en fun er t7 => Rs (.error er) t7) t4
            else ∃ j, j < k ∧ J j t4) (notedBy (model prog w) A en fun er t7 => Rs (.error er) t7) t3) (notedBy (model prog w) A en fun er t7 => Rs (.error er) t7) t2) (notedBy (model prog w) A en fun er t7 => Rs (.error er) t7) t1) (notedBy (model prog w) A en fun er t7 => Rs (.error er) t7) t)
    (k : Nat) (at_ : J k s0) : codeAny (model prog w) A (.compLoop (two2 el ta sa tb sb ca cb sc pos) 0 ite set_ en) Rs s0 := by
  refine codeAny_loop rfl J (fun k t hk => ?_) k at_
  show wpAny _ A ((compTurn (two2 el ta sa tb sb ca cb sc pos) 0 ite set_ en).onRaise (fun z => do noteFrame z en; theTreesLotGoes z)) _ _ t
  refine wpAny_noted ?_
  rw [turnA]
  refine wpAny_bind (wpAny_standAt (wpAny_bind (wpAny_mono (each k t hk) (fun got t1 h1 => ?_) fun _ _ z => z)))
  cases got with
  | none => exact wpAny_pure h1
  | some v =>
    refine wpAny_bind (wpAny_mono h1 (fun _ t2 h2 => ?_) fun _ _ z => z)
    refine wpAny_bind (wpAny_mono h2 (fun _ t3 h3 => wpAny_bind (wpAny_mono h3 (fun yes t4 h4 => ?_) fun _ _ z => z)) fun _ _ z => z)
    cases yes with
    | false => exact wpAny_pure ⟨rfl, h4⟩
    | true =>
      refine wpAny_bind (wpAny_mono h4 (fun src t5 h5 => ?_) fun _ _ z => z)
      refine wpAny_bind (wpAny_standAt (wpAny_bind (wpAny_of_eq (plain src) (wpAny_bind (wpAny_holding (wpAny_mono h5 (fun ite1 t6 h6 => ?_) fun _ _ z => z))))))
      refine wpAny_bind (wpAny_runOwn ?_)
      rw [Around.mark_none]
      refine codeAny_mono h6 fun res t7 h7 => ?_
      cases res with
      | ok fl =>
        first
          | exact wpAny_pure ⟨rfl, h7⟩
          | exact wpAny_bind (wpAny_pure (wpAny_pure ⟨rfl, h7⟩))
      | error er => exact h7.elim
theorem loopB (J : Nat → Shared → Prop)
    (each : ∀ k t, J k t → wpAny (model prog w) A (pyNext ite) (fun got t1 => match got with
      | none => Rs (.ok .next) t1
      | some v => wpAny (model prog w) A (letOwnedTupleGo tb ite v) (fun _ t2 => wpAny (model prog w) A (assign tb en v) (fun _ t3 =>
          wpAny (model prog w) A (forIn cb true fun q go => if go = true then do let yes ← isTrue q en (eval q en); pure (ForInStep.yield yes) else pure (ForInStep.yield go)) (fun yes t4 =>
            if yes = true then wpAny (model prog w) A (eval el en) (fun z t5 =>
              wpAny (model prog w) A (call (.builtin "set.add") [set_, z]) (fun _ t6 => ∃ j, j < k ∧ J j t6) (notedBy (model prog w) A en fun er t7 => Rs (.error er) t7) t5) (notedBy (model prog w) A en fun er t7 => Rs (.error er) t7) t4
            else ∃ j, j < k ∧ J j t4) (notedBy (model prog w) A en fun er t7 => Rs (.error er) t7) t3) (notedBy (model prog w) A en fun er t7 => Rs (.error er) t7) t2) (notedBy (model prog w) A en fun er t7 => Rs (.error er) t7) t1) (notedBy (model prog w) A en fun er t7 => Rs (.error er) t7) t)
    (k : Nat) (at_ : J k s0) : codeAny (model prog w) A (.compLoop (two2 el ta sa tb sb ca cb sc pos) 1 ite set_ en) Rs s0 := by
  refine codeAny_loop rfl J (fun k t hk => ?_) k at_
  show wpAny _ A ((compTurn (two2 el ta sa tb sb ca cb sc pos) 1 ite set_ en).onRaise (fun z => do noteFrame z en; theTreesLotGoes z)) _ _ t
  refine wpAny_noted ?_
  rw [turnB]
  refine wpAny_bind (wpAny_standAt (wpAny_bind (wpAny_mono (each k t hk) (fun got t1 h1 => ?_) fun _ _ z => z)))
  cases got with
  | none => exact wpAny_pure h1
  | some v =>
    refine wpAny_bind (wpAny_mono h1 (fun _ t2 h2 => ?_) fun _ _ z => z)
    refine wpAny_bind (wpAny_mono h2 (fun _ t3 h3 => wpAny_bind (wpAny_mono h3 (fun yes t4 h4 => ?_) fun _ _ z => z)) fun _ _ z => z)
    cases yes with
    | false => exact wpAny_pure ⟨rfl, h4⟩
    | true =>
      exact wpAny_bind (wpAny_bind (wpAny_mono h4 (fun z t5 h5 => wpAny_bind (wpAny_standAt (wpAny_bind (wpAny_mono h5 (fun _ t6 h6 => wpAny_pure (wpAny_pure ⟨rfl, h6⟩)) fun _ _ z => z)))) fun _ _ z => z))
theorem startB (there : codeAny (model prog w) A (.compLoop (two2 el ta sa tb sb ca cb sc pos) 1 ite set_ en) Rs s0)
    (other : wpAny (model prog w) A (pyIter ite) (fun it2 t => codeAny (model prog w) A (.compLoop (two2 el ta sa tb sb ca cb sc pos) 1 it2 set_ en) Rs t) (notedBy (model prog w) A en fun er t => Rs (.error er) t) s0) :
    codeAny (model prog w) A (.compStart (two2 el ta sa tb sb ca cb sc pos) 1 ite set_ en) Rs s0 := by
  refine codeAny_of_tree ?_
  show wpAny _ _ ((compStart (two2 el ta sa tb sb ca cb sc pos) 1 ite set_ en).onRaise (fun z => do noteFrame z en; standAt theWindowsPlace)) _ _ s0
  refine wpAny_notedAt ?_
  unfold compStart
  show wpAny _ _ (ask >>= _) _ _ s0
  refine wpAny_bind (wpAny_askSetting (wpAny_ite ?_))
  split
  · first
      | exact wpAny_bind (wpAny_pure (wpAny_pure (And.intro rfl there)))
      | exact wpAny_pure (And.intro rfl there)
  · first
      | exact wpAny_bind (wpAny_rule (wpAny_bind (wpAny_standAt (wpAny_bind (wpAny_mono other (fun it2 t z => wpAny_pure (And.intro rfl z)) fun _ _ z => z)))))
      | (refine wpAny_bind (wpAny_rule ?_); show wpAny _ _ (standAt sb.pos >>= _) _ _ s0; exact wpAny_bind (wpAny_standAt (wpAny_bind (wpAny_mono other (fun it2 t z => wpAny_pure (And.intro rfl z)) fun _ _ z => z))))
end
/-- the reading: behind the first clause's store and tests the second source's own walk -/
def tSc2 (w : World) (wi : TI) (g : TG) (tt : TT) (wj : TI) (gj : TG) (tj : TT) (te : TE) (vs us : List Nat) : TE := fun σ H Q =>
  wi σ H fun J Ha => ∀ D, Ha D = none → ∃ Wk : Nat → Nat → Hp → Prop, (∃ m, Wk 0 m (upd Ha D (SetO w D (fun _ => false) 0))) ∧
    ∀ i m Hb, Wk i m Hb → (J.stop i Hb ∧ Q (.ref D) Hb) ∨
      (J.go i Hb ∧ ∃ Go : Hp → Prop, (∀ Hc, Go Hc → ∃ m', m' < m ∧ Wk (i + 1) m' Hc) ∧
        ∀ x Hc, J.yld i Hb x Hc → g x (wipe σ vs) Hc fun τ Hd => wipe τ vs = wipe σ vs ∧ tt τ Hd fun b He =>
          if b = true then wj τ He fun Jn Hf => ∃ Wn : Nat → Nat → Hp → Prop, (∃ k, Wn 0 k Hf) ∧ ∀ j k Hg, Wn j k Hg → (Jn.stop j Hg ∧ Go Hg) ∨
            (Jn.go j Hg ∧ ∃ Gn : Hp → Prop, (∀ Hh, Gn Hh → ∃ k', k' < k ∧ Wn (j + 1) k' Hh) ∧ ∀ y Hh, Jn.yld j Hg y Hh → gj y (wipe τ us) Hh fun υ Hi => wipe υ us = wipe τ us ∧ tj υ Hi fun b2 Hj =>
              if b2 = true then te υ Hj fun z Hk => ∃ (c : Int) (S : Int → Bool) (n : Nat), z = .int c ∧ Hk D = some (SetO w D S n) ∧ n + 1 < scanBound ∧
                Gn (upd Hk D (SetO w D (fun j => S j || decide (j = c)) (if S c = true then n else n + 1))) else Gn Hj)
          else Go He)
section
variable {X : Cx}
open PpSet in
theorem pe_sc2 {el ta sa tb sb : Expr} {ca cb : List Expr} {sc : Scope} {own : List (PySem.Str × Nat)} {us : List Nat} {pos : Pos} {wi wj : TI} {g gj : TG} {tt tj : TT} {te : TE} (calm : X.calm = true) (nd : X.N.Nodup)
    (walks : PI X ta sa wi) (blk : BlkOk X.N X.env.scope sc own) (sub : ∀ i ∈ us, i ∈ own.map (·.2))
    (gs : ∀ (s : Shared) (H : Hp) (C : Addr) (cl : List (PySem.Str × Addr)) (fp : List Addr), PG (X.blk s H sc (compEnvC sc cl C X.env) fp) ta g)
    (cs : ∀ (s : Shared) (H : Hp) (C : Addr) (cl : List (PySem.Str × Addr)) (fp : List Addr), PTs (X.blk s H sc (compEnvC sc cl C X.env) fp) ca tt)
    (walkj : ∀ (s : Shared) (H : Hp) (C : Addr) (cl : List (PySem.Str × Addr)) (fp : List Addr), PI (X.blk s H sc (compEnvC sc cl C X.env) fp) tb sb wj)
    (gsj : ∀ (s : Shared) (H : Hp) (C : Addr) (cl : List (PySem.Str × Addr)) (fp : List Addr), PG (X.blk s H sc (compEnvC sc cl C X.env) fp) tb gj)
    (csj : ∀ (s : Shared) (H : Hp) (C : Addr) (cl : List (PySem.Str × Addr)) (fp : List Addr), PTs (X.blk s H sc (compEnvC sc cl C X.env) fp) cb tj)
    (es : ∀ (s : Shared) (H : Hp) (C : Addr) (cl : List (PySem.Str × Addr)) (fp : List Addr), PE (X.blk s H sc (compEnvC sc cl C X.env) fp) el te)
    (src0 : ∀ x, foldedSetIterable sa X.env x = pure x := by intro _; rfl) (src1 : ∀ env x, foldedSetIterable sb env x = pure x := by intro _ _; rfl) :
    PE X (.SetComp el [⟨ta, sa, ca, 0⟩, ⟨tb, sb, cb, 0⟩] sc pos) (tSc2 X.w wi g tt wj gj tj te (own.map (·.2)) us) := by
  refine ⟨fun pins s0 σ Hz Q Iz reading => ?_⟩
  rw [eval_SetComp]
  have cells : ∀ y ∈ sc.names, y.2 = .free → ∃ c, X.env.cells.lookup y.1 = some c := fun y my ey =>
    (blk.free y my ey).elim (fun k => Iz.ok.has _ (.inl k)) (fun k => Iz.ok.has _ (.inr k))
  refine wpAny_comprehension_free (use := none) rfl src0 (closure_ok cells) blk.kind (fun y my ey => by rw [blk.uniq y my, ey]) (thn (walks.run pins s0 σ Hz _ Iz reading) fun _ sa' gotIter => thn gotIter fun _ sb' got => ?_)
  obtain ⟨it, fp, tn, J, Ha, rfl, Ia, T, sta, freeA, q⟩ := got
  refine newSet_ok (newEnv_comp ?_)
  generalize place : sb'.heap.objs.size = D
  have none0 : Ha D = none := Ia.hok.fresh (Nat.le_of_eq place)
  obtain ⟨Wk, ⟨m0, w0⟩, turn⟩ := q D none0
  have sized : ∀ b ∈ fp, b < sb'.heap.objs.size := fun b mb => let ⟨_, e, _⟩ := T.obj _ _ sta b mb; Heap.lt_size e
  generalize pushed : ({ sb' with heap := sb'.heap.push { cls := .type "set", dict := none, data := .set #[] 0 (.fresh 0 0 (!X.w.params.followText "set-order")) } } : Shared) = sd
  have heapd : sd.heap = sb'.heap.push { cls := .type "set", dict := none, data := .set #[] 0 (.fresh 0 0 (!X.w.params.followText "set-order")) } := by rw [← pushed]
  have Id : Inv X pins σ (upd Ha D (SetO X.w D (fun _ => false) 0)) sd := by
    rw [← pushed, ← place]
    exact Ia.laid (t' := sb'.toks) (fun b o e => Heap.get?_push_of_some _ e) (Nat.le_refl _) (setO_new (setR_fresh X.w))
  have freeD : ∀ b ∈ fp, FpOk X pins (upd Ha D (SetO X.w D (fun _ => false) 0)) b ∧ b < sd.heap.objs.size := fun b mb => by
    have lt := sized b mb
    refine ⟨⟨by rw [upd_ne (by rw [← place]; exact Nat.ne_of_lt lt)]; exact (freeA b mb).1, (freeA b mb).2⟩, ?_⟩
    rw [heapd, Heap.size_push]
    exact Nat.lt_succ_of_lt lt
  have std : tn 0 sd.heap := T.keep _ _ _ sta fun b _ o e => by rw [heapd]; exact Heap.get?_push_of_some _ e
  have Ie := block_start Id blk nd freeD
  have pg := gs sd (upd Ha D (SetO X.w D (fun _ => false) 0)) sd.heap.objs.size (cellsFrom (sd.heap.objs.size + 1) sc.names (cloFrom X.env.cells sc.names [])) fp
  have pt := cs sd (upd Ha D (SetO X.w D (fun _ => false) 0)) sd.heap.objs.size (cellsFrom (sd.heap.objs.size + 1) sc.names (cloFrom X.env.cells sc.names [])) fp
  have pe := es sd (upd Ha D (SetO X.w D (fun _ => false) 0)) sd.heap.objs.size (cellsFrom (sd.heap.objs.size + 1) sc.names (cloFrom X.env.cells sc.names [])) fp
  have pwj := walkj sd (upd Ha D (SetO X.w D (fun _ => false) 0)) sd.heap.objs.size (cellsFrom (sd.heap.objs.size + 1) sc.names (cloFrom X.env.cells sc.names [])) fp
  have pgj := gsj sd (upd Ha D (SetO X.w D (fun _ => false) 0)) sd.heap.objs.size (cellsFrom (sd.heap.objs.size + 1) sc.names (cloFrom X.env.cells sc.names [])) fp
  have ptj := csj sd (upd Ha D (SetO X.w D (fun _ => false) 0)) sd.heap.objs.size (cellsFrom (sd.heap.objs.size + 1) sc.names (cloFrom X.env.cells sc.names [])) fp
  show codeAny _ _ (.compStart (two2 el ta sa tb sb ca cb sc pos) 0 (.ref it) (.ref D) (compEnvC sc (cellsFrom (sd.heap.objs.size + 1) sc.names (cloFrom X.env.cells sc.names [])) sd.heap.objs.size X.env)) (compPost (model X.prog X.w) X.A X.xe none (EP X pins σ Q) (.ref D) sd.heap.objs.size) { sd with heap := pushCells (sd.heap.push { cls := .type "dict", data := .dict #[] }) sc.names }
  have apart : ∀ b ∈ fp, (upd Ha D (SetO X.w D (fun _ => false) 0)) b = none := fun b mb => (freeD b mb).1.1
  generalize envIs : compEnvC sc (cellsFrom (sd.heap.objs.size + 1) sc.names (cloFrom X.env.cells sc.names [])) sd.heap.objs.size X.env = ce at Ie pg pt pe pwj pgj ptj ⊢
  have local_ : ce.locals = sd.heap.objs.size := by rw [← envIs]; rfl
  generalize upd Ha D (SetO X.w D (fun _ => false) 0) = Hd at Id Ie pg pt pe pwj pgj ptj w0 apart freeD
  generalize blockIs : ({ sd with heap := pushCells (sd.heap.push { cls := .type "dict", data := .dict #[] }) sc.names } : Shared) = se at Ie ⊢
  have ste : tn 0 se.heap := T.keep _ _ _ std fun b _ o e => by rw [← blockIs]; exact pushCells_keeps _ _ _ _ (Heap.get?_push_of_some _ e)
  have still : ∀ {τ : L2.St} {H' : Hp} {s' : Shared}, Inv (X.blk sd Hd sc ce fp) [] τ H' s' → (∀ b ∈ fp, H' b = none) → ∀ b ∈ fp, FpOk (X.blk sd Hd sc ce fp) [] H' b := fun {τ H' s'} I' free b mb =>
    ⟨free b mb, (I'.ok.exf b mb).1, I'.ok.exfs b mb, .inl mb, fun _ c e => (I'.ok.exf b mb).2 _ c e, fun p mp => absurd (show p ∈ ([] : List (Addr × Obj)) ++ [] from mp) (by simp)⟩
  have loop : codeAny (model X.prog X.w) X.A (.compLoop (two2 el ta sa tb sb ca cb sc pos) 0 (.ref it) (.ref D) ce) (compPost (model X.prog X.w) X.A X.xe none (EP X pins σ Q) (.ref D) sd.heap.objs.size) se := by
    refine loopA (src1 ce) (fun k s' => ∃ i H', Inv (X.blk sd Hd sc ce fp) [] (wipe σ (own.map (·.2))) H' s' ∧ tn i s'.heap ∧ (∀ b ∈ fp, H' b = none) ∧ Wk i k H') ?_ m0 ⟨0, Hd, Ie, ste, apart, w0⟩
    rintro k sf ⟨i, Hf, If, stf, freeF, wf⟩
    rcases turn i k Hf wf with ⟨ends, res⟩ | ⟨goes, Go, less, each⟩
    · refine thnF (T.done (X.blk sd Hd sc ce fp) rfl rfl rfl calm i [] sf _ Hf (fun _ _ => False) If (still If freeF) stf ends) fun r sg hh => ?_
      obtain ⟨rfl, Ig⟩ := hh
      have back : Inv X pins σ Hf sg := Id.call' (ch := fp) Ig.os Ig.base Ig.hok Ig.bare fun b mb => ⟨(freeD b mb).1.2.2.2.1, (freeD b mb).1.2.1, (freeD b mb).1.2.2.2.2.1, (freeD b mb).1.2.2.2.2.2⟩
      have gone : Hf sd.heap.objs.size = none := by rw [← local_]; exact Ig.free
      obtain ⟨m, ns, _⟩ := Ig.loc
      have ns : sg.heap.Ns ce.locals m := ns
      rw [local_] at ns
      obtain ⟨p0, p1, p2, p3, p4, p5⟩ := Id.fpOk (Nat.le_refl _) gone
      exact ⟨m, ns, fun h'' same => ⟨.ref D, Hf, back.turned (t' := sg.toks) (fun b o ne e => (same.2 b ne).trans e) p0 p1 p3 p4 p5, rfl, res⟩⟩
    · refine thnF (T.item (X.blk sd Hd sc ce fp) rfl rfl rfl calm i [] sf _ Hf (fun _ _ => False) If (still If freeF) stf goes) fun r sg hh => ?_
      obtain ⟨u, rfl, owned⟩ := hh
      refine thnF owned fun _ sh hh => ?_
      obtain ⟨x, Hh, Ih, rx, yl, sth, freeH⟩ := hh
      have Ip := Ih.pinned (still Ih freeH) (T.obj _ _ sth)
      refine thnF (pg.run _ sh _ Hh x u _ Ip rx (each x Hh yl)) fun _ si hh => ?_
      obtain ⟨τ, Hi, Ii, wiped, rest⟩ := hh
      refine thnF (pt.run _ si τ Hi _ Ii rest) fun b sj hh => ?_
      obtain ⟨Hj, Ij, rest⟩ := hh
      have next : ∀ {υ : L2.St} {s' : Shared} {H' : Hp}, Inv (X.blk sd Hd sc ce fp) ([] ++ pinsAt fp sh.heap) υ H' s' → (wipe σ (own.map (·.2))).length = υ.length → (∀ (j : Nat) v, (wipe σ (own.map (·.2)))[j]? = some (some v) → υ[j]? = some (some v)) → Go H' → ∃ m, m < k ∧ ∃ i H', Inv (X.blk sd Hd sc ce fp) [] (wipe σ (own.map (·.2))) H' s' ∧ tn i s'.heap ∧ (∀ b ∈ fp, H' b = none) ∧ Wk i m H' := fun {υ s' H'} I' le le2 go' => by
        obtain ⟨m', lt, w'⟩ := less H' go'
        have pinned : ∀ b ∈ fp, ∀ o, sh.heap.get? b = some o → s'.heap.get? b = some o ∧ H' b = none := fun b mb o e =>
          have z := I'.pin (b, o) (List.mem_append_right _ (List.mem_append_right _ (mem_pinsAt mb e)))
          ⟨z.1, z.2.1⟩
        refine ⟨m', lt, i + 1, H', (I'.unpinned (pins := [])).weak le le2, T.keep _ _ _ sth fun b mb o e => (pinned b mb o e).1, fun b mb => ?_, w'⟩
        obtain ⟨o, e, _⟩ := T.obj _ _ sth b mb
        exact (pinned b mb o e).2
      have lenτ : (wipe σ (own.map (·.2))).length = τ.length := by rw [← wiped, wipe_length]
      have hasτ : ∀ (j : Nat) v, (wipe σ (own.map (·.2)))[j]? = some (some v) → τ[j]? = some (some v) := fun j v e => by
        rw [← wiped] at e
        exact (wipe_some e).1
      have hasυ : ∀ (j : Nat) v, (wipe σ (own.map (·.2)))[j]? = some (some v) → (wipe τ us)[j]? = some (some v) := fun j v e => by
        rw [← wiped] at e
        obtain ⟨e1, e2⟩ := wipe_some e
        rw [wipe_out fun z => e2 (sub j z)]
        exact e1
      cases b with
      | false =>
        simp only [Bool.false_eq_true, if_false] at rest ⊢
        exact next Ij lenτ hasτ rest
      | true =>
        simp only [if_true] at rest ⊢
        refine thnF (pwj.run _ sj τ Hj _ Ij rest) fun _ sk hh => thnF hh fun _ sl hh => ?_
        obtain ⟨itn, fpn, tnn, Jn, Hl, rfl, Il, Tn, stl, freeL, Wn, ⟨k1, wn⟩, turnn⟩ := hh
        have still1 : ∀ {H' : Hp}, (∀ b ∈ fpn, H' b = none) → ∀ b ∈ fpn, FpOk (X.blk sd Hd sc ce fp) ([] ++ pinsAt fp sh.heap) H' b := fun free b mb => ⟨free b mb, (freeL b mb).2⟩
        have inner : codeAny (model X.prog X.w) X.A (.compLoop (two2 el ta sa tb sb ca cb sc pos) 1 (.ref itn) (.ref D) ce) (fun res t => match res with
            | .ok _ => ∃ m, m < k ∧ ∃ i H', Inv (X.blk sd Hd sc ce fp) [] (wipe σ (own.map (·.2))) H' t ∧ tn i t.heap ∧ (∀ b ∈ fp, H' b = none) ∧ Wk i m H'
            | .error _ => False) sl := by
          refine loopB (fun kk t => ∃ j H', Inv (X.blk sd Hd sc ce fp) ([] ++ pinsAt fp sh.heap) (wipe τ us) H' t ∧ tnn j t.heap ∧ (∀ b ∈ fpn, H' b = none) ∧ Wn j kk H') ?_ k1 ⟨0, Hl, Il.weak (wipe_length _ _) (fun j v e => (wipe_some e).1), stl, fun b mb => (freeL b mb).1, wn⟩
          rintro kk sm ⟨j, Hm, Im, stm, freeM, wm⟩
          rcases turnn j kk Hm wm with ⟨stop1, go1⟩ | ⟨goes1, Gn, less1, each1⟩
          · refine thnF (Tn.done (X.blk sd Hd sc ce fp) rfl rfl rfl calm j _ sm (wipe τ us) Hm (fun _ _ => False) Im (still1 freeM) stm stop1) fun r sn hh => ?_
            obtain ⟨rfl, In⟩ := hh
            exact next In (lenτ.trans (wipe_length τ us).symm) hasυ go1
          · refine thnF (Tn.item (X.blk sd Hd sc ce fp) rfl rfl rfl calm j _ sm (wipe τ us) Hm (fun _ _ => False) Im (still1 freeM) stm goes1) fun r sn hh => ?_
            obtain ⟨u1, rfl, owned1⟩ := hh
            refine thnF owned1 fun _ so hh => ?_
            obtain ⟨y, Ho, Io, ry, yl1, sto, freeO⟩ := hh
            have Iq := Io.pinned (still1 freeO) (Tn.obj _ _ sto)
            refine thnF (pgj.run _ so (wipe τ us) Ho y u1 _ Iq ry (each1 y Ho yl1)) fun _ sp hh => ?_
            obtain ⟨υ, Hp_, Ip_, wiped1, rest1⟩ := hh
            refine thnF (ptj.run _ sp υ Hp_ _ Ip_ rest1) fun b1 sq hh => ?_
            obtain ⟨Hq, Iq2, rest1⟩ := hh
            have next1 : ∀ {s' : Shared} {H' : Hp}, Inv (X.blk sd Hd sc ce fp) (([] ++ pinsAt fp sh.heap) ++ pinsAt fpn so.heap) υ H' s' → Gn H' → ∃ m, m < kk ∧ ∃ j H', Inv (X.blk sd Hd sc ce fp) ([] ++ pinsAt fp sh.heap) (wipe τ us) H' s' ∧ tnn j s'.heap ∧ (∀ b ∈ fpn, H' b = none) ∧ Wn j m H' := fun {s' H'} I' go' => by
              obtain ⟨m', lt, w'⟩ := less1 H' go'
              have pinned : ∀ b ∈ fpn, ∀ o, so.heap.get? b = some o → s'.heap.get? b = some o ∧ H' b = none := fun b mb o e =>
                have z := I'.pin (b, o) (List.mem_append_right _ (List.mem_append_right _ (mem_pinsAt mb e)))
                ⟨z.1, z.2.1⟩
              refine ⟨m', lt, j + 1, H', I'.unpinned.weak (by rw [← wiped1, wipe_length]) (fun j v e => by rw [← wiped1] at e; exact (wipe_some e).1), Tn.keep _ _ _ sto fun b mb o e => (pinned b mb o e).1, fun b mb => ?_, w'⟩
              obtain ⟨o, e, _⟩ := Tn.obj _ _ sto b mb
              exact (pinned b mb o e).2
            cases b1 with
            | false =>
              simp only [Bool.false_eq_true, if_false] at rest1 ⊢
              exact next1 Iq2 rest1
            | true =>
              simp only [if_true] at rest1 ⊢
              refine thnF (pe.run _ sq υ Hq _ Iq2 rest1) fun zv sr hh => ?_
              obtain ⟨yv, Hr, Ir, rz, c, S, n, rfl, hasD, room, go'⟩ := hh
              obtain ⟨tk, rfl⟩ := (show ∃ t, zv = Value.int c t from rz)
              exact addI_ok (X := X.blk sd Hd sc ce fp) Ir hasD room fun s' I' => next1 I' go'
        exact startB inner (Tn.self X.A 0 _ _ _ stl inner)
  exact codeAny_compStart_set loop (T.self X.A 0 _ _ _ ste loop)
end

/-! ### a def called by its positional promise -/
section
variable {X : Cx} {CX : CXT} {k : Nat} {f : Addr} {sp : Sp} {E : XK} {x : Str} {e : Expr} {es : List Expr} {t : TA} {p pos : Pos}
theorem pe_callR (F : FnR X.prog X.w X.K X.mg X.base CX k f sp) (hr : Room k X.A) (hg : Gl X x) (hm : X.mg x = some (.ref f)) (hk : PySem.W.keepIn X.K (.ref f) = true) (hx : Passes CX X E)
    (ha : PA X (e :: es) t) (hdb : (x == ("__debug__" : Str)) = false := by decide) (he : starEach (e :: es) X.env = (false, eval e X.env) :: starEach es X.env := by rfl) (hpl : (backTo pos (starEach es X.env)).any (·.1) = false := by rfl) :
    PE X (.Call (.Name x p) (e :: es) [] pos) (fun σ H Q => t σ H fun vs H1 => sp vs H1 Q E) := by
  refine ⟨fun pins s σ H Q I h => ?_⟩
  refine wpAny_Call_Name_kw (ld_glob I hg hm ?_ hdb)
  refine PySem.W.callWith_K (h₀ := X.base) I.ok.mod.kin hk (thn (ha.run pos pins s σ H _ I h) fun us s1 ⟨vs, H1, I1, r, q⟩ => ⟨I1.kIn, ?_⟩) he hpl
  exact wpAny_call (run_fnR F hr hx I1 r q)
end
/-- .. under a name of its module -/
structure AtR (P : Program) (w : World) (K : PySem.W.Frag) (mg : Str → Option Value) (base : Heap) (k : Nat) (x : Str) (sp : Sp) (f : Addr) : Prop where
  ok : FnR P w K mg base CX0 k f sp
  at_ : mg x = some (.ref f)
  kp : PySem.W.keepIn K (.ref f) = true
/-! ### the walk of a tuple or a list, told by a word of its turns -/
theorem wk_tup {K : PySem.W.Frag} {a : Addr} {xs : List V} {H0 : Hp} {Qd : Hp → Prop} {F : V → Hp → (Hp → Prop) → Prop} (Pv : Nat → Hp → Prop) (h0 : Pv 0 H0) (stays : ∀ i H, i ≤ xs.length → Pv i H → SqT K H a xs)
    (each : ∀ i x H, xs[i]? = some x → Pv i H → F x H (Pv (i + 1))) (fin : ∀ H, Pv xs.length H → Qd H) :
    ∃ Wk : Nat → Nat → Hp → Prop, (∃ m, Wk 0 m H0) ∧ ∀ i m Hb, Wk i m Hb → ((Itt K a).stop i Hb ∧ Qd Hb) ∨
      ((Itt K a).go i Hb ∧ ∃ Go : Hp → Prop, (∀ Hc, Go Hc → ∃ m', m' < m ∧ Wk (i + 1) m' Hc) ∧ ∀ x Hc, (Itt K a).yld i Hb x Hc → F x Hc Go) := by
  refine ⟨fun i m H => m = xs.length - i ∧ i ≤ xs.length ∧ Pv i H, ⟨xs.length, by simp, Nat.zero_le _, h0⟩, ?_⟩
  rintro i m H ⟨rfl, hi, pv⟩
  have sq := stays i H hi pv
  by_cases lt : i < xs.length
  · exact .inr ⟨⟨xs, xs[i], sq, by simp [lt]⟩, Pv (i + 1), fun Hc p' => ⟨xs.length - (i + 1), by omega, rfl, lt, p'⟩, fun x Hc yl => by
      obtain ⟨rfl, yl⟩ := yl
      exact each i x _ (yl xs sq) pv⟩
  · obtain rfl : i = xs.length := by omega
    exact .inl ⟨⟨xs, sq, Nat.le_refl _⟩, fin H pv⟩
theorem wk_lst {K : PySem.W.Frag} {a : Addr} {xs : List V} {H0 : Hp} {Qd : Hp → Prop} {F : V → Hp → (Hp → Prop) → Prop} (Pv : Nat → Hp → Prop) (h0 : Pv 0 H0) (stays : ∀ i H, i ≤ xs.length → Pv i H → SqL K H a xs)
    (each : ∀ i x H, xs[i]? = some x → Pv i H → F x H (Pv (i + 1))) (fin : ∀ H, Pv xs.length H → Qd H) :
    ∃ Wk : Nat → Nat → Hp → Prop, (∃ m, Wk 0 m H0) ∧ ∀ i m Hb, Wk i m Hb → ((Itl K a).stop i Hb ∧ Qd Hb) ∨
      ((Itl K a).go i Hb ∧ ∃ Go : Hp → Prop, (∀ Hc, Go Hc → ∃ m', m' < m ∧ Wk (i + 1) m' Hc) ∧ ∀ x Hc, (Itl K a).yld i Hb x Hc → F x Hc Go) := by
  refine ⟨fun i m H => m = xs.length - i ∧ i ≤ xs.length ∧ Pv i H, ⟨xs.length, by simp, Nat.zero_le _, h0⟩, ?_⟩
  rintro i m H ⟨rfl, hi, pv⟩
  have sq := stays i H hi pv
  by_cases lt : i < xs.length
  · exact .inr ⟨⟨xs, xs[i], sq, by simp [lt]⟩, Pv (i + 1), fun Hc p' => ⟨xs.length - (i + 1), by omega, rfl, lt, p'⟩, fun x Hc yl => by
      obtain ⟨rfl, yl⟩ := yl
      exact each i x _ (yl xs sq) pv⟩
  · obtain rfl : i = xs.length := by omega
    exact .inl ⟨⟨xs, sq, Nat.le_refl _⟩, fin H pv⟩
/-! ### the moments that at least one of some things changes -/
structure Blt5 (mg : Str → Option Value) : Prop where
  sorted : mg "sorted" = none
theorem Tups.append {H : Hp} : ∀ {ts us : List Addr} {ms ns : List (Int × Int)}, Tups H ts ms → Tups H us ns → Tups H (ts ++ us) (ms ++ ns)
  | [], _, [], _, _, h => h
  | _ :: _, _, _ :: _, _, g, h => ⟨g.1, Tups.append g.2 h⟩
/-- things with changes, told by Th -/
def spChOf (Th : Hp → Addr → List (Int × Int) → Prop) : Sp := fun vs H Q _ => ∃ (x : Addr) (ms : List (Int × Int)), vs = [.ref x] ∧ Th H x ms ∧
  ∀ (H' : Hp) (q : Addr) (ts : List Addr), Same H H' → H q = none → H' q = some (.lst (ts.map V.ref)) → Tups H' ts ms → Q (.ref q) H'
structure ThOk (C : Addr) (Th : Hp → Addr → List (Int × Int) → Prop) : Prop where
  same : ∀ {H H' x ms}, Th H x ms → Same H H' → Th H' x ms
  ob : ∀ {H x ms}, Th H x ms → ∃ dx fs, H x = some (.ins C dx fs)
abbrev allOf (as : List (Addr × List (Int × Int))) : List (Int × Int) := as.flatMap (·.2)
def spMoms0 (Th : Hp → Addr → List (Int × Int) → Prop) : Sp := fun vs H Q _ => ∃ (p : Addr) (as : List (Addr × List (Int × Int))), vs = [.ref p] ∧ H p = some (.tup (as.map fun z => V.ref z.1)) ∧ (∀ z ∈ as, Th H z.1 z.2) ∧ (allOf as).length ≤ 60 ∧
  ∀ (H' : Hp) (q : Addr) (ks : List Int), Same H H' → H q = none → ks.Pairwise (· < ·) → (∀ k, k ∈ ks ↔ k ∈ (allOf as).map (·.1)) → ks.length ≤ (allOf as).length → H' q = some (.lst (ks.map V.int)) → Q (.ref q) H'
def spMoms (Th : Hp → Addr → List (Int × Int) → Prop) : Sp := fun vs H Q _ => ∃ as : List (Addr × List (Int × Int)), vs = as.map (fun z => V.ref z.1) ∧ as.length ≤ 900 ∧ (∀ z ∈ as, Th H z.1 z.2) ∧ (allOf as).length ≤ 60 ∧
  ∀ (H' : Hp) (q : Addr) (ks : List Int), Same H H' → H q = none → ks.Pairwise (· < ·) → (∀ k, k ∈ ks ↔ k ∈ (allOf as).map (·.1)) → ks.length ≤ (allOf as).length → H' q = some (.lst (ks.map V.int)) → Q (.ref q) H'
section
variable {P : Program} {w : World} {K : PySem.W.Frag} {mg : Str → Option Value} {base : Heap}
theorem scChanged : FnScope ["things", "thing", "moment", "_"] ((([] : List Str)) ++ [("things" : Str)]) (defScope sChanged) := ⟨rfl, rfl, rfl, by decide +kernel, rfl, by decide +kernel, by decide +kernel⟩
theorem allOf_succ {as : List (Addr × List (Int × Int))} {i : Nat} {z : Addr × List (Int × Int)} (h : as[i]? = some z) : allOf (as.take (i + 1)) = allOf (as.take i) ++ z.2 := by
  rw [List.take_add_one, h, allOf, List.flatMap_append]
  simp
theorem allOf_le {as : List (Addr × List (Int × Int))} {i : Nat} : (allOf (as.take i)).length ≤ (allOf as).length := by
  have e : allOf as = allOf (as.take i) ++ allOf (as.drop i) := by rw [allOf, allOf, allOf, ← List.flatMap_append, List.take_append_drop]
  rw [e, List.length_append]
  omega
theorem ok_moms {f C p3 g3 : Addr} {fd d3 : FuncData} {Th : Hp → Addr → List (Int × Int) → Prop} (F : Fun K "changed_moments" "changed_moments" sChanged f fd) (zc : Cls K C) (th : ThOk C Th) (T5 : Blt5 mg) (W3 : Pp P w K mg base C "changes" (spChOf Th) p3 g3 d3) : FnR P w K mg base CX0 3 f (spMoms Th) := by
  obtain ⟨oc, od, kV, doc, pm, an, cdv, ct, osl, rfl, lk, hcd⟩ := F.ex
  refine FnR.imp (StX.fn_star (ps := []) (sp := spMoms0 Th) lk hcd scChanged (fun _ _ _ _ _ _ _ _ _ _ _ z => z) (fun us rest hl => ?_) fun A outer s H vs Q E hr h => ?_) (fun vs H Q E h => ?_)
  · match us, hl with
    | [], _ => match rest with
      | [] => rfl
      | _ :: _ => rfl
  · obtain ⟨p, as, rfl, hp, tas, le, k⟩ := h
    suffices hh : ∃ t, PSs (cxOf CX0 P w K mg base ["things", "thing", "moment", "_"] "changed_moments" (defScope sChanged) f cdv A outer s H E).nox (defBody sChanged) t ∧ t { nx := fun _ H' => Q .non H', rt := Q } (start ["things", "thing", "moment", "_"] [V.ref p]) H by
      obtain ⟨t, h1, h2⟩ := hh
      exact ⟨t, h1.nox, h2⟩
    refine ⟨_, pss_one (ps_ret (pe_callB (cr_sortedSet rfl) (by rfl) T5.sorted (by decide +kernel) (pa_cons (pe_sc2 (own := [("thing", 1), ("moment", 2), ("_", 3)]) (us := [2, 3]) (g := gName 1) (gj := gTup K 2 (gCons (gName 2) (gCons (gName 3) gNil))) (tt := tYes) (tj := tYes) (te := tVar 2) (wj := iList K (tProp C (spChOf Th) [] E0 (tVar 1))) rfl scChanged.nd
        (pi_tup (pv 0))
        (blkOk_by (N := ["things", "thing", "moment", "_"]) (sc := defScope sChanged) (by decide +kernel)) (by decide)
        (fun _ _ _ _ _ => pg_name (i := 1) scChanged.nd rfl (.inl rfl)) (fun _ _ _ _ _ => pts_nil)
        (fun _ _ _ _ _ => pi_list (pe_prop (pv 1) zc W3.of W3.ok (hr.mono (by decide)) W3.bi .nil pass0 rfl))
        (fun _ _ _ _ _ => pg_tup rfl (pgs_cons (pg_name (i := 2) scChanged.nd rfl (.inl rfl)) (pgs_cons (pg_name (i := 3) scChanged.nd rfl (.inl rfl)) pgs_nil))) (fun _ _ _ _ _ => pts_nil)
        (fun _ _ _ _ _ => pv 2)) pa_nil))), ?_⟩
    refine ⟨_, rfl, p, rfl, ⟨_, SqT.of hp⟩, fun D hD => wk_tup (K := K) (a := p) (xs := as.map fun z => V.ref z.1) (fun i J => ∃ (S : Int → Bool) (n : Nat), J D = some (SetO w D S n) ∧ (∀ k, S k = true ↔ k ∈ (allOf (as.take i)).map (·.1)) ∧ n ≤ (allOf (as.take i)).length ∧ Same H J)
      ⟨_, 0, upd_same, fun k => by simp, Nat.zero_le _, same_new hD⟩ (fun i J _ ⟨_, _, _, _, _, h⟩ => SqT.of (h _ _ hp)) ?_ ?_⟩
    · rintro i y J hi ⟨S, n, hJ, hS, hn, sJ⟩
      rw [List.getElem?_map] at hi
      cases hz : as[i]? with
      | none => rw [hz] at hi; cases hi
      | some z =>
      rw [hz] at hi
      obtain rfl := Option.some.inj hi
      have tz := th.same (tas z (List.mem_of_getElem? hz)) sJ
      obtain ⟨dx, fs, hx⟩ := th.ob tz
      have es := allOf_succ hz
      have le1 := allOf_le (as := as) (i := i + 1)
      rw [es, List.length_append] at le1
      refine ⟨rfl, _, rfl, z.1, dx, fs, rfl, hx, ⟨z.1, z.2, rfl, tz, fun H1 q1 ts s1 nq1 h1 tp => ?_⟩⟩
      have tl := tp.len
      have ne : q1 ≠ D := fun e => by rw [e, hJ] at nq1; cases nq1
      refine ⟨q1, rfl, ⟨_, SqL.of h1⟩, wk_lst (K := K) (a := q1) (xs := ts.map V.ref) (fun j I => ∃ (S : Int → Bool) (n : Nat), I D = some (SetO w D S n) ∧ (∀ k, S k = true ↔ k ∈ (allOf (as.take i) ++ z.2.take j).map (·.1)) ∧ n ≤ (allOf (as.take i)).length + j ∧ Fr D H1 I)
        ⟨S, n, s1 _ _ hJ, fun k => by rw [hS k]; simp, by omega, Fr.refl _ _⟩ (fun j I _ ⟨_, _, _, _, _, h⟩ => SqL.of (h _ _ h1 ne)) ?_ ?_⟩
      · rintro j y I hj ⟨S2, n2, hI, hS2, hn2, fI⟩
        have hj2 : j < ts.length := by
          have := (List.getElem?_eq_some_iff.mp hj).1
          simpa using this
        rw [List.getElem?_map, List.getElem?_eq_getElem hj2] at hj
        obtain rfl := Option.some.inj hj
        obtain ⟨m, hm, hm2⟩ := tp.get (List.getElem?_eq_getElem hj2)
        have nt : ts[j] ≠ D := fun e => by
          rw [e, s1 _ _ hJ] at hm2
          cases hm2
        have et : z.2.take (j + 1) = z.2.take j ++ [m] := by rw [List.take_add_one, hm]; rfl
        refine ⟨_, _, rfl, .inl (.inl (fI _ _ hm2 nt)), rfl, _, _, rfl, _, [], rfl, rfl, rfl, ?_⟩
        refine ⟨_, rfl, m.1, S2, n2, rfl, hI, (by show n2 + 1 < 4096; omega), _, _, upd_same, fun k => ?_, ?_, fI.trans Fr.at_⟩
        · rw [et, ← List.append_assoc, List.map_append, List.mem_append, ← hS2 k]
          simp
        · split <;> omega
      · rintro I ⟨S2, n2, hI, hS2, hn2, fI⟩
        rw [List.length_map] at hn2 hS2
        rw [tl, List.take_length, ← es] at hS2
        refine ⟨S2, n2, hI, hS2, ?_, fun c o e => fI _ _ (s1 _ _ (sJ _ _ e)) (ne_of_none e hD)⟩
        rw [es, List.length_append]
        omega
    · rintro J ⟨S, n, hJ, hS, hn, sJ⟩
      rw [List.length_map] at hn hS
      rw [List.take_length] at hS hn
      refine ⟨D, S, n, rfl, hJ, by omega, fun ks p asc mem len np => ?_⟩
      have s4 := same_new (o := .lst (ks.map V.int)) np
      exact k _ p ks (sJ.trans s4) (sJ.free np) asc (fun k => by rw [mem k, hS k]) (by omega) upd_same
  · obtain ⟨as, rfl, la, tas, le, k⟩ := h
    refine ⟨[], as.map (fun z => V.ref z.1), rfl, rfl, by rw [List.length_map, sizeLine_eq]; omega, fun p hp => ⟨p, as, rfl, upd_same, fun z hz => th.same (tas z hz) (same_new hp), le, fun H' q ks s nq => k H' q ks ((same_new hp).trans s) ?_⟩⟩
    exact (same_new hp).free nq
end

/-! ### lanes -/
def countUpto (ns : List Int) (v : Int) : Nat := (ns.filter fun n => decide (n ≤ v)).length
theorem upto_is {ns : List Int} {v : Int} {lo : Nat} (hl : lo ≤ ns.length) (h1 : ∀ i (h : i < ns.length), i < lo → ns[i] ≤ v) (h2 : ∀ i (h : i < ns.length), lo ≤ i → v < ns[i]) : countUpto ns v = lo := by
  have e : countUpto ns v = countUpto (ns.take lo ++ ns.drop lo) v := by rw [List.take_append_drop]
  rw [e]
  unfold countUpto
  rw [List.filter_append, List.filter_eq_self.mpr, List.filter_eq_nil_iff.mpr, List.append_nil, List.length_take]
  · omega
  · intro x hx
    obtain ⟨i, hi, e⟩ := List.getElem_of_mem hx
    rw [List.length_drop] at hi
    rw [List.getElem_drop] at e
    have := h2 (lo + i) (by omega) (by omega)
    rw [e] at this
    simp
    omega
  · intro x hx
    obtain ⟨i, hi, e⟩ := List.getElem_of_mem hx
    rw [List.length_take] at hi
    rw [List.getElem_take] at e
    have := h1 i (by omega) (by omega)
    rw [e] at this
    simp
    omega
def spUpto : Sp := fun vs H Q _ => ∃ (a : Addr) (ns : List Int) (v : Int), vs = [.ref a, .int v] ∧ H a = some (.lst (ns.map V.int)) ∧ ns.Pairwise (· ≤ ·) ∧ Q (.int (countUpto ns v : Nat)) H
def laneF (r n : Int) (m o g : Addr) : List (Str × V) := putF "goals" (.ref g) (putF "offsets" (.ref o) (putF "marks" (.ref m) (putF "step" (.int n) (putF "rest" (.int r) []))))
theorem laneF_m (r n : Int) (m o g : Addr) : (laneF r n m o g).lookup ("marks" : Str) = some (.ref m) := by
  unfold laneF
  rw [lookup_putF, if_neg (by decide +kernel), lookup_putF, if_neg (by decide +kernel), lookup_putF, if_pos rfl]
theorem laneF_o (r n : Int) (m o g : Addr) : (laneF r n m o g).lookup ("offsets" : Str) = some (.ref o) := by
  unfold laneF
  rw [lookup_putF, if_neg (by decide +kernel), lookup_putF, if_pos rfl]
theorem laneF_g (r n : Int) (m o g : Addr) : (laneF r n m o g).lookup ("goals" : Str) = some (.ref g) := by
  unfold laneF
  rw [lookup_putF, if_pos rfl]
theorem laneF_no (r n : Int) (m o g : Addr) {x : Str} (h1 : ¬ x = "goals") (h2 : ¬ x = "offsets") (h3 : ¬ x = "marks") (h4 : ¬ x = "step") (h5 : ¬ x = "rest") : (laneF r n m o g).lookup x = none := by
  unfold laneF
  rw [lookup_putF, if_neg h1, lookup_putF, if_neg h2, lookup_putF, if_neg h3, lookup_putF, if_neg h4, lookup_putF, if_neg h5]
  rfl
/-- a lane at a, apart from av -/
def LaneAt (L av : Addr) (H : Hp) (a : Addr) (r n off : Int) (ks : List (Int × Int)) : Prop := ∃ dx m o g, H a = some (.ins L dx (laneF r n m o g)) ∧ H m = some (.lst ((ks.map (·.1)).map V.int)) ∧ H o = some (.lst ((off :: ks.map (·.2)).map V.int)) ∧
  H g = some (.lst ((ks.map fun k => k.1 + k.2).map V.int)) ∧ a ≠ av ∧ m ≠ av ∧ o ≠ av ∧ g ≠ av
theorem LaneAt.fr {L av : Addr} {H H' : Hp} {a : Addr} {r n off : Int} {ks : List (Int × Int)} (h : LaneAt L av H a r n off ks) (f : Fr av H H') : LaneAt L av H' a r n off ks := by
  obtain ⟨dx, m, o, g, h1, h2, h3, h4, n1, n2, n3, n4⟩ := h
  exact ⟨dx, m, o, g, f _ _ h1 n1, f _ _ h2 n2, f _ _ h3 n3, f _ _ h4 n4, n1, n2, n3, n4⟩
theorem LaneAt.same {L av : Addr} {H H' : Hp} {a : Addr} {r n off : Int} {ks : List (Int × Int)} (h : LaneAt L av H a r n off ks) (f : Same H H') : LaneAt L av H' a r n off ks := h.fr (Fr.of f)
theorem LaneAt.mix {L av D : Addr} {H H' : Hp} {a : Addr} {r n off : Int} {ks : List (Int × Int)} (h : LaneAt L av H a r n off ks) (g : LaneAt L D H a r n off ks) (f : Fr D H H') : LaneAt L av H' a r n off ks := by
  obtain ⟨dx, m, o, g0, h1, h2, h3, h4, n1, n2, n3, n4⟩ := h
  obtain ⟨dx', m', o', g', k1, k2, k3, k4, l1, l2, l3, l4⟩ := g
  rw [h1] at k1
  have e := Option.some.inj k1
  injection e with e1 e2 e3
  have em : m = m' := by
    have := congrArg (List.lookup ("marks" : Str)) e3
    rw [laneF_m, laneF_m] at this
    injection this with this
    injection this
  have eo : o = o' := by
    have := congrArg (List.lookup ("offsets" : Str)) e3
    rw [laneF_o, laneF_o] at this
    injection this with this
    injection this
  have eg : g0 = g' := by
    have := congrArg (List.lookup ("goals" : Str)) e3
    rw [laneF_g, laneF_g] at this
    injection this with this
    injection this
  subst em eo eg
  exact ⟨dx, m, o, g0, f _ _ h1 l1, f _ _ h2 l2, f _ _ h3 l3, f _ _ h4 l4, n1, n2, n3, n4⟩
def laneOff (off : Int) (ks : List (Int × Int)) (t : Int) : Int := (off :: ks.map (·.2)).getD (countUpto (ks.map (·.1)) t) 0
def spLaneI (L : Addr) (K : PySem.W.Frag) : Sp := fun vs H Q _ => ∃ (x dx c : Addr) (r n off : Int) (ts : List Addr) (ks : List (Int × Int)), vs = [.ref x, .int r, .int n, .int off, .ref c] ∧ H x = some (.ins L dx []) ∧ SqL K H c (ts.map V.ref) ∧ c ≠ x ∧ Tups H ts ks ∧ ks.length ≤ 900 ∧
  ∀ H', (∀ av o, H av = some o → av ≠ x → LaneAt L av H' x r n off ks) → (∀ b o, H b = some o → b ≠ x → H' b = some o) → Q .non H'
def spLaneOff (L : Addr) : Sp := fun vs H Q _ => ∃ (x av : Addr) (r n off t : Int) (ks : List (Int × Int)), vs = [.ref x, .int t] ∧ LaneAt L av H x r n off ks ∧ (ks.map (·.1)).Pairwise (· ≤ ·) ∧ Q (.int (laneOff off ks t)) H
/-- a list of what each change of a list gives -/
theorem lc_chg {K : PySem.W.Frag} {c D : Addr} {ts : List Addr} {ks : List (Int × Int)} {J0 : Hp} {g : TG} {tt : TT} {te : TE} {vs : List Nat} {σ : L2.St} {Qd : Hp → Prop} (fn : Int × Int → Int) (hc : SqL K J0 c (ts.map V.ref)) (tp : Tups J0 ts ks) (le : ks.length ≤ 900) (hD : J0 D = none)
    (each : ∀ (t : Addr) (k : Int × Int) (J : Hp) (N : V → Hp → Prop) (M : Hp → Prop), J t = some (.tup [.int k.1, .int k.2]) → N (.int (fn k)) J → g (.ref t) (wipe σ vs) J fun σ2 H2 => wipe σ2 vs = wipe σ vs ∧ tt σ2 H2 fun b H3 => if b = true then te σ2 H3 N else M H3)
    (fin : ∀ J, J D = some (.lst ((ks.map fn).map V.int)) → Same J0 J → Qd J) :
    ∃ W : Nat → Nat → Hp → Prop, (∃ m, W 0 m (upd J0 D (.lst []))) ∧ ∀ i m H, W i m H →
      ((Itl K c).stop i H ∧ Qd H) ∨ ((Itl K c).go i H ∧ ∃ Nx : Hp → Prop, (∀ H', Nx H' → ∃ m', m' < m ∧ W (i + 1) m' H') ∧ ∀ x H', (Itl K c).yld i H x H' → g x (wipe σ vs) H' fun σ2 H2 => wipe σ2 vs = wipe σ vs ∧ tt σ2 H2 fun b H3 =>
        if b = true then te σ2 H3 fun y H4 => ∃ acc, H4 D = some (.lst acc) ∧ acc.length < sizeLine ∧ Nx (upd H4 D (.lst (acc ++ [y]))) else Nx H3) := by
  have tl := tp.len
  refine lc_list (K := K) (a := c) (xs := ts.map V.ref) (fun i J => J D = some (.lst (((ks.take i).map fn).map V.int)) ∧ Same J0 J) ⟨by rw [upd_same]; rfl, same_new hD⟩ (fun i J _ h => (show Same J0 J from h.2).seq hc) ?_ ?_
  · rintro i y J hi ⟨hJ, sJ⟩
    have hi2 : i < ts.length := by
      have := (List.getElem?_eq_some_iff.mp hi).1
      simpa using this
    rw [List.getElem?_map, List.getElem?_eq_getElem hi2] at hi
    obtain rfl := Option.some.inj hi
    obtain ⟨m, hm, hm2⟩ := (tp.same sJ).get (List.getElem?_eq_getElem hi2)
    have et : ks.take (i + 1) = ks.take i ++ [m] := by rw [List.take_add_one, hm]; rfl
    refine each _ m J _ _ hm2 ⟨_, hJ, ?_, ?_, fun b o e => ?_⟩
    · rw [List.length_map, List.length_map, List.length_take]
      exact small1000 (by omega)
    · rw [upd_same, et, List.map_append, List.map_append]
      rfl
    · rw [upd_ne (ne_of_none e hD)]
      exact sJ _ _ e
  · rintro J ⟨hJ, sJ⟩
    rw [List.length_map, tl, List.take_length] at hJ
    exact fin J hJ sJ
structure LaC (K : PySem.W.Frag) (mg : Str → Option Value) (L : Addr) : Prop where
  cl : Cls K L
  nr : NoAttr K L "rest"
  ns : NoAttr K L "step"
  nm : NoAttr K L "marks"
  no : NoAttr K L "offsets"
  ng : NoAttr K L "goals"
  at_ : mg "Lane" = some (.ref L)
section
variable {P : Program} {w : World} {K : PySem.W.Frag} {mg : Str → Option Value} {base : Heap}
theorem scUpto : FnScope ["numbers", "limit", "low", "high", "middle"] ["numbers", "limit"] (defScope sUpto) := ⟨rfl, rfl, rfl, by decide +kernel, rfl, by decide +kernel, by decide +kernel⟩
theorem ok_upto {f : Addr} {fd : FuncData} (F : Fun K "many_upto" "many_upto" sUpto f fd) (T : Blt mg) : FnOk P w K mg base CX0 1 f fd ["numbers", "limit"] spUpto := by
  refine F.ok scUpto (fun vs H Q E h => ?_) (fun cdv A outer s H vs Q E hr h => ?_)
  · obtain ⟨a, ns, v, rfl, _⟩ := h
    rfl
  · obtain ⟨a, ns, v, rfl, ha, asc, q⟩ := h
    refine ⟨_, pss_cons (ps_par (i := 2) (j := 3) rfl scUpto.nd rfl rfl (by decide) rfl rfl (pa_cons pe_int (pa_cons (pe_callB call_len_seq (by rfl) T.len PySem.boot_len (pa_cons (pv 0) pa_nil)) pa_nil)) (by rfl))
      (pss_cons (ps_while PassesOwn.never (pt_cmpR op_lt (pv 2) (pv 3) (nomark _))
        (pss_cons (ps_set (i := 4) scUpto.nd rfl (.inl rfl) (pe_op op_fdiv (pe_op op_add (pv 2) (pv 3)) pe_int))
        (pss_one (ps_if (pt_cmpR op_le (pe_ix ix_list (pv 0) (pv 4) (fun _ _ => rfl)) (pv 1) (nomark _))
          (pss_one (ps_set (i := 2) scUpto.nd rfl (.inl rfl) (pe_op op_add (pv 4) pe_int)))
          (pss_one (ps_set (i := 3) scUpto.nd rfl (.inl rfl) (pv 4)))))))
      (pss_one (ps_ret (pv 2)))), ?_⟩
    refine ⟨_, rfl, a, _, rfl, .inl (SqL.of ha), _, _, rfl, ?_⟩
    rw [List.length_map]
    refine while_by (fun σ J => J = H ∧ ∃ (lo hi : Nat) (md : Option V), σ = [some (.ref a), some (.int v), some (.int (lo : Nat)), some (.int (hi : Nat)), md] ∧ lo ≤ hi ∧ hi ≤ ns.length ∧ (∀ i (h : i < ns.length), i < lo → ns[i] ≤ v) ∧ (∀ i (h : i < ns.length), hi ≤ i → v < ns[i]))
      (fun σ _ => match σ with
        | [_, _, some (.int lo), some (.int hi), _] => (hi - lo).toNat
        | _ => 0) ⟨rfl, 0, ns.length, none, rfl, Nat.zero_le _, Nat.le_refl _, fun i _ h => by omega, fun i h1 h2 => by omega⟩ ?_ ?_
    · rintro σ J ⟨rfl, lo, hi, md, rfl, le, lh, h1, h2⟩
      refine ⟨_, rfl, _, rfl, _, _, rfl, rfl, _, rfl, ite2 (fun z => ?_) (fun z => ?_)⟩
      · have lt : lo < hi := by
          have := of_decide_eq_true z
          omega
        have hm : ((lo : Int) + (hi : Int)) / 2 = (((lo + hi) / 2 : Nat) : Int) := by omega
        refine ⟨_, rfl, _, rfl, _, _, rfl, rfl, _, _, rfl, rfl, ⟨by decide, by decide⟩, ?_⟩
        simp only [hm]
        generalize hmid : (lo + hi) / 2 = mid
        have m1 : mid < ns.length := by omega
        refine ⟨_, rfl, _, rfl, a, _, _, _, rfl, rfl, SqL.of ha, atI_nat (j := mid) (v := V.int ns[mid]) (by rw [List.getElem?_map, List.getElem?_eq_getElem m1]; rfl), _, rfl, _, _, rfl, rfl, _, rfl, ite2 (fun g => ?_) (fun g => ?_)⟩
        · have g1 : ns[mid] ≤ v := of_decide_eq_true g
          refine ⟨_, rfl, _, _, rfl, rfl, ⟨rfl, mid + 1, hi, _, rfl, by omega, lh, fun i hi1 hi2 => ?_, h2⟩, ?_⟩
          · rcases Nat.lt_or_ge i mid with z | z
            · have := List.pairwise_iff_getElem.mp asc i mid hi1 m1 z
              omega
            · obtain rfl : i = mid := by omega
              exact g1
          · show ((hi : Int) - ((mid : Int) + 1)).toNat < ((hi : Int) - (lo : Int)).toNat
            omega
        · have g1 : ¬ ns[mid] ≤ v := fun z => g (decide_eq_true z)
          refine ⟨_, rfl, ⟨rfl, lo, mid, _, rfl, by omega, by omega, h1, fun i hi1 hi2 => ?_⟩, ?_⟩
          · rcases Nat.lt_or_ge mid i with z | z
            · have := List.pairwise_iff_getElem.mp asc mid i m1 hi1 z
              omega
            · obtain rfl : i = mid := by omega
              omega
          · show ((mid : Int) - (lo : Int)).toNat < ((hi : Int) - (lo : Int)).toNat
            omega
      · obtain rfl : lo = hi := by
          have : ¬ ((lo : Int) < (hi : Int)) := fun y => z (decide_eq_true y)
          omega
        refine ⟨_, rfl, ?_⟩
        rw [upto_is lh h1 h2] at q
        exact q
    · rintro σ J Q1 Q2 g ⟨x, e1, y, e2, i, j, e3, e4, b, e5, q1⟩
      exact ⟨x, e1, y, e2, i, j, e3, e4, b, e5, g _ _ q1⟩
theorem scLaneI : FnScope ["self", "rest", "step", "offset", "changes", "moment", "_", "changed"] ["self", "rest", "step", "offset", "changes"] (defScope sLaneI) := ⟨rfl, rfl, rfl, by decide +kernel, rfl, by decide +kernel, by decide +kernel⟩
theorem ok_laneI {f L : Addr} {fd : FuncData} (F : Fun K "__init__" "Lane.__init__" sLaneI f fd) (Z : LaC K mg L) : FnOk P w K mg base CX0 1 f fd ["self", "rest", "step", "offset", "changes"] (spLaneI L K) := by
  refine F.ok scLaneI (fun vs H Q E h => ?_) (fun cdv A outer s H vs Q E hr h => ?_)
  · obtain ⟨x, dx, c, r, n, off, ts, ks, rfl, _⟩ := h
    rfl
  · obtain ⟨x, dx, c, r, n, off, ts, ks, rfl, hx, hc, cx, tp, le, k⟩ := h
    refine ⟨_, pss_cons (ps_fld (pv 0) (pv 1) rfl)
      (pss_cons (ps_fld (pv 0) (pv 2) rfl)
      (pss_cons (ps_fld (pv 0) (pe_lc (own := [("moment", 5), ("_", 6)]) (g := gTup K 2 (gCons (gName 5) (gCons (gName 6) gNil))) (tt := tYes) rfl scLaneI.nd (pi_list (pv 4))
          (blkOk_by (N := ["self", "rest", "step", "offset", "changes", "moment", "_", "changed"]) (sc := defScope sLaneI) (by decide +kernel)) (fun _ _ _ _ _ => pg_tup rfl (pgs_cons (pg_name (i := 5) scLaneI.nd rfl (.inl rfl)) (pgs_cons (pg_name (i := 6) scLaneI.nd rfl (.inl rfl)) pgs_nil))) (fun _ _ _ _ _ => pts_nil)
          (fun _ _ _ _ _ => (pv 5))) rfl)
      (pss_cons (ps_fld (pv 0) (pe_lst (pa_cons (pv 3) (StX.pa_star (pe_lc (own := [("_", 6), ("changed", 7)]) (g := gTup K 2 (gCons (gName 6) (gCons (gName 7) gNil))) (tt := tYes) rfl scLaneI.nd (pi_list (pv 4))
          (blkOk_by (N := ["self", "rest", "step", "offset", "changes", "moment", "_", "changed"]) (sc := defScope sLaneI) (by decide +kernel)) (fun _ _ _ _ _ => pg_tup rfl (pgs_cons (pg_name (i := 6) scLaneI.nd rfl (.inl rfl)) (pgs_cons (pg_name (i := 7) scLaneI.nd rfl (.inl rfl)) pgs_nil))) (fun _ _ _ _ _ => pts_nil)
          (fun _ _ _ _ _ => (pv 7))) pa_nil))) rfl)
      (pss_one (ps_fld (pv 0) (pe_lc (own := [("moment", 5), ("changed", 7)]) (g := gTup K 2 (gCons (gName 5) (gCons (gName 7) gNil))) (tt := tYes) rfl scLaneI.nd (pi_list (pv 4))
          (blkOk_by (N := ["self", "rest", "step", "offset", "changes", "moment", "_", "changed"]) (sc := defScope sLaneI) (by decide +kernel)) (fun _ _ _ _ _ => pg_tup rfl (pgs_cons (pg_name (i := 5) scLaneI.nd rfl (.inl rfl)) (pgs_cons (pg_name (i := 7) scLaneI.nd rfl (.inl rfl)) pgs_nil))) (fun _ _ _ _ _ => pts_nil)
          (fun _ _ _ _ _ => (pe_op op_add (pv 5) (pv 7)))) rfl))))), ?_⟩
    have tl := tp.len
    refine ⟨_, rfl, _, rfl, x, L, dx, _, rfl, hx, Z.cl, Z.nr, (by show 0 < 1000; decide), ?_⟩
    refine ⟨_, rfl, _, rfl, x, L, dx, _, rfl, upd_same, Z.cl, Z.ns, (by show 1 < 1000; decide), ?_⟩
    rw [upd_upd]
    generalize hH1 : upd H x (.ins L dx (putF "step" (.int n) (putF "rest" (.int r) []))) = H1
    have f1 : Fr x H H1 := by rw [← hH1]; exact Fr.at_
    have hx1 : H1 x = some (.ins L dx (putF "step" (.int n) (putF "rest" (.int r) []))) := by rw [← hH1]; exact upd_same
    have tx : ∀ t xs, H t = some (.tup xs) → t ≠ x := fun t xs e z => by rw [z, hx] at e; cases e
    have tp1 : Tups H1 ts ks := tp.imp fun t xs e => f1 _ _ e (tx t xs e)
    have hc1 := f1.seq cx hc
    refine ⟨_, rfl, c, rfl, ⟨_, hc1⟩, fun m hm => lc_chg (fun k => k.1) hc1 tp1 le hm (fun t k J N M e q => ⟨_, _, rfl, .inl (.inl e), rfl, _, _, rfl, _, [], rfl, rfl, rfl, _, rfl, q⟩) fun J1 h1 s1 => ?_⟩
    refine ⟨_, rfl, x, L, dx, _, rfl, s1 _ _ hx1, Z.cl, Z.nm, (by show 2 < 1000; decide), ?_⟩
    generalize hH2 : upd J1 x (.ins L dx (putF "marks" (.ref m) (putF "step" (.int n) (putF "rest" (.int r) [])))) = H2
    have f2' : Fr x J1 H2 := by rw [← hH2]; exact Fr.at_
    have f2 : Fr x H H2 := (f1.trans (Fr.of s1)).trans f2'
    have hx2 : H2 x = some (.ins L dx (putF "marks" (.ref m) (putF "step" (.int n) (putF "rest" (.int r) [])))) := by rw [← hH2]; exact upd_same
    have mx : m ≠ x := fun z => by rw [z, hx1] at hm; cases hm
    have h12 := f2' _ _ h1 mx
    have tp2 : Tups H2 ts ks := tp.imp fun t xs e => f2 _ _ e (tx t xs e)
    have hc2 := f2.seq cx hc
    refine ⟨_, rfl, _, rfl, c, rfl, ⟨_, hc2⟩, fun o' ho' => lc_chg (fun k => k.2) hc2 tp2 le ho' (fun t k J N M e q => ⟨_, _, rfl, .inl (.inl e), rfl, _, _, rfl, _, [], rfl, rfl, rfl, _, rfl, q⟩) fun J2 h2 s2 => ?_⟩
    refine ⟨o', _, rfl, .inr (SqL.of h2), (by rw [List.append_nil, List.length_cons, List.length_map, List.length_map, sizeLine_eq]; omega), fun o ho => ?_⟩
    rw [List.append_nil]
    have s3 := same_new (o := .lst (V.int off :: (ks.map fun k => k.2).map V.int)) ho
    have h3 := upd_same (H := J2) (a := o) (o := .lst (V.int off :: (ks.map fun k => k.2).map V.int))
    generalize upd J2 o (.lst (V.int off :: (ks.map fun k => k.2).map V.int)) = J3 at s3 h3 ⊢
    have s23 := s2.trans s3
    refine ⟨_, rfl, x, L, dx, _, rfl, s23 _ _ hx2, Z.cl, Z.no, (by show 3 < 1000; decide), ?_⟩
    generalize hH3 : upd J3 x (.ins L dx (putF "offsets" (.ref o) (putF "marks" (.ref m) (putF "step" (.int n) (putF "rest" (.int r) []))))) = H3
    have f3' : Fr x J3 H3 := by rw [← hH3]; exact Fr.at_
    have f3 : Fr x H H3 := (f2.trans (Fr.of s23)).trans f3'
    have hx3 : H3 x = some (.ins L dx (putF "offsets" (.ref o) (putF "marks" (.ref m) (putF "step" (.int n) (putF "rest" (.int r) []))))) := by rw [← hH3]; exact upd_same
    have ox : o ≠ x := fun z => by rw [z, s2 _ _ hx2] at ho; cases ho
    have tp3 : Tups H3 ts ks := tp.imp fun t xs e => f3 _ _ e (tx t xs e)
    have hc3 := f3.seq cx hc
    refine ⟨_, rfl, c, rfl, ⟨_, hc3⟩, fun g hg => lc_chg (fun k => k.1 + k.2) hc3 tp3 le hg (fun t k J N M e q => ⟨_, _, rfl, .inl (.inl e), rfl, _, _, rfl, _, [], rfl, rfl, rfl, _, rfl, _, rfl, _, _, rfl, rfl, q⟩) fun J4 h4 s4 => ?_⟩
    have gx : g ≠ x := fun z => by rw [z, hx3] at hg; cases hg
    refine ⟨_, rfl, x, L, dx, _, rfl, s4 _ _ hx3, Z.cl, Z.ng, (by show 4 < 1000; decide), ?_⟩
    generalize hH4 : upd J4 x (.ins L dx (putF "goals" (.ref g) (putF "offsets" (.ref o) (putF "marks" (.ref m) (putF "step" (.int n) (putF "rest" (.int r) [])))))) = H4
    have f4' : Fr x J4 H4 := by rw [← hH4]; exact Fr.at_
    have hx4 : H4 x = some (.ins L dx (laneF r n m o g)) := by rw [← hH4]; exact upd_same
    refine k H4 (fun av u hav nav => ⟨dx, m, o, g, hx4, f4' _ _ (s4 _ _ (f3' _ _ (s23 _ _ h12) mx)) mx, f4' _ _ (s4 _ _ (f3' _ _ h3 ox)) ox, f4' _ _ h4 gx, fun z => nav z.symm, fun z => ?_, fun z => ?_, fun z => ?_⟩) fun b u e nb => f4' _ _ (s4 _ _ (f3 _ _ e nb)) nb
    · rw [z, f1 _ _ hav nav] at hm
      cases hm
    · rw [z, s2 _ _ (f2 _ _ hav nav)] at ho
      cases ho
    · rw [z, f3 _ _ hav nav] at hg
      cases hg
theorem scLaneOff : FnScope ["self", "moment"] ["self", "moment"] (defScope sLaneOff) := ⟨rfl, rfl, rfl, by decide +kernel, rfl, by decide +kernel, by decide +kernel⟩
theorem ok_laneOff {f L fU : Addr} {fd dU : FuncData} (F : Fun K "offset" "Lane.offset" sLaneOff f fd) (Z : LaC K mg L) (U : At P w K mg base 1 "many_upto" ["numbers", "limit"] spUpto fU dU) : FnOk P w K mg base CX0 2 f fd ["self", "moment"] (spLaneOff L) := by
  refine F.ok scLaneOff (fun vs H Q E h => ?_) (fun cdv A outer s H vs Q E hr h => ?_)
  · obtain ⟨x, av, r, n, off, t, ks, rfl, _⟩ := h
    rfl
  · obtain ⟨x, av, r, n, off, t, ks, rfl, ⟨dx, m, o, g, hx, hm, ho, hg, _⟩, asc, q⟩ := h
    refine ⟨_, pss_one (ps_ret (pe_ix ix_list (pe_fld (pv 0) rfl) (pe_call U.ok hr (by rfl) U.at_ U.kp U.bi .nil pass0 (pa_cons (pe_fld (pv 0) rfl) (pa_cons (pv 1) pa_nil))) (fun _ _ => rfl))), ?_⟩
    refine ⟨_, rfl, x, L, dx, _, _, rfl, hx, Z.cl, Z.no, laneF_o r n m o g, _, rfl, x, L, dx, _, _, rfl, hx, Z.cl, Z.nm, laneF_m r n m o g, _, rfl, m, _, t, rfl, hm, asc, ?_⟩
    have lt : countUpto (ks.map (·.1)) t < (off :: ks.map (·.2)).length := by
      have := List.length_filter_le (fun n => decide (n ≤ t)) (ks.map (·.1))
      rw [List.length_map] at this
      rw [List.length_cons, List.length_map]
      unfold countUpto
      omega
    refine ⟨o, _, _, _, rfl, rfl, SqL.of ho, atI_nat (j := countUpto (ks.map (·.1)) t) (v := V.int (laneOff off ks t)) ?_, q⟩
    rw [List.getElem?_map, List.getElem?_eq_getElem lt]
    unfold laneOff
    rw [List.getD_eq_getElem?_getD, List.getElem?_eq_getElem lt]
    rfl
end

/-! ### rules -/
def ruF (b c l : Addr) : List (Str × V) := putF "_lanes" (.ref l) (putF "_changes" (.ref c) (putF "_base" (.ref b) []))
theorem ruF_b (b c l : Addr) : (ruF b c l).lookup ("_base" : Str) = some (.ref b) := by
  unfold ruF
  rw [lookup_putF, if_neg (by decide +kernel), lookup_putF, if_neg (by decide +kernel), lookup_putF, if_pos rfl]
theorem ruF_c (b c l : Addr) : (ruF b c l).lookup ("_changes" : Str) = some (.ref c) := by
  unfold ruF
  rw [lookup_putF, if_neg (by decide +kernel), lookup_putF, if_pos rfl]
theorem ruF_l (b c l : Addr) : (ruF b c l).lookup ("_lanes" : Str) = some (.ref l) := by
  unfold ruF
  rw [lookup_putF, if_pos rfl]
theorem ruF_no (b c l : Addr) {x : Str} (h1 : ¬ x = "_lanes") (h2 : ¬ x = "_changes") (h3 : ¬ x = "_base") : (ruF b c l).lookup x = none := by
  unfold ruF
  rw [lookup_putF, if_neg h1, lookup_putF, if_neg h2, lookup_putF, if_neg h3]
  rfl
/-- the changes of one lane -/
def share (cs : List (Int × Int)) (n i : Int) : List (Int × Int) := cs.filter fun k => decide (k.1 % n = i)
def LanesAt (L av : Addr) (H : Hp) (las : List Addr) (bs : List Int) (cs : List (Int × Int)) : Prop := ∀ (i : Nat) (a : Addr) (v : Int), las[i]? = some a → bs[i]? = some v → LaneAt L av H a i bs.length v (share cs bs.length i)
/-- a rule at x, apart from av -/
def RuAt (R L av : Addr) (H : Hp) (x : Addr) (bs : List Int) (cs : List (Int × Int)) : Prop := ∃ dx b c l ts las, H x = some (.ins R dx (ruF b c l)) ∧ H b = some (.lst (bs.map V.int)) ∧ H c = some (.lst (ts.map V.ref)) ∧ Tups H ts cs ∧ H l = some (.lst (las.map V.ref)) ∧ las.length = bs.length ∧
  LanesAt L av H las bs cs ∧ x ≠ av ∧ b ≠ av ∧ c ≠ av ∧ l ≠ av ∧ ∀ t ∈ ts, t ≠ av
theorem Tups.apart {H H' : Hp} {p : Addr} : ∀ {ts : List Addr} {ms : List (Int × Int)}, Tups H ts ms → Fr p H H' → (∀ t ∈ ts, t ≠ p) → Tups H' ts ms
  | [], [], _, _, _ => trivial
  | _ :: _, _ :: _, h, f, n => ⟨f _ _ h.1 (n _ List.mem_cons_self), Tups.apart h.2 f fun t m => n t (List.mem_cons_of_mem _ m)⟩
theorem RuAt.fr {R L av : Addr} {H H' : Hp} {x : Addr} {bs : List Int} {cs : List (Int × Int)} (h : RuAt R L av H x bs cs) (f : Fr av H H') : RuAt R L av H' x bs cs := by
  obtain ⟨dx, b, c, l, ts, las, h1, h2, h3, h4, h5, h6, h7, n1, n2, n3, n4, n5⟩ := h
  exact ⟨dx, b, c, l, ts, las, f _ _ h1 n1, f _ _ h2 n2, f _ _ h3 n3, h4.apart f n5, f _ _ h5 n4, h6, fun i a v e1 e2 => (h7 i a v e1 e2).fr f, n1, n2, n3, n4, n5⟩
theorem RuAt.same {R L av : Addr} {H H' : Hp} {x : Addr} {bs : List Int} {cs : List (Int × Int)} (h : RuAt R L av H x bs cs) (f : Same H H') : RuAt R L av H' x bs cs := h.fr (Fr.of f)
/-- the offset of the bare week, and with changes -/
def wkOff (bs : List Int) (t : Int) : Int := bs.getD (t % bs.length).toNat 0
def offAt (bs : List Int) (cs : List (Int × Int)) (t : Int) : Int := laneOff (wkOff bs t) (share cs bs.length (t % bs.length)) t
theorem offAt_nil (bs : List Int) (t : Int) : offAt bs [] t = wkOff bs t := rfl
def Asc (cs : List (Int × Int)) : Prop := (cs.map (·.1)).Pairwise (· ≤ ·)
theorem Asc.share {cs : List (Int × Int)} (h : Asc cs) (n i : Int) : ((share cs n i).map (·.1)).Pairwise (· ≤ ·) := h.sublist ((List.filter_sublist).map _)
structure RuC (K : PySem.W.Frag) (mg : Str → Option Value) (R : Addr) : Prop where
  cl : Cls K R
  nb : NoAttr K R "_base"
  nc : NoAttr K R "_changes"
  nl : NoAttr K R "_lanes"
  at_ : mg "Rule" = some (.ref R)
def spRuWeek (R L : Addr) : Sp := fun vs H Q _ => ∃ (x av : Addr) (bs : List Int) (cs : List (Int × Int)), vs = [.ref x] ∧ RuAt R L av H x bs cs ∧ Q (.int (bs.length : Nat)) H
def spRuBase (R L : Addr) : Sp := fun vs H Q _ => ∃ (x av : Addr) (bs : List Int) (cs : List (Int × Int)), vs = [.ref x] ∧ RuAt R L av H x bs cs ∧ ∀ q, H q = none → Q (.ref q) (upd H q (.lst (bs.map V.int)))
def ThR (R L : Addr) : Hp → Addr → List (Int × Int) → Prop := fun H x ms => ∃ av bs, RuAt R L av H x bs ms
theorem thR {R L : Addr} : ThOk R (ThR R L) := ⟨fun ⟨av, bs, h⟩ s => ⟨av, bs, h.same s⟩, fun ⟨av, bs, dx, b, c, l, ts, las, h, _⟩ => ⟨dx, _, h⟩⟩
def spRuOff (R L : Addr) : Sp := fun vs H Q _ => ∃ (x av : Addr) (t : Int) (bs : List Int) (cs : List (Int × Int)), vs = [.ref x, .int t] ∧ RuAt R L av H x bs cs ∧ 0 < bs.length ∧ Asc cs ∧ Q (.int (offAt bs cs t)) H
def spRuAns (R L : Addr) : Sp := fun vs H Q _ => ∃ (x av : Addr) (t : Int) (bs : List Int) (cs : List (Int × Int)), vs = [.ref x, .int t] ∧ RuAt R L av H x bs cs ∧ 0 < bs.length ∧ Asc cs ∧ Q (.int (t + offAt bs cs t)) H
section
variable {P : Program} {w : World} {K : PySem.W.Frag} {mg : Str → Option Value} {base : Heap}
theorem scRuWeek : FnScope ["self"] ["self"] (defScope sRuWeek) := ⟨rfl, rfl, rfl, by decide +kernel, rfl, by decide +kernel, by decide +kernel⟩
theorem scRuBase : FnScope ["self"] ["self"] (defScope sRuBase) := ⟨rfl, rfl, rfl, by decide +kernel, rfl, by decide +kernel, by decide +kernel⟩
theorem scRuChanges : FnScope ["self"] ["self"] (defScope sRuChanges) := ⟨rfl, rfl, rfl, by decide +kernel, rfl, by decide +kernel, by decide +kernel⟩
theorem ok_ruWeek {f R L : Addr} {fd : FuncData} (F : Fun K "week" "Rule.week" sRuWeek f fd) (Z : RuC K mg R) (T : Blt mg) : FnOk P w K mg base CX0 1 f fd ["self"] (spRuWeek R L) := by
  refine F.ok scRuWeek (fun vs H Q E h => ?_) (fun cdv A outer s H vs Q E hr h => ?_)
  · obtain ⟨x, av, bs, cs, rfl, _⟩ := h
    rfl
  · obtain ⟨x, av, bs, cs, rfl, ⟨dx, b, c, l, ts, las, hx, hb, _⟩, k⟩ := h
    refine ⟨_, pss_one (ps_ret (pe_callB call_len_seq (by rfl) T.len PySem.boot_len (pa_cons (pe_fld (pv 0) rfl) pa_nil))), ?_⟩
    refine ⟨_, rfl, x, R, dx, _, _, rfl, hx, Z.cl, Z.nb, ruF_b b c l, b, _, rfl, .inl (SqL.of hb), ?_⟩
    rw [List.length_map]
    exact k
theorem ok_ruBase {f R L : Addr} {fd : FuncData} (F : Fun K "base" "Rule.base" sRuBase f fd) (Z : RuC K mg R) (T : Blt mg) : FnOk P w K mg base CX0 1 f fd ["self"] (spRuBase R L) := by
  refine F.ok scRuBase (fun vs H Q E h => ?_) (fun cdv A outer s H vs Q E hr h => ?_)
  · obtain ⟨x, av, bs, cs, rfl, _⟩ := h
    rfl
  · obtain ⟨x, av, bs, cs, rfl, ⟨dx, b, c, l, ts, las, hx, hb, _⟩, k⟩ := h
    refine ⟨_, pss_one (ps_ret (pe_callTy call_list_of (by rfl) T.list (by decide +kernel) (pa_cons (pe_fld (pv 0) rfl) pa_nil))), ?_⟩
    exact ⟨_, rfl, x, R, dx, _, _, rfl, hx, Z.cl, Z.nb, ruF_b b c l, b, _, rfl, .inl (SqL.of hb), k⟩
theorem ok_ruChanges {f R L : Addr} {fd : FuncData} (F : Fun K "changes" "Rule.changes" sRuChanges f fd) (Z : RuC K mg R) (T : Blt mg) : FnOk P w K mg base CX0 1 f fd ["self"] (spChOf (ThR R L)) := by
  refine F.ok scRuChanges (fun vs H Q E h => ?_) (fun cdv A outer s H vs Q E hr h => ?_)
  · obtain ⟨x, ms, rfl, _⟩ := h
    rfl
  · obtain ⟨x, cs, rfl, ⟨av, bs, dx, b, c, l, ts, las, hx, hb, hc, tp, _⟩, k⟩ := h
    refine ⟨_, pss_one (ps_ret (pe_callTy call_list_of (by rfl) T.list (by decide +kernel) (pa_cons (pe_fld (pv 0) rfl) pa_nil))), ?_⟩
    refine ⟨_, rfl, x, R, dx, _, _, rfl, hx, Z.cl, Z.nc, ruF_c b c l, c, _, rfl, .inl (SqL.of hc), fun q hq => ?_⟩
    exact k _ q ts (same_new hq) hq upd_same (tp.same (same_new hq))
theorem scRuOff : FnScope ["self", "moment"] ["self", "moment"] (defScope sRuOff) := ⟨rfl, rfl, rfl, by decide +kernel, rfl, by decide +kernel, by decide +kernel⟩
theorem ok_ruOff {f R L fO : Addr} {fd dO : FuncData} (F : Fun K "offset" "Rule.offset" sRuOff f fd) (Z : RuC K mg R) (T : Blt mg) (ZL : LaC K mg L) (hLO : Meth K L "offset" fO) (GLO : FnOk P w K mg base CX0 2 fO dO ["self", "moment"] (spLaneOff L)) (bLO : Binds K dO ["self", "moment"] []) :
    FnOk P w K mg base CX0 3 f fd ["self", "moment"] (spRuOff R L) := by
  refine F.ok scRuOff (fun vs H Q E h => ?_) (fun cdv A outer s H vs Q E hr h => ?_)
  · obtain ⟨x, av, t, bs, cs, rfl, _⟩ := h
    rfl
  · obtain ⟨x, av, t, bs, cs, rfl, ⟨dx, b, c, l, ts, las, hx, hb, hc, tp, hl, ll, la, _⟩, l0, asc, q⟩ := h
    refine ⟨_, pss_one (ps_ret (pe_meth (pe_ix ix_list (pe_fld (pv 0) rfl) (pe_op op_mod (pv 1) (pe_callB call_len_seq (by rfl) T.len PySem.boot_len (pa_cons (pe_fld (pv 0) rfl) pa_nil))) (fun _ _ => rfl)) ZL.cl hLO GLO hr bLO .nil pass0 (pa_cons (pv 1) pa_nil))), ?_⟩
    have h0 := Int.emod_nonneg t (show (bs.length : Int) ≠ 0 by omega)
    have h1 := Int.emod_lt_of_pos t (show (0 : Int) < bs.length by omega)
    have hj : (t % (bs.length : Int)).toNat < las.length := by omega
    have hj2 : (t % (bs.length : Int)).toNat < bs.length := by omega
    have ej : t % ((las.map V.ref).length : Nat) = (((t % (bs.length : Int)).toNat : Nat) : Int) := by
      rw [List.length_map, ll]
      omega
    have lane := la _ _ _ (List.getElem?_eq_getElem hj) (List.getElem?_eq_getElem hj2)
    have lane' := lane
    obtain ⟨da, m, o, g, ha, _⟩ := lane'
    refine ⟨_, rfl, x, R, dx, _, _, rfl, hx, Z.cl, Z.nl, ruF_l b c l, _, rfl, _, rfl, x, R, dx, _, _, rfl, hx, Z.cl, Z.nl, ruF_l b c l, l, _, rfl, .inl (SqL.of hl), _, _, rfl, rfl, (by rw [List.length_map]; omega),
      l, _, _, _, rfl, rfl, SqL.of hl, at_of (j := (t % (bs.length : Int)).toNat) (v := V.ref las[(t % (bs.length : Int)).toNat]) ej (by rw [List.getElem?_map, List.getElem?_eq_getElem hj]; rfl),
      _, da, _, rfl, ha, laneF_no _ _ _ _ _ (by decide +kernel) (by decide +kernel) (by decide +kernel) (by decide +kernel) (by decide +kernel), _, rfl, ⟨_, av, _, _, _, t, _, rfl, lane, asc.share _ _, ?_⟩⟩
    have e : offAt bs cs t = laneOff bs[(t % (bs.length : Int)).toNat] (share cs bs.length ((t % (bs.length : Int)).toNat : Nat)) t := by
      unfold offAt wkOff
      rw [List.getD_eq_getElem?_getD, List.getElem?_eq_getElem hj2, Int.toNat_of_nonneg h0]
      rfl
    rw [e] at q
    exact q
theorem scRuAns : FnScope ["self", "moment"] ["self", "moment"] (defScope sRuAns) := ⟨rfl, rfl, rfl, by decide +kernel, rfl, by decide +kernel, by decide +kernel⟩
theorem ok_ruAns {f R L fO : Addr} {fd dO : FuncData} (F : Fun K "answer" "Rule.answer" sRuAns f fd) (Z : RuC K mg R) (hRO : Meth K R "offset" fO) (GRO : FnOk P w K mg base CX0 3 fO dO ["self", "moment"] (spRuOff R L)) (bRO : Binds K dO ["self", "moment"] []) :
    FnOk P w K mg base CX0 4 f fd ["self", "moment"] (spRuAns R L) := by
  refine F.ok scRuAns (fun vs H Q E h => ?_) (fun cdv A outer s H vs Q E hr h => ?_)
  · obtain ⟨x, av, t, bs, cs, rfl, _⟩ := h
    rfl
  · obtain ⟨x, av, t, bs, cs, rfl, ru, l0, asc, q⟩ := h
    refine ⟨_, pss_one (ps_ret (pe_op op_add (pv 1) (pe_meth (pv 0) Z.cl hRO GRO hr bRO .nil pass0 (pa_cons (pv 1) pa_nil)))), ?_⟩
    obtain ⟨dx, b, c, l, _, _, hx, _⟩ := id ru
    exact ⟨_, rfl, _, rfl, x, dx, _, rfl, hx, ruF_no b c l (by decide +kernel) (by decide +kernel) (by decide +kernel), _, rfl, ⟨x, av, t, bs, cs, rfl, ru, l0, asc, _, _, rfl, rfl, q⟩⟩
theorem scRuCall : FnScope ["self", "moment"] ["self", "moment"] (defScope sRuCall) := ⟨rfl, rfl, rfl, by decide +kernel, rfl, by decide +kernel, by decide +kernel⟩
theorem ok_ruCall {f R L fA : Addr} {fd dA : FuncData} (F : Fun K "__call__" "Rule.__call__" sRuCall f fd) (Z : RuC K mg R) (hRA : Meth K R "answer" fA) (GRA : FnOk P w K mg base CX0 4 fA dA ["self", "moment"] (spRuAns R L)) (bRA : Binds K dA ["self", "moment"] []) :
    FnOk P w K mg base CX0 5 f fd ["self", "moment"] (spRuAns R L) := by
  refine F.ok scRuCall (fun vs H Q E h => ?_) (fun cdv A outer s H vs Q E hr h => ?_)
  · obtain ⟨x, av, t, bs, cs, rfl, _⟩ := h
    rfl
  · obtain ⟨x, av, t, bs, cs, rfl, ru, l0, asc, q⟩ := h
    refine ⟨_, pss_one (ps_ret (pe_meth (pv 0) Z.cl hRA GRA hr bRA .nil pass0 (pa_cons (pv 1) pa_nil))), ?_⟩
    obtain ⟨dx, b, c, l, _, _, hx, _⟩ := id ru
    exact ⟨_, rfl, x, dx, _, rfl, hx, ruF_no b c l (by decide +kernel) (by decide +kernel) (by decide +kernel), _, rfl, ⟨x, av, t, bs, cs, rfl, ru, l0, asc, q⟩⟩
end

/-! ### rules without changes: how they are made -/
def spTelling0 (K : PySem.W.Frag) : Sp := fun vs H Q _ => ∃ (a c : Addr) (bs : List Int), vs = [.ref a, .ref c] ∧ SqL K H a (bs.map V.int) ∧ SqL K H c [] ∧ ∀ (H' : Hp) (q : Addr), Same H H' → H q = none → H' q = some (.lst []) → Q (.ref q) H'
def spLanes0 (L : Addr) (K : PySem.W.Frag) : Sp := fun vs H Q _ => ∃ (a c : Addr) (bs : List Int), vs = [.ref a, .ref c] ∧ SqL K H a (bs.map V.int) ∧ SqL K H c [] ∧ bs.length ≤ 12 ∧
  ∀ (H' : Hp) (q : Addr) (las : List Addr), Same H H' → H q = none → H' q = some (.lst (las.map V.ref)) → las.length = bs.length → (∀ l ∈ las, H l = none) → (∀ av o, H av = some o → LanesAt L av H' las bs []) → Q (.ref q) H'
def spAscend0 (K : PySem.W.Frag) : Sp := fun vs H Q _ => ∃ c : Addr, vs = [.ref c] ∧ SqL K H c [] ∧ Q .non H
def spBeside : Sp := fun vs H Q _ => ∃ (a : Addr) (cs : List Int) (n z : Int), vs = [.ref a, .int n, .int z] ∧ H a = some (.lst (cs.map V.int)) ∧ 0 ≤ n ∧ cs.length + n.toNat ≤ 30 ∧ (-(2 ^ 60) ≤ z ∧ z ≤ 2 ^ 60 ∧ n ≤ 12) ∧
  ∀ (H' : Hp) (q : Addr) (ks : List Int), Same H H' → H q = none → H' q = some (.lst (ks.map V.int)) → ks.length ≤ 60 → Q (.ref q) H'
/-- values rise from each moment to the next one -/
def Rises (bs : List Int) : Prop := ∀ t : Int, wkOff bs t ≤ wkOff bs (t + 1) + 1
def spRising0 (R L : Addr) : Sp := fun vs H Q _ => ∃ (x av : Addr) (bs : List Int), vs = [.ref x] ∧ RuAt R L av H x bs [] ∧ 0 < bs.length ∧ bs.length ≤ 12 ∧ Rises bs ∧ ∀ H', Same H H' → Q .non H'
def spRuI0 (R L : Addr) (K : PySem.W.Frag) : Sp := fun vs H Q _ => ∃ (x dx a c : Addr) (bs : List Int), vs = [.ref x, .ref a, .ref c] ∧ H x = some (.ins R dx []) ∧ H dx = some (.own x) ∧ dx ≠ x ∧ SqL K H a (bs.map V.int) ∧ SqL K H c [] ∧ a ≠ x ∧ c ≠ x ∧ 0 < bs.length ∧ bs.length ≤ 12 ∧ Rises bs ∧
  ∀ H', (∀ av o, H av = some o → av ≠ x → RuAt R L av H' x bs []) → (∀ b o, H b = some o → b ≠ x → H' b = some o) → Q .non H'
section
variable {P : Program} {w : World} {K : PySem.W.Frag} {mg : Str → Option Value} {base : Heap}
theorem scAscend : FnScope ["changes", "index"] ["changes"] (defScope sAscend) := ⟨rfl, rfl, rfl, by decide +kernel, rfl, by decide +kernel, by decide +kernel⟩
theorem ok_ascend0 {f fB : Addr} {fd dB : FuncData} (F : Fun K "check_ascending" "check_ascending" sAscend f fd) (T : Blt mg) (B : At P w K mg base 1 "is_behind" ["changes", "index"] (spBehind K) fB dB) : FnOk P w K mg base CX0 2 f fd ["changes"] (spAscend0 K) := by
  refine F.ok scAscend (fun vs H Q E h => ?_) (fun cdv A outer s H vs Q E hr h => ?_)
  · obtain ⟨c, rfl, _⟩ := h
    rfl
  · obtain ⟨c, rfl, hc, q⟩ := h
    refine ⟨_, pss_one (ps_for PassesOwn.never rfl (pi_range1 (by rfl) T.range (pa_cons (pe_callB call_len_seq (by rfl) T.len PySem.boot_len (pa_cons (pv 0) pa_nil)) pa_nil)) (pg_name (i := 1) scAscend.nd rfl (.inl rfl))
        (pss_one (ps_if (pt_not (pt_val (pe_call B.ok hr (by rfl) B.at_ B.kp B.bi .nil pass0 (pa_cons (pv 0) (pa_cons (pv 1) pa_nil)))))
          (pss_one ps_never)
          pss_nil))), ?_⟩
    refine ⟨_, rfl, c, _, rfl, .inl hc, _, rfl, (by decide), (by decide), for_it walk_range (fun i σ J => J = H) rfl (fun i σ J _ _ => trivial) ?_ ?_⟩
    · rintro i v σ J J' hi rfl _
      simp at hi
    · rintro σ J rfl
      exact q
theorem scTelling : FnScope ["base", "changes", "offsets", "told", "moment", "offset", "rest"] ["base", "changes"] (defScope sTelling) := ⟨rfl, rfl, rfl, by decide +kernel, rfl, by decide +kernel, by decide +kernel⟩
theorem ok_telling0 {f : Addr} {fd : FuncData} (F : Fun K "telling_changes" "telling_changes" sTelling f fd) (T : Blt mg) : FnOk P w K mg base CX0 1 f fd ["base", "changes"] (spTelling0 K) := by
  refine F.ok scTelling (fun vs H Q E h => ?_) (fun cdv A outer s H vs Q E hr h => ?_)
  · obtain ⟨a, c, bs, rfl, _⟩ := h
    rfl
  · obtain ⟨a, c, bs, rfl, ha, hc, k⟩ := h
    refine ⟨_, pss_cons (ps_set (i := 2) scTelling.nd rfl (.inl rfl) (pe_callTy call_list_of (by rfl) T.list (by decide +kernel) (pa_cons (pv 0) pa_nil)))
      (pss_cons (ps_set (i := 3) scTelling.nd rfl (.inl rfl) (pe_lst pa_nil))
      (pss_cons (ps_for PassesOwn.never rfl (pi_list (pv 1)) (pg_tup rfl (pgs_cons (pg_name (i := 4) scTelling.nd rfl (.inl rfl)) (pgs_cons (pg_name (i := 5) scTelling.nd rfl (.inl rfl)) pgs_nil)))
        (pss_cons (ps_set (i := 6) scTelling.nd rfl (.inl rfl) (pe_op op_mod (pv 4) (pe_callB call_len_seq (by rfl) T.len PySem.boot_len (pa_cons (pv 2) pa_nil))))
        (C8.pss_cut (ps_if (pt_cmpR op_ne (pv 5) (pe_ix ix_list (pv 2) (pv 6) (fun _ _ => rfl)) (nomark _))
          (pss_one (ps_expr (pe_bm PySem.F.plainAttrs_list PySem.F.slot_list_append PySem.F.type_list_append mt_append (pv 3) (pa_cons (pe_tup (pa_cons (pv 4) (pa_cons (pv 5) pa_nil))) pa_nil))))
          pss_nil)
        (pss_one (ps_asg (pv 5) (pg_sub (pv 2) (pv 6) set_list))))))
      (pss_one (ps_ret (pv 3))))), ?_⟩
    refine ⟨_, rfl, a, _, rfl, .inl ha, fun o ho => ?_⟩
    have s1 := same_new (o := .lst (bs.map V.int)) ho
    refine ⟨(by show 0 ≤ sizeLine; decide), fun q hq => ?_⟩
    have s2 := same_new (o := .lst []) hq
    have s12 := s1.trans s2
    refine ⟨_, rfl, c, rfl, ⟨_, s12.seq hc⟩, for_it (walk_list (K := K) (a := c) (xs := [])) (fun i σ J => σ = [some (.ref a), some (.ref c), some (.ref o), some (.ref q), none, none, none] ∧ J = upd (upd H o (.lst (bs.map V.int))) q (.lst [])) ⟨rfl, rfl⟩ (fun i σ J _ ⟨_, e⟩ => by rw [e]; exact s12.seq hc) ?_ ?_⟩
    · rintro i v σ J J' hi _ _
      exact absurd hi (Nat.not_lt_zero _)
    · rintro σ J ⟨rfl, rfl⟩
      exact ⟨_, rfl, k _ q s12 (s1.free hq) upd_same⟩
theorem scLanes : FnScope ["base", "changes", "shares", "moment", "offset", "_", "rest", "share"] ["base", "changes"] (defScope sLanes) := ⟨rfl, rfl, rfl, by decide +kernel, rfl, by decide +kernel, by decide +kernel⟩
theorem ok_lanes0 {f L fI : Addr} {fd dI : FuncData} (F : Fun K "lanes_of" "lanes_of" sLanes f fd) (T : Blt mg) (ne : mg "enumerate" = none) (ZL : LaC K mg L) (ML : Mk K L fI) (GLI : FnOk P w K mg base CX0 1 fI dI ["self", "rest", "step", "offset", "changes"] (spLaneI L K)) (bLI : Binds K dI ["self", "rest", "step", "offset", "changes"] []) :
    FnOk P w K mg base CX0 3 f fd ["base", "changes"] (spLanes0 L K) := by
  refine F.ok scLanes (fun vs H Q E h => ?_) (fun cdv A outer s H vs Q E hr h => ?_)
  · obtain ⟨a, c, bs, rfl, _⟩ := h
    rfl
  · obtain ⟨a, c, bs, rfl, ha, hc, l1, k⟩ := h
    refine ⟨_, pss_cons (ps_setLc (i := 2) (own := [("_", 5)]) (g := gName 5) (tt := tYes) rfl scLanes.nd rfl rfl (sw_true rfl rfl rfl (by decide +kernel)) (pi_list (pv 0))
          (blkOk_by (N := ["base", "changes", "shares", "moment", "offset", "_", "rest", "share"]) (sc := defScope sLanes) (by decide +kernel)) (fun _ _ _ _ _ => pg_name (i := 5) scLanes.nd rfl (.inl rfl)) (fun _ _ _ _ _ => pts_nil)
          (fun _ _ _ _ _ => (pe_lst pa_nil)))
      (pss_cons (ps_for PassesOwn.never rfl (pi_list (pv 1)) (pg_tup rfl (pgs_cons (pg_name (i := 3) scLanes.nd rfl (.inl rfl)) (pgs_cons (pg_name (i := 4) scLanes.nd rfl (.inl rfl)) pgs_nil)))
        (pss_one (ps_expr (pe_bm PySem.F.plainAttrs_list PySem.F.slot_list_append PySem.F.type_list_append mt_append (pe_ix ix_list (pv 2) (pe_op op_mod (pv 3) (pe_callB call_len_seq (by rfl) T.len PySem.boot_len (pa_cons (pv 0) pa_nil))) (fun _ _ => rfl)) (pa_cons (pe_tup (pa_cons (pv 3) (pa_cons (pv 4) pa_nil))) pa_nil)))))
      (pss_one (ps_ret (pe_lc (own := [("rest", 6), ("share", 7)]) (g := gTup K 2 (gCons (gName 6) (gCons (gName 7) gNil))) (tt := tYes) rfl scLanes.nd (pi_enum (by rfl) ne (pa_cons (pv 2) pa_nil))
          (blkOk_by (N := ["base", "changes", "shares", "moment", "offset", "_", "rest", "share"]) (sc := defScope sLanes) (by decide +kernel)) (fun _ _ _ _ _ => pg_tup rfl (pgs_cons (pg_name (i := 6) scLanes.nd rfl (.inl rfl)) (pgs_cons (pg_name (i := 7) scLanes.nd rfl (.inl rfl)) pgs_nil))) (fun _ _ _ _ _ => pts_nil)
          (fun _ _ _ _ _ => (pe_make ML GLI hr (by rfl) ZL.at_ bLI .nil pass0 (pa_cons (pv 6) (pa_cons (pe_callB (r := rLen K) call_len_seq (by rfl) T.len PySem.boot_len (pa_cons (pv 0) pa_nil)) (pa_cons (pe_ix (r := rIxL K) ix_list (pv 0) (pv 6) (fun _ _ => rfl)) (pa_cons (pv 7) pa_nil)))))))))), ?_⟩
    refine ⟨_, rfl, a, rfl, ⟨_, ha⟩, fun D hD => lc_list (K := K) (a := a) (xs := bs.map V.int) (fun i J => ∃ ss : List Addr, J D = some (.lst (ss.map V.ref)) ∧ ss.length = i ∧ (∀ t ∈ ss, J t = some (.lst []) ∧ t ≠ D) ∧ Same H J) ⟨[], upd_same, rfl, (fun t ht => nomatch ht), same_new hD⟩
      (fun i J _ ⟨_, _, _, _, h⟩ => h.seq ha) ?_ ?_⟩
    · rintro i v J hi ⟨ss, hJ, hl, hs, sJ⟩
      refine ⟨rfl, (by show 0 ≤ sizeLine; decide), fun e ne => ?_⟩
      have De : D ≠ e := ne_of_none hJ ne
      have hi2 : i < bs.length := by
        have := (List.getElem?_eq_some_iff.mp hi).1
        simpa using this
      refine ⟨_, by rw [upd_ne De]; exact hJ, by rw [List.length_map, hl]; exact small1000 (by omega), ss ++ [e], ?_, ?_, fun t ht => ?_, fun b o h => ?_⟩
      · rw [upd_same, List.map_append]
        rfl
      · rw [List.length_append, hl]
        rfl
      · rcases List.mem_append.mp ht with ht | ht
        · obtain ⟨h1, h2⟩ := hs t ht
          refine ⟨?_, h2⟩
          rw [upd_ne h2, upd_ne (ne_of_none h1 ne)]
          exact h1
        · obtain rfl := List.mem_singleton.mp ht
          refine ⟨?_, De.symm⟩
          rw [upd_ne De.symm]
          exact upd_same
      · rw [upd_ne (ne_of_none h hD), upd_ne (ne_of_none (sJ _ _ h) ne)]
        exact sJ _ _ h
    · rintro J ⟨ss, hJ, hl, hs, sJ⟩
      rw [List.length_map] at hl
      refine ⟨_, rfl, c, rfl, ⟨_, sJ.seq hc⟩, for_it (walk_list (K := K) (a := c) (xs := [])) (fun i σ J2 => σ = [some (.ref a), some (.ref c), some (.ref D), none, none, none, none, none] ∧ J2 = J) ⟨rfl, rfl⟩ (fun i σ J2 _ ⟨_, e⟩ => by rw [e]; exact sJ.seq hc) ?_ ?_⟩
      · rintro i v σ J2 J' hi _ _
        exact absurd hi (Nat.not_lt_zero _)
      · rintro σ J2 ⟨rfl, rfl⟩
        refine ⟨_, rfl, D, _, rfl, SqL.of hJ, fun D2 hD2 => ?_⟩
        refine lc_it (walk_enum (K := K) (a := D) (xs := ss.map V.ref)) (fun i I => ∃ las : List Addr, I D2 = some (.lst (las.map V.ref)) ∧ las.length = i ∧ (∀ l ∈ las, H l = none) ∧ (∀ av, (av = D2 ∨ ∃ o, H av = some o) → ∀ (j : Nat) (a : Addr) (v : Int), las[j]? = some a → bs[j]? = some v → LaneAt L av I a j bs.length v []) ∧ Same J2 I)
          ⟨[], upd_same, rfl, (fun t ht => nomatch ht), (fun av _ j a v e => by rw [List.getElem?_nil] at e; cases e), same_new hD2⟩ (fun i I _ ⟨_, _, _, _, _, h⟩ => SqL.of (h _ _ hJ)) ?_ ?_
        · rintro i v I I' hi ⟨las, hI, lI, fr, la, sI⟩ ⟨T', x1, x2, rfl, nT, rfl, e1, e2⟩
          obtain rfl := Option.some.inj e1
          have hi' : i < ss.length := by simpa using hi
          replace e2 : (List.map _ _)[i]? = some x2 := e2
          rw [List.getElem?_map, List.getElem?_eq_getElem hi'] at e2
          obtain rfl := Option.some.inj e2
          have sT := same_new (o := .tup [.int (i : Nat), .ref ss[i]]) nT
          have hb : i < bs.length := by omega
          have sIT := sI.trans sT
          have sA := (sJ.trans sIT)
          have hS := sIT _ _ (hs _ (List.getElem_mem hi')).1
          refine ⟨T', _, rfl, .inl (.inl upd_same), rfl, _, _, rfl, _, [], rfl, rfl, rfl, ?_⟩
          refine ⟨_, rfl, _, rfl, a, _, rfl, .inl (sA.seq ha), _, rfl, _, rfl, a, _, _, _, rfl, rfl, sA.seq ha, atI_nat (j := i) (v := V.int bs[i]) (by rw [List.getElem?_map, List.getElem?_eq_getElem hb]; rfl), _, rfl, fun x dx hx hd dn => ?_⟩
          have s1 := same_new (o := HO.own x) hd
          have hx1 : upd (upd I T' (.tup [.int (i : Nat), .ref ss[i]])) dx (.own x) x = none := by rw [upd_ne dn.symm]; exact hx
          have s2 := same_new (o := .ins L dx []) hx1
          have s012 := sIT.trans (s1.trans s2)
          have hxn := (sT.trans s1).trans s2
          refine ⟨x, dx, ss[i], _, _, _, [], [], rfl, upd_same, SqL.of ((s1.trans s2) _ _ hS), ne_of_none hS hx, trivial, (by show 0 ≤ 900; decide), fun H' lane keep => ⟨rfl, ?_⟩⟩
          · have D2x : D2 ≠ x := fun z => by rw [← z, sT _ _ hI] at hx; cases hx
            have nx : ∀ {b o}, I b = some o → b ≠ x := fun {b o} e z => by rw [← z, sT _ _ e] at hx; cases hx
            have kp : ∀ b o, I b = some o → H' b = some o := fun b o e => keep _ _ (hxn _ _ e) (nx e)
            have hI' := kp _ _ hI
            refine ⟨_, hI', by rw [List.length_map, lI]; exact small1000 (by omega), las ++ [x], ?_, ?_, fun l hl => ?_, fun av hav j a' v' ea eb => ?_, fun b o e => ?_⟩
            · rw [upd_same, List.map_append]
              rfl
            · rw [List.length_append, lI]
              rfl
            · rcases List.mem_append.mp hl with hl | hl
              · exact fr l hl
              · obtain rfl := List.mem_singleton.mp hl
                exact sA.free hx
            · have fD : Fr D2 H' (upd H' D2 (.lst (las.map V.ref ++ [.ref x]))) := Fr.at_
              have avx : av ≠ x := by
                rcases hav with rfl | ⟨o, ho⟩
                · exact D2x
                · exact nx (sI _ _ (sJ _ _ ho))
              have avs : ∃ o, upd (upd (upd I T' (.tup [.int (i : Nat), .ref ss[i]])) dx (.own x)) x (.ins L dx []) av = some o := by
                rcases hav with rfl | ⟨o, ho⟩
                · exact ⟨_, hxn _ _ hI⟩
                · exact ⟨_, hxn _ _ (sI _ _ (sJ _ _ ho))⟩
              obtain ⟨o2, ho2⟩ := avs
              have both : LaneAt L av H' a' j bs.length v' [] ∧ LaneAt L D2 H' a' j bs.length v' [] := by
                rcases Nat.lt_or_ge j las.length with hj | hj
                · rw [List.getElem?_append_left hj] at ea
                  have h1 := la av hav j a' v' ea eb
                  have h2 := la D2 (.inl rfl) j a' v' ea eb
                  exact ⟨h1.same kp, h2.same kp⟩
                · have hj2 : j = las.length := by
                    have := (List.getElem?_eq_some_iff.mp ea).1
                    rw [List.length_append] at this
                    simp at this
                    omega
                  subst hj2
                  rw [List.getElem?_append_right (Nat.le_refl _), Nat.sub_self] at ea
                  obtain rfl := Option.some.inj ea
                  rw [lI, List.getElem?_eq_getElem hb] at eb
                  obtain rfl := Option.some.inj eb
                  rw [lI]
                  have z1 := lane av _ ho2 avx
                  have z2 := lane D2 _ (hxn _ _ hI) D2x
                  rw [List.length_map] at z1 z2
                  exact ⟨z1, z2⟩
              obtain ⟨z1, z2⟩ := both
              exact z1.mix z2 fD
            · have := kp _ _ (sI _ _ e)
              rw [upd_ne (ne_of_none e hD2)]
              exact this
        · rintro I ⟨las, hI, lI, fr, la, sI⟩
          rw [List.length_map, hl] at lI
          exact k I D2 las (sJ.trans sI) (sJ.free hD2) hI lI fr fun av o ho i a v e1 e2 => la av (.inr ⟨o, ho⟩) i a v e1 e2
end

section
variable {P : Program} {w : World} {K : PySem.W.Frag} {mg : Str → Option Value} {base : Heap}
theorem scBeside : FnScope ["cuts", "week", "centre", "parted", "cut", "moment"] ["cuts", "week", "centre"] (defScope sBeside) := ⟨rfl, rfl, rfl, by decide +kernel, rfl, by decide +kernel, by decide +kernel⟩
theorem rgV_ints (a b : Int) : rgV a b = ((List.range (b - a).toNat).map fun i : Nat => a + (i : Int)).map V.int := by
  unfold rgV
  rw [List.map_map]
  rfl
theorem ok_beside {f : Addr} {fd : FuncData} (F : FunD K "beside" "beside" (defArgs sBeside) (defBody sBeside) (defScope sBeside) [.int 0] [] f fd) (T : Blt mg) (T5 : Blt5 mg) : FnOk P w K mg base CX0 1 f fd ["cuts", "week", "centre"] spBeside := by
  refine F.ok scBeside (fun vs H Q E h => ?_) (fun cdv A outer s H vs Q E hr h => ?_)
  · obtain ⟨a, cs, n, z, rfl, _⟩ := h
    rfl
  · obtain ⟨a, cs, n, z, rfl, ha, n0, le, zb, k⟩ := h
    suffices hh : ∃ t, PSs (cxOf CX0 P w K mg base ["cuts", "week", "centre", "parted", "cut", "moment"] "beside" (defScope sBeside) f cdv A outer s H E).nox (defBody sBeside) t ∧ t { nx := fun _ H' => Q .non H', rt := Q } (start ["cuts", "week", "centre", "parted", "cut", "moment"] [V.ref a, V.int n, V.int z]) H by
      obtain ⟨t, h1, h2⟩ := hh
      exact ⟨t, h1.nox, h2⟩
    refine ⟨_, pss_cons (ps_set (i := 3) scBeside.nd rfl (.inl rfl) (pe_op op_cat (pv 0) (pe_listRg rfl (by rfl) T.list (prg_2 (by rfl) T.range (pv 2) (pe_op op_add (pv 2) (pv 1))))))
      (pss_one (ps_ret (pe_callB (cr_sortedSet rfl) (by rfl) T5.sorted (by decide +kernel) (pa_cons (pe_sc2 (own := [("cut", 4), ("moment", 5)]) (us := [5]) (g := gName 4) (gj := gName 5) (tt := tYes) (tj := tYes) (te := tVar 5) (wj := iTup K _) rfl scBeside.nd
        (pi_list (pv 3))
        (blkOk_by (N := ["cuts", "week", "centre", "parted", "cut", "moment"]) (sc := defScope sBeside) (by decide +kernel)) (by decide)
        (fun _ _ _ _ _ => pg_name (i := 4) scBeside.nd rfl (.inl rfl)) (fun _ _ _ _ _ => pts_nil)
        (fun _ _ _ _ _ => pi_tup (pe_tup (pa_cons (pv 4) (pa_cons (pe_op op_sub (pv 4) (pv 1)) pa_nil))))
        (fun _ _ _ _ _ => pg_name (i := 5) scBeside.nd rfl (.inl rfl)) (fun _ _ _ _ _ => pts_nil)
        (fun _ _ _ _ _ => pv 5)) pa_nil)))), ?_⟩
    refine ⟨_, rfl, _, rfl, _, rfl, _, rfl, _, _, rfl, rfl, _, _, rfl, rfl, ⟨by omega, by omega, by omega, by omega, by omega⟩, fun r hr1 => ?_⟩
    have s1 := same_new (o := .lst (rgV z (z + n))) hr1
    have hrl : (rgV z (z + n)).length = n.toNat := by rw [rgV_length]; omega
    refine ⟨a, r, _, _, rfl, rfl, s1 _ _ ha, upd_same, by rw [List.length_map, hrl, sizeLine_eq]; omega, fun G nG => ?_⟩
    have eG : cs.map V.int ++ rgV z (z + n) = (cs ++ ((List.range (z + n - z).toNat).map fun i : Nat => z + (i : Int))).map V.int := by rw [rgV_ints, List.map_append]
    rw [eG]
    have gl : (cs ++ ((List.range (z + n - z).toNat).map fun i : Nat => z + (i : Int))).length ≤ 30 := by
      rw [List.length_append, List.length_map, List.length_range]
      omega
    generalize cs ++ ((List.range (z + n - z).toNat).map fun i : Nat => z + (i : Int)) = gs at gl ⊢
    have s2 := same_new (o := .lst (gs.map V.int)) nG
    have hG := upd_same (H := upd H r (.lst (rgV z (z + n)))) (a := G) (o := .lst (gs.map V.int))
    have s12 := s1.trans s2
    generalize upd (upd H r (.lst (rgV z (z + n)))) G (.lst (gs.map V.int)) = H3 at hG s2 s12 ⊢
    refine ⟨_, rfl, G, rfl, ⟨_, SqL.of hG⟩, fun D hD => wk_lst (K := K) (a := G) (xs := gs.map V.int) (fun i J => ∃ (S : Int → Bool) (m : Nat), J D = some (SetO w D S m) ∧ m ≤ 2 * i ∧ Same H3 J)
      ⟨_, 0, upd_same, Nat.zero_le _, same_new hD⟩ (fun i J _ ⟨_, _, _, _, h⟩ => SqL.of (h _ _ hG)) ?_ ?_⟩
    · rintro i y J hi ⟨S, m, hJ, hm, sJ⟩
      have hi2 : i < gs.length := by
        have := (List.getElem?_eq_some_iff.mp hi).1
        simpa using this
      rw [List.getElem?_map, List.getElem?_eq_getElem hi2] at hi
      obtain rfl := Option.some.inj hi
      refine ⟨rfl, _, rfl, _, rfl, _, rfl, _, _, rfl, rfl, (by show 2 ≤ sizeLine; decide), fun q hq => ?_⟩
      have sq := same_new (o := .tup [.int gs[i], .int (gs[i] - n)]) hq
      have Dq : D ≠ q := ne_of_none hJ hq
      have hq2 := upd_same (H := J) (a := q) (o := .tup [.int gs[i], .int (gs[i] - n)])
      refine ⟨q, rfl, ⟨_, SqT.of hq2⟩, wk_tup (K := K) (a := q) (xs := [.int gs[i], .int (gs[i] - n)]) (fun j I => ∃ (S : Int → Bool) (m : Nat), I D = some (SetO w D S m) ∧ m ≤ 2 * i + j ∧ Fr D (upd J q (.tup [.int gs[i], .int (gs[i] - n)])) I)
        ⟨S, m, sq _ _ hJ, by omega, Fr.refl _ _⟩ (fun j I _ ⟨_, _, _, _, h⟩ => SqT.of (h _ _ hq2 Dq.symm)) ?_ ?_⟩
      · rintro j y I hj ⟨S2, m2, hI, hm2, fI⟩
        have hj2 := (List.getElem?_eq_some_iff.mp hj).1
        have hj3 : j < 2 := hj2
        have hv : ∃ v : Int, y = .int v := by
          match j, hj with
          | 0, e => exact ⟨_, (Option.some.inj e).symm⟩
          | 1, e => exact ⟨_, (Option.some.inj e).symm⟩
        obtain ⟨v, rfl⟩ := hv
        refine ⟨rfl, _, rfl, v, S2, m2, rfl, hI, (by show m2 + 1 < 4096; omega), _, _, upd_same, ?_, fI.trans Fr.at_⟩
        split <;> omega
      · rintro I ⟨S2, m2, hI, hm2, fI⟩
        have hm3 : m2 ≤ 2 * i + 2 := hm2
        exact ⟨S2, m2, hI, by omega, fun c o e => fI _ _ (sq _ _ (sJ _ _ e)) (ne_of_none e hD)⟩
    · rintro J ⟨S, m, hJ, hm, sJ⟩
      rw [List.length_map] at hm
      refine ⟨D, S, m, rfl, hJ, by omega, fun ks p asc mem len np => ?_⟩
      have s4 := same_new (o := .lst (ks.map V.int)) np
      exact k _ p ks ((s12.trans sJ).trans s4) ((s12.trans sJ).free np) upd_same (by omega)
theorem scRising : FnScope ["rule", "cuts", "falls", "moment", "cut"] ["rule"] (defScope sRising) := ⟨rfl, rfl, rfl, by decide +kernel, rfl, by decide +kernel, by decide +kernel⟩
theorem ok_rising0 {f R L fC fB fO p1 g1 : Addr} {fd dB dO d1 : FuncData} {dd : List Value} (F : Fun K "check_rising" "check_rising" sRising f fd) (Z : RuC K mg R) (Ch : AtR P w K mg base 3 "changed_moments" (spMoms (ThR R L)) fC)
    (Be : FnOk P w K mg base CX0 1 fB dB ["cuts", "week", "centre"] spBeside) (mB : mg "beside" = some (.ref fB)) (kB : PySem.W.keepIn K (.ref fB) = true) (bB : Binds K dB ["cuts", "week", "centre"] dd) (rB : Vals [V.int 0] dd)
    (W1 : Pp P w K mg base R "week" (spRuWeek R L) p1 g1 d1) (hRO : Meth K R "offset" fO) (GRO : FnOk P w K mg base CX0 3 fO dO ["self", "moment"] (spRuOff R L)) (bRO : Binds K dO ["self", "moment"] []) :
    FnOk P w K mg base CX0 4 f fd ["rule"] (spRising0 R L) := by
  refine F.ok scRising (fun vs H Q E h => ?_) (fun cdv A outer s H vs Q E hr h => ?_)
  · obtain ⟨x, av, bs, rfl, _⟩ := h
    rfl
  · obtain ⟨x, av, bs, rfl, ru, l0, l1, rise, k⟩ := h
    have hr2 : Room 2 _ := hr.mono (by decide)
    have hr1 : Room 1 _ := hr.mono (by decide)
    refine ⟨_, pss_cons (ps_setLc2 (i := 1) (own := [("moment", 3), ("cut", 4)]) (vs1 := [4]) (g := gName 3) (g1 := gName 4) (tt := tYes) (tt1 := tYes) (wi1 := iTup K _) rfl scRising.nd rfl rfl (sw_true rfl rfl rfl (by decide +kernel)) (pi_list (pe_callR Ch.ok hr (by rfl) Ch.at_ Ch.kp pass0 (pa_cons (pv 0) pa_nil)))
          (blkOk_by (N := ["rule", "cuts", "falls", "moment", "cut"]) (sc := defScope sRising) (by decide +kernel)) (by decide) (fun _ _ _ _ _ => pg_name (i := 3) scRising.nd rfl (.inl rfl)) (fun _ _ _ _ _ => pts_nil)
          (fun _ _ _ _ _ => pi_tup (pe_tup (pa_cons (pe_op op_sub (pv 3) pe_int) (pa_cons (pv 3) pa_nil)))) (fun _ _ _ _ _ => pg_name (i := 4) scRising.nd rfl (.inl rfl)) (fun _ _ _ _ _ => pts_nil)
          (fun _ _ _ _ _ => (pv 4)))
      (pss_cons (ps_setLc (i := 2) (own := [("moment", 3)]) (g := gName 3) rfl scRising.nd rfl rfl (sw_true rfl rfl rfl (by decide +kernel)) (pi_list (pe_call Be hr1 (by rfl) mB kB bB rB pass0 (pa_cons (pv 1) (pa_cons (pe_prop (pv 0) Z.cl W1.of W1.ok hr2 W1.bi .nil pass0 rfl) pa_nil))))
          (blkOk_by (N := ["rule", "cuts", "falls", "moment", "cut"]) (sc := defScope sRising) (by decide +kernel)) (fun _ _ _ _ _ => pg_name (i := 3) scRising.nd rfl (.inl rfl)) (fun _ _ _ _ _ => pts_one ((pt_cmpR op_gt (pe_meth (pv 0) Z.cl hRO GRO hr bRO .nil pass0 (pa_cons (pv 3) pa_nil)) (pe_op op_add (pe_meth (pv 0) Z.cl hRO GRO hr bRO .nil pass0 (pa_cons (pe_op op_add (pv 3) pe_int) pa_nil)) pe_int) (nomark _))))
          (fun _ _ _ _ _ => (pv 3)))
      (pss_one (ps_if (pt_truth (pv 2) (fun _ => rfl))
        (pss_one ps_never)
        pss_nil))), ?_⟩
    refine ⟨_, rfl, [(x, [])], rfl, (by show 1 ≤ 900; decide), fun z hz => ?_, (by show 0 ≤ 60; decide), fun H1 q1 ks s1 nq1 asc mem len h1 => ?_⟩
    · obtain rfl := List.mem_singleton.mp hz
      exact ⟨av, bs, ru⟩
    have hk : ks = [] := by
      have : ks.length ≤ 0 := len
      exact List.length_eq_zero_iff.mp (by omega)
    subst hk
    refine ⟨q1, rfl, ⟨_, SqL.of h1⟩, fun D hD => wk_lst (K := K) (a := q1) (xs := []) (fun i J => J = upd H1 D (.lst [])) rfl (fun i J _ e => SqL.of (by rw [e]; exact same_new hD _ _ h1)) (fun i y J hi _ => by rw [List.getElem?_nil] at hi; cases hi) ?_⟩
    rintro J rfl
    have s2 := same_new (o := .lst []) hD
    have s12 := s1.trans s2
    have hD2 := upd_same (H := H1) (a := D) (o := .lst [])
    generalize upd H1 D (.lst []) = H2 at s2 s12 hD2 ⊢
    have ru2 := ru.same s12
    obtain ⟨dx, b, c, l, _, _, hx, _⟩ := id ru2
    refine ⟨_, rfl, _, rfl, x, dx, _, rfl, hx, ⟨x, av, bs, [], rfl, ru2, ⟨D, [], _, 0, rfl, hD2, by omega, by show 0 + _ ≤ 30; omega, ⟨by decide, by decide, by omega⟩, fun H3 q3 ks s3 nq3 h3 lk => ?_⟩⟩⟩
    have s13 := s12.trans s3
    have ru3 := ru2.same s3
    have hx3 := s3 _ _ hx
    have nm := ruF_no b c l (x := "offset") (by decide +kernel) (by decide +kernel) (by decide +kernel)
    refine ⟨q3, rfl, ⟨_, SqL.of h3⟩, fun D2 hD2 => lc_list (K := K) (a := q3) (xs := ks.map V.int) (fun i J => J D2 = some (.lst []) ∧ Same H3 J) ⟨upd_same, same_new hD2⟩ (fun i J _ ⟨_, h⟩ => SqL.of (h _ _ h3)) ?_ ?_⟩
    · rintro i y J hi ⟨hJ, sJ⟩
      have hi2 : i < ks.length := by
        have := (List.getElem?_eq_some_iff.mp hi).1
        simpa using this
      rw [List.getElem?_map, List.getElem?_eq_getElem hi2] at hi
      obtain rfl := Option.some.inj hi
      have ruJ := ru3.same sJ
      have hxJ := sJ _ _ hx3
      refine ⟨rfl, _, rfl, x, dx, _, rfl, hxJ, nm, _, rfl, ⟨x, av, _, bs, [], rfl, ruJ, l0, .nil, ?_⟩⟩
      refine ⟨_, rfl, x, dx, _, rfl, hxJ, nm, _, rfl, _, _, rfl, rfl, ⟨x, av, _, bs, [], rfl, ruJ, l0, .nil, ?_⟩⟩
      refine ⟨_, _, rfl, rfl, _, _, rfl, rfl, false, ?_, hJ, sJ⟩
      have := rise ks[i]
      show V.bl _ = V.bl false
      rw [decide_eq_false (by rw [offAt_nil, offAt_nil]; omega)]
    · rintro J ⟨hJ, sJ⟩
      exact ⟨_, rfl, false, .inl ⟨[], SqL.of hJ, rfl⟩, ite2 (fun g => by cases g) (fun _ => k _ (s13.trans sJ))⟩
end

section
variable {P : Program} {w : World} {K : PySem.W.Frag} {mg : Str → Option Value} {base : Heap}
theorem scRuI : FnScope ["self", "base", "changes"] ["self", "base", "changes"] (defScope sRuI) := ⟨rfl, rfl, rfl, by decide +kernel, rfl, by decide +kernel, by decide +kernel⟩
theorem ok_ruI0 {f R L fW fA fT fN fR : Addr} {fd dW dA dT dN dR : FuncData} (F : Fun K "__init__" "Rule.__init__" sRuI f fd) (Z : RuC K mg R) (T : Blt mg) (W : At P w K mg base 1 "check_week" ["number"] spChkW fW dW) (Ac : At P w K mg base 2 "check_ascending" ["changes"] (spAscend0 K) fA dA)
    (Te : At P w K mg base 1 "telling_changes" ["base", "changes"] (spTelling0 K) fT dT) (La : At P w K mg base 3 "lanes_of" ["base", "changes"] (spLanes0 L K) fN dN) (Ri : At P w K mg base 4 "check_rising" ["rule"] (spRising0 R L) fR dR) :
    FnOk P w K mg base CX0 5 f fd ["self", "base", "changes"] (spRuI0 R L K) := by
  refine F.ok scRuI (fun vs H Q E h => ?_) (fun cdv A outer s H vs Q E hr h => ?_)
  · obtain ⟨x, dx, a, c, bs, rfl, _⟩ := h
    rfl
  · obtain ⟨x, dx, a, c, bs, rfl, hx, hdx, dxx, ha, hc, ax, cx, l0, l1, rise, k⟩ := h
    have hr1 : Room 1 _ := hr.mono (by decide)
    have hr2 : Room 2 _ := hr.mono (by decide)
    have hr3 : Room 3 _ := hr.mono (by decide)
    refine ⟨_, pss_cons (ps_expr (pe_call W.ok hr1 (by rfl) W.at_ W.kp W.bi .nil pass0 (pa_cons (pe_callB call_len_seq (by rfl) T.len PySem.boot_len (pa_cons (pv 1) pa_nil)) pa_nil)))
      (pss_cons (ps_expr (pe_call Ac.ok hr2 (by rfl) Ac.at_ Ac.kp Ac.bi .nil pass0 (pa_cons (pv 2) pa_nil)))
      (pss_cons (ps_fld (pv 0) (pe_callTy call_list_of (by rfl) T.list (by decide +kernel) (pa_cons (pv 1) pa_nil)) rfl)
      (pss_cons (ps_fld (pv 0) (pe_call Te.ok hr1 (by rfl) Te.at_ Te.kp Te.bi .nil pass0 (pa_cons (pv 1) (pa_cons (pv 2) pa_nil))) rfl)
      (pss_cons (ps_fld (pv 0) (pe_call La.ok hr3 (by rfl) La.at_ La.kp La.bi .nil pass0 (pa_cons (pe_fld (pv 0) rfl) (pa_cons (pe_fld (pv 0) rfl) pa_nil))) rfl)
      (pss_one (ps_expr (pe_call Ri.ok hr (by rfl) Ri.at_ Ri.kp Ri.bi .nil pass0 (pa_cons (pv 0) pa_nil)))))))), ?_⟩
    have el : (((bs.map V.int).length : Nat) : Int) = bs.length := by rw [List.length_map]
    refine ⟨_, rfl, a, _, rfl, .inl ha, ⟨_, rfl, by rw [el]; omega, by rw [el]; omega, ?_⟩⟩
    refine ⟨_, rfl, ⟨c, rfl, hc, ?_⟩⟩
    refine ⟨_, rfl, a, _, rfl, .inl ha, fun b hb => ?_⟩
    have s1 := same_new (o := .lst (bs.map V.int)) hb
    have bx : b ≠ x := fun z => by rw [z, hx] at hb; cases hb
    refine ⟨_, rfl, x, R, dx, _, rfl, s1 _ _ hx, Z.cl, Z.nb, (by show 0 < 1000; decide), ?_⟩
    have hb1 := upd_same (H := H) (a := b) (o := .lst (bs.map V.int))
    generalize upd H b (.lst (bs.map V.int)) = G1 at s1 hb1 ⊢
    generalize hH1 : upd G1 x (.ins R dx (putF "_base" (.ref b) [])) = H1
    have f1' : Fr x G1 H1 := by rw [← hH1]; exact Fr.at_
    have f1 : Fr x H H1 := (Fr.of s1).trans f1'
    have hx1 : H1 x = some (.ins R dx (putF "_base" (.ref b) [])) := by rw [← hH1]; exact upd_same
    refine ⟨_, rfl, _, rfl, ⟨a, c, bs, rfl, f1.seq ax ha, f1.seq cx hc, fun G2 q s2 nq hq => ?_⟩⟩
    have qx : q ≠ x := fun z => by rw [z, hx1] at nq; cases nq
    refine ⟨_, rfl, x, R, dx, _, rfl, s2 _ _ hx1, Z.cl, Z.nc, (by show 1 < 1000; decide), ?_⟩
    generalize hH2 : upd G2 x (.ins R dx (putF "_changes" (.ref q) (putF "_base" (.ref b) []))) = H2
    have f2' : Fr x G2 H2 := by rw [← hH2]; exact Fr.at_
    have f2 : Fr x H H2 := (f1.trans (Fr.of s2)).trans f2'
    have hx2 : H2 x = some (.ins R dx (putF "_changes" (.ref q) (putF "_base" (.ref b) []))) := by rw [← hH2]; exact upd_same
    have hb2 := f2' _ _ (s2 _ _ (f1' _ _ hb1 bx)) bx
    have hq2 := f2' _ _ hq qx
    refine ⟨_, rfl, x, R, dx, _, _, rfl, hx2, Z.cl, Z.nb, (by rw [lookup_putF, if_neg (by decide +kernel), lookup_putF, if_pos rfl]), _, rfl, x, R, dx, _, _, rfl, hx2, Z.cl, Z.nc, (by rw [lookup_putF, if_pos rfl]), ⟨b, q, bs, rfl, SqL.of hb2, SqL.of hq2, l1, fun G3 l las s3 nl hl ll fr la => ?_⟩⟩
    have lx : l ≠ x := fun z => by rw [z, hx2] at nl; cases nl
    refine ⟨_, rfl, x, R, dx, _, rfl, s3 _ _ hx2, Z.cl, Z.nl, (by show 2 < 1000; decide), ?_⟩
    generalize hH3 : upd G3 x (.ins R dx (putF "_lanes" (.ref l) (putF "_changes" (.ref q) (putF "_base" (.ref b) [])))) = H3
    have f3' : Fr x G3 H3 := by rw [← hH3]; exact Fr.at_
    have f3 : Fr x H H3 := (f2.trans (Fr.of s3)).trans f3'
    have hx3 : H3 x = some (.ins R dx (ruF b q l)) := by rw [← hH3]; exact upd_same
    have hb3 := f3' _ _ (s3 _ _ hb2) bx
    have hq3 := f3' _ _ (s3 _ _ hq2) qx
    have hl3 := f3' _ _ hl lx
    have ru : ∀ av, (∃ o, H av = some o) → av ≠ x → RuAt R L av H3 x bs [] := fun av ⟨o, ho⟩ nav => by
      refine ⟨dx, b, q, l, [], las, hx3, hb3, hq3, trivial, hl3, ll, fun i a v e1 e2 => ?_, fun z => nav z.symm, (fun z => ?_), (fun z => ?_), (fun z => ?_), fun t ht => nomatch ht⟩
      · exact (la av o (f2 _ _ ho nav) i a v e1 e2).mix (la x _ hx2 i a v e1 e2) f3'
      · rw [z, ho] at hb
        cases hb
      · rw [z, f1 _ _ ho nav] at nq
        cases nq
      · rw [z, f2 _ _ ho nav] at nl
        cases nl
    have ru0 := ru dx ⟨_, hdx⟩ dxx
    refine ⟨_, rfl, ⟨x, dx, bs, rfl, ru0, l0, l1, rise, fun H4 s4 => k H4 (fun av o ho nav => (ru av ⟨o, ho⟩ nav).same s4) fun c' o ho nc => s4 _ _ (f3 _ _ ho nc)⟩⟩
end

/-! ### data whose repr is short -/
structure Rp (d : PyData) (n k : Nat) : Prop where
  lv : d.leavesShort 42 = true
  sh : d.showable = true
  nd : d.hasDict = false
  dp : d.depth ≤ k
  bk : d.bulk ≤ n
structure RpA (xs : List PyData) (n k : Nat) : Prop where
  lv : PyData.leavesShortAll 42 xs = true
  sh : PyData.showableAll xs = true
  nd : PyData.hasDictAll xs = false
  dp : PyData.depthAll xs ≤ k
  bk : PyData.bulkAll xs ≤ n
theorem Rp.int {i : Int} (h0 : -10 ^ 40 < i) (h1 : i < 10 ^ 40) : Rp (.int i) 0 0 := by
  have h : i.natAbs < 10 ^ 40 := by omega
  refine ⟨?_, ?_, rfl, Nat.le_refl _, Nat.le_refl _⟩
  · refine decide_eq_true ?_
    have e := int_text_length_le10 (k := 40) (by decide) h
    show (Str.ofString (toString i)).length ≤ 42
    rw [PySem.ofString_length]
    omega
  · refine decide_eq_true ?_
    by_cases z : i.natAbs = 0
    · rw [z]
      decide
    · have : i.natAbs < 2 ^ 1920 := Nat.lt_trans h (by decide)
      exact (Nat.log2_lt z).mpr this
theorem Rp.bool (b : Bool) : Rp (.bool b) 0 0 := ⟨rfl, rfl, rfl, Nat.le_refl _, Nat.le_refl _⟩
theorem Rp.none : Rp .none 0 0 := ⟨rfl, rfl, rfl, Nat.le_refl _, Nat.le_refl _⟩
theorem Rp.mono {d : PyData} {n k n' k' : Nat} (h : Rp d n k) (g1 : n ≤ n') (g2 : k ≤ k') : Rp d n' k' := ⟨h.lv, h.sh, h.nd, Nat.le_trans h.dp g2, Nat.le_trans h.bk g1⟩
theorem RpA.mono {d : List PyData} {n k n' k' : Nat} (h : RpA d n k) (g1 : n ≤ n') (g2 : k ≤ k') : RpA d n' k' := ⟨h.lv, h.sh, h.nd, Nat.le_trans h.dp g2, Nat.le_trans h.bk g1⟩
theorem Rp.list {xs : List PyData} {n k : Nat} (h : RpA xs n k) : Rp (.list xs) n (k + 1) :=
  ⟨by simp only [PyData.leavesShort, h.lv], by simp only [PyData.showable, h.sh], by simp only [PyData.hasDict, h.nd], by simp only [PyData.depth]; have := h.dp; omega, by simp only [PyData.bulk]; exact h.bk⟩
theorem Rp.tup {xs : List PyData} {n k : Nat} (h : RpA xs n k) : Rp (.tuple xs) n (k + 1) :=
  ⟨by simp only [PyData.leavesShort, h.lv], by simp only [PyData.showable, h.sh], by simp only [PyData.hasDict, h.nd], by simp only [PyData.depth]; have := h.dp; omega, by simp only [PyData.bulk]; exact h.bk⟩
theorem RpA.nil : RpA [] 0 0 := ⟨rfl, rfl, rfl, Nat.le_refl _, Nat.le_refl _⟩
theorem RpA.cons {d : PyData} {xs : List PyData} {n k m j : Nat} (h : Rp d n k) (g : RpA xs m j) : RpA (d :: xs) (n + 1 + m) (k + j) :=
  ⟨by simp only [PyData.leavesShortAll, h.lv, g.lv, Bool.and_self], by simp only [PyData.showableAll, h.sh, g.sh, Bool.and_self], by simp only [PyData.hasDictAll, h.nd, g.nd, Bool.or_self],
    by simp only [PyData.depthAll]; have := h.dp; have := g.dp; omega, by simp only [PyData.bulkAll]; have := h.bk; have := g.bk; omega⟩
theorem RpA.all {n k : Nat} : ∀ {xs : List PyData}, (∀ d ∈ xs, Rp d n k) → RpA xs (xs.length * (n + 1)) k
  | [], _ => RpA.nil.mono (Nat.zero_le _) (Nat.zero_le _)
  | d :: xs, h => by
    have h1 := h d List.mem_cons_self
    have h2 := RpA.all (xs := xs) fun e he => h e (List.mem_cons_of_mem _ he)
    refine ⟨by simp only [PyData.leavesShortAll, h1.lv, h2.lv, Bool.and_self], by simp only [PyData.showableAll, h1.sh, h2.sh, Bool.and_self], by simp only [PyData.hasDictAll, h1.nd, h2.nd, Bool.or_self], ?_, ?_⟩
    · simp only [PyData.depthAll]
      have := h1.dp
      have := h2.dp
      omega
    · simp only [PyData.bulkAll]
      have := h1.bk
      have := h2.bk
      rw [List.length_cons, Nat.add_mul]
      omega
theorem Rp.fits {d : PyData} {n k : Nat} (h : Rp d n k) (g : n ≤ 300000) : d.shown.length ≤ sizeLine := by
  have e := PyData.shown_le_bulk 42 (by decide) d h.lv
  have := h.bk
  rw [sizeLine_eq]
  omega
def rRep2 (K : PySem.W.Frag) : List V → Hp → VK → Prop := fun xs H Q => ∃ (a : Addr) (d : PyData) (n k : Nat), xs = [.ref a] ∧ Dp K H (.ref a) d ∧ Rp d n k ∧ k ≤ 60 ∧ n ≤ 300000 ∧ Q (.str d.shown) H
theorem call_rep2 {X : Cx} (hgd : X.A.guards = some []) (hu : X.A.units + 64 < cLine) : CallR X (.builtin "repr") (rRep2 X.K) := by
  intro pins s σ H xs us Q I r h
  obtain ⟨a, d, n, k, e, hd, hr, hk, hn, q⟩ := h
  exact call_repr hgd hu pins s σ H xs us Q I r ⟨a, d, e, hd, hr.sh, hr.nd, Nat.le_trans hr.dp hk, hr.fits hn, q⟩
/-! ### which data stand where -/
def dInts (xs : List Int) : PyData := .list (xs.map PyData.int)
def dMarks (ms : List (Int × Int)) : PyData := .list (ms.map fun m => PyData.tuple [.int m.1, .int m.2])
theorem dpAll_ints {K : PySem.W.Frag} {H : Hp} : ∀ xs : List Int, DpAll K H (xs.map V.int) (xs.map PyData.int)
  | [] => .nil
  | x :: xs => .cons (.int x) (dpAll_ints xs)
theorem dp_ints {K : PySem.W.Frag} {H : Hp} {a : Addr} {xs : List Int} (h : SqL K H a (xs.map V.int)) : Dp K H (.ref a) (dInts xs) := .lst h (dpAll_ints xs)
theorem dpAll_marks {K : PySem.W.Frag} {H : Hp} : ∀ {ts : List Addr} {ms : List (Int × Int)}, Tups H ts ms → DpAll K H (ts.map V.ref) (ms.map fun m => PyData.tuple [.int m.1, .int m.2])
  | [], [], _ => .nil
  | _ :: _, m :: _, h => .cons (.tup (SqT.of h.1) (.cons (.int m.1) (.cons (.int m.2) .nil))) (dpAll_marks h.2)
theorem dp_marks {K : PySem.W.Frag} {H : Hp} {a : Addr} {ts : List Addr} {ms : List (Int × Int)} (h : SqL K H a (ts.map V.ref)) (g : Tups H ts ms) : Dp K H (.ref a) (dMarks ms) := .lst h (dpAll_marks g)
theorem rp_ints {xs : List Int} (h : ∀ v ∈ xs, -10 ^ 40 < v ∧ v < 10 ^ 40) : Rp (dInts xs) xs.length 1 := by
  have := RpA.all (xs := xs.map PyData.int) (n := 0) (k := 0) fun d hd => by
    obtain ⟨v, hv, rfl⟩ := List.mem_map.mp hd
    exact Rp.int (h v hv).1 (h v hv).2
  refine (Rp.list this).mono ?_ (Nat.le_refl _)
  rw [List.length_map]
  omega
theorem rp_marks {ms : List (Int × Int)} (h : ∀ m ∈ ms, -10 ^ 40 < m.1 ∧ m.1 < 10 ^ 40 ∧ -10 ^ 40 < m.2 ∧ m.2 < 10 ^ 40) : Rp (dMarks ms) (ms.length * 3) 2 := by
  have := RpA.all (xs := ms.map fun m => PyData.tuple [.int m.1, .int m.2]) (n := 2) (k := 1) fun d hd => by
    obtain ⟨m, hm, rfl⟩ := List.mem_map.mp hd
    have g := h m hm
    exact (Rp.tup (.cons (Rp.int g.1 g.2.1) (.cons (Rp.int g.2.2.1 g.2.2.2) .nil))).mono (by omega) (by omega)
  refine (Rp.list this).mono ?_ (Nat.le_refl _)
  rw [List.length_map]
  omega

/-! ### the pool of a law -/
def spTake : Sp := fun vs H Q _ => ∃ (p : Addr) (n : Nat) (m : Int), vs = [.ref p, .int m] ∧ Well H p n ∧ n ≤ 10 ^ 9 ∧ 0 < m ∧ m < 2 ^ 200 ∧
  ∀ (r : Int) (H' : Hp), 0 ≤ r → r < m → Fr p H H' → Well H' p (n + 1) → Q (.int r) H'
theorem spTake_ok {p : Addr} {n : Nat} {m : Int} {H : Hp} {Q : VK} {E : XK} (h : Well H p n) (hn : n ≤ 10 ^ 9) (h0 : 0 < m) (h1 : m < 2 ^ 200)
    (q : ∀ (r : Int) (H' : Hp), 0 ≤ r → r < m → Fr p H H' → Well H' p (n + 1) → Q (.int r) H') : spTake [.ref p, .int m] H Q E := ⟨p, n, m, rfl, h, hn, h0, h1, q⟩
def spPool (K : PySem.W.Frag) : Sp := fun vs H Q _ => ∃ (a : Addr) (ns : List Int) (i : Int), vs = [.ref a, .int i] ∧ SqL K H a (ns.map V.int) ∧ ns.length ≤ 63 ∧ 0 ≤ i ∧ i ≤ 63 ∧
  ∀ (p : Addr) (H' : Hp), H p = none → Same H H' → Well H' p 0 → Q (.ref p) H'
def gKw {α : Type} (z : α) : List α → List α → List α := fun us ws => [us.getD 0 z, ws.getD 1 z, ws.getD 0 z]
theorem kb_ru {K : PySem.W.Frag} {f : Addr} {fd : FuncData} (F : Fun K "__init__" "Rule.__init__" sRuI f fd) : KBn K fd ["self", "base", "changes"] 1 ["changes", "base"] (gKw Value.none) (gKw V.non) := by
  obtain ⟨oc, od, kV, doc, pm, an, cdv, ct, osl, rfl, lk, hcd⟩ := F.ex
  refine ⟨fun s us ws _ l1 l2 => ?_, fun {vs us zs ws} r1 r2 => ?_⟩
  · match us, l1, ws, l2 with
    | [u], _, [c, p], _ => exact .of_eq rfl
  · have get : ∀ {vs : List V} {us : List Value} (i : Nat), Vals vs us → RelV (vs.getD i V.non) (us.getD i Value.none) := by
      intro vs us i r
      induction r generalizing i with
      | nil => cases i <;> exact (rfl : RelV V.non Value.none)
      | cons a _ ih =>
        cases i with
        | zero => exact a
        | succ i => exact ih i
    exact .cons (get 0 r1) (.cons (get 1 r2) (.cons (get 0 r2) .nil))
def spRisingL : Sp := fun vs H Q _ => ∃ (p : Addr) (n : Nat) (z : Int), vs = [.ref p, .int z] ∧ Well H p n ∧ n ≤ 10 ^ 8 ∧ 1 ≤ z ∧ z ≤ 12 ∧
  ∀ (q : Addr) (xs : List Int) (H' : Hp), xs.Pairwise (· ≤ ·) → (xs.length : Int) = z → (∀ v ∈ xs, 0 ≤ v ∧ v ≤ z) → H q = none → q ≠ p → H' q = some (.lst (xs.map V.int)) → Fr p H H' → Well H' p (n + 12) → Q (.ref q) H'
def shapeD (bs : List Int) (cs : List (Int × Int)) : PyData := .list [.int (bs.length : Nat), dInts bs, dMarks cs]
def spShape (R L : Addr) : Sp := fun vs H Q _ => ∃ (x av : Addr) (bs : List Int) (cs : List (Int × Int)), vs = [.ref x] ∧ RuAt R L av H x bs cs ∧ bs.length ≤ 12 ∧ cs.length ≤ 60 ∧ (∀ v ∈ bs, -10 ^ 40 < v ∧ v < 10 ^ 40) ∧ (∀ m ∈ cs, -10 ^ 40 < m.1 ∧ m.1 < 10 ^ 40 ∧ -10 ^ 40 < m.2 ∧ m.2 < 10 ^ 40) ∧
  ∀ H', Same H H' → Q (.str (shapeD bs cs).shown) H'
theorem rp_shape {bs : List Int} {cs : List (Int × Int)} (h1 : bs.length ≤ 12) (h2 : cs.length ≤ 60) (h3 : ∀ v ∈ bs, -10 ^ 40 < v ∧ v < 10 ^ 40) (h4 : ∀ m ∈ cs, -10 ^ 40 < m.1 ∧ m.1 < 10 ^ 40 ∧ -10 ^ 40 < m.2 ∧ m.2 < 10 ^ 40) : Rp (shapeD bs cs) 300 10 := by
  have a := (Rp.int (i := (bs.length : Nat)) (by omega) (by omega))
  have b := rp_ints h3
  have c := rp_marks h4
  exact (Rp.list (.cons a (.cons b (.cons c .nil)))).mono (by omega) (by omega)
/-! ### ** of great ints -/
def CPowW (i j : Int) : Prop := 0 ≤ j ∧ (Builtin.Int.intBits i : Int) * j ≤ 2 ^ 27
theorem op_powW {X : Cx} : OpR X (binaryOp .Pow) (rI CPowW fun i j => .int (i ^ j.toNat)) := opI fun _ _ _ _ _ _ _ hc q => pow_int hc.1 hc.2 q
theorem wide_pow {i j : Int} {b : Nat} (h0 : 0 ≤ j) (hj : j ≤ 100) (hi : i.natAbs < 2 ^ b) (b0 : 0 < b) (hb : b ≤ 1000) : CPowW i j := by
  have l := PySem.Flt.log2_lt_of b0 hi
  have e : Builtin.Int.intBits i ≤ 1000 := by
    unfold Builtin.Int.intBits
    split <;> omega
  have m : (Builtin.Int.intBits i : Int) * j ≤ 1000 * 100 := Int.mul_le_mul (by omega) hj h0 (by omega)
  exact ⟨h0, Int.le_trans m (by decide)⟩
section
variable {P : Program} {w : World} {K : PySem.W.Frag} {mg : Str → Option Value} {base : Heap}
theorem scPool : FnScope ["script", "spot", "cell"] ["script", "spot"] (defScope sPool) := ⟨rfl, rfl, rfl, by decide +kernel, rfl, by decide +kernel, by decide +kernel⟩
theorem ok_pool {f : Addr} {fd : FuncData} (F : Fun K "_law_pool" "_law_pool" sPool f fd) (T : Blt mg) : FnOk P w K mg base CX0 1 f fd ["script", "spot"] (spPool K) := by
  refine F.ok scPool (fun vs H Q E h => ?_) (fun cdv A outer s H vs Q E hr h => ?_)
  · obtain ⟨a, ns, i, rfl, _⟩ := h
    rfl
  · obtain ⟨a, ns, i, rfl, hS, hl, i0, i1, k⟩ := h
    refine ⟨_, pss_cons (ps_set (i := 2) scPool.nd rfl (.inl rfl) pe_int)
      (C8.pss_cut (ps_if (pt_cmpR op_lt (pv 1) (pe_callB call_len_seq (by rfl) T.len PySem.boot_len (pa_cons (pv 0) pa_nil)) (nomark _))
        (pss_one (ps_set (i := 2) scPool.nd rfl (.inl rfl) (pe_ix ix_list (pv 0) (pv 1) (fun _ _ => rfl))))
        pss_nil)
      (pss_one (ps_ret (pe_lst (pa_cons (pe_callB (call_max2 rfl) (by rfl) T.max (by decide +kernel) (pa_cons pe_int (pa_cons (pe_op op_sub (pe_callB call_abs (by rfl) T.abs (by decide +kernel) (pa_cons (pv 2) pa_nil)) (pe_op op_pow pe_int pe_int)) pa_nil))) (pa_cons (pe_op op_add (pe_op op_mod (pe_callTy call_int1 (by rfl) T.int (by decide +kernel) (pa_cons (pv 2) pa_nil)) pe_int) (pe_op op_mul pe_int (pe_op op_add (pv 1) pe_int))) (pa_cons pe_int pa_nil))))))), ?_⟩
    refine ⟨fun σ H1 => H1 = H ∧ ∃ z : Int, σ = [some (.ref a), some (.int i), some (.int z)], ?_, ?_⟩
    · refine ⟨_, rfl, _, rfl, a, _, rfl, .inl hS, _, _, rfl, rfl, _, rfl, ite2 (fun hc => ?_) (fun hc => ?_)⟩
      · have hi : i < ns.length := by
          have := of_decide_eq_true hc
          rw [List.length_map] at this
          exact this
        obtain ⟨v, hv, hv2, e⟩ := atI_ints i0 hi
        exact ⟨_, rfl, _, rfl, a, _, i, _, rfl, rfl, hS, e, rfl, v, rfl⟩
      · exact ⟨rfl, 0, rfl⟩
    · rintro σ H1 ⟨rfl, z, rfl⟩
      refine ⟨_, rfl, _, rfl, _, _, rfl, rfl, ⟨by decide, by decide, by decide⟩, _, _, rfl, rfl, 0, _, rfl, ?_⟩
      refine ⟨_, rfl, .inl ⟨_, rfl, _, _, rfl, rfl, (by show (0 : Int) < 2305843009213693951; decide), ?_⟩⟩
      generalize hx : z % 2305843009213693951 = x
      have x0 : 0 ≤ x := by rw [← hx]; exact Int.emod_nonneg _ (by decide)
      have x1 : x < 2305843009213693951 := by rw [← hx]; exact Int.emod_lt_of_pos _ (by decide)
      refine ⟨_, rfl, _, _, rfl, rfl, _, _, rfl, rfl, .inl ⟨by decide, by decide⟩, _, _, rfl, rfl, (by show 3 ≤ sizeLine; decide), fun p hp => ?_⟩
      exact k p _ hp (same_new hp) ⟨_, _, _, upd_same, by omega, by omega, by decide, by decide⟩
theorem scDraw : FnScope ["pool", "span", "drawn", "mixed"] ["pool", "span"] (defScope sDraw) := ⟨rfl, rfl, rfl, by decide +kernel, rfl, by decide +kernel, by decide +kernel⟩
theorem ok_draw {f : Addr} {fd : FuncData} (F : Fun K "_law_draw" "_law_draw" sDraw f fd) (T : Blt mg) : FnOk P w K mg base CX0 1 f fd ["pool", "span"] spTake := by
  refine F.ok scDraw (fun vs H Q E h => ?_) (fun cdv A outer s H vs Q E hr h => ?_)
  · obtain ⟨p, n, m, rfl, _⟩ := h
    rfl
  · obtain ⟨p, n, m, rfl, ⟨a, b, c, hp, b0, b1, c0, c1⟩, hn, m0, m1, k⟩ := h
    refine ⟨_, pss_cons (ps_if (pt_cmpR op_gt (pe_ix ix_list (pv 0) pe_int (fun _ _ => rfl)) pe_int (nomark _))
        (pss_cons (ps_set (i := 2) scDraw.nd rfl (.inl rfl) (pe_op op_mod (pe_callTy call_int1 (by rfl) T.int (by decide +kernel) (pa_cons (pe_ix ix_list (pv 0) pe_int (fun _ _ => rfl)) pa_nil)) (pv 1)))
        (pss_cons (ps_asg (pe_op op_fdivW (pe_ix ix_list (pv 0) pe_int (fun _ _ => rfl)) (pv 1)) (pg_sub (pv 0) pe_int set_list))
        (pss_one (ps_ret (pv 2)))))
        pss_nil)
      (pss_cons (ps_asg (pe_op op_add (pe_ix ix_list (pv 0) pe_int (fun _ _ => rfl)) pe_int) (pg_sub (pv 0) pe_int set_list))
      (pss_cons (ps_set (i := 3) scDraw.nd rfl (.inl rfl) (pe_op op_mod (pe_callTy call_int1 (by rfl) T.int (by decide +kernel) (pa_cons (pe_op op_pow (pe_op op_add (pe_ix ix_list (pv 0) pe_int (fun _ _ => rfl)) (pe_op op_mul pe_int (pe_ix ix_list (pv 0) pe_int (fun _ _ => rfl)))) pe_int) pa_nil)) pe_int))
      (pss_cons (ps_set (i := 3) scDraw.nd rfl (.inl rfl) (pe_op op_mod (pe_callTy call_int1 (by rfl) T.int (by decide +kernel) (pa_cons (pe_op op_powW (pe_op op_add (pv 3) (pe_op op_mul pe_int (pe_ix ix_list (pv 0) pe_int (fun _ _ => rfl)))) pe_int) pa_nil)) pe_int))
      (pss_one (ps_ret (pe_op op_mod (pe_callTy call_int1 (by rfl) T.int (by decide +kernel) (pa_cons (pe_op op_fdiv (pv 3) pe_int) pa_nil)) (pv 1))))))), ?_⟩
    refine ⟨_, rfl, p, _, 0, _, rfl, rfl, SqL.of hp, atI_nat (j := 0) rfl, _, _, rfl, rfl, _, rfl, ite2 (fun hw => ?_) (fun hw => ?_)⟩
    · refine ⟨_, rfl, p, _, 0, _, rfl, rfl, SqL.of hp, atI_nat (j := 0) rfl, .inl ⟨_, rfl, _, rfl, a, m, rfl, rfl, m0, ?_⟩⟩
      refine ⟨_, rfl, p, _, 0, _, rfl, rfl, SqL.of hp, atI_nat (j := 0) rfl, _, rfl, a, m, rfl, rfl, wide_div (b := 200) m0 (by omega) (by decide) (by decide), ?_⟩
      refine ⟨_, rfl, p, _, 0, 0, rfl, rfl, hp, rfl, ?_⟩
      refine ⟨_, rfl, k _ _ (Int.emod_nonneg _ (by omega)) (Int.emod_lt_of_pos _ m0) Fr.at_ ⟨a / m, b, c, upd_same, b0, b1, c0, by omega⟩⟩
    · refine ⟨_, rfl, p, _, 2, _, rfl, rfl, SqL.of hp, atI_nat (j := 2) rfl, _, _, rfl, rfl, ?_⟩
      refine ⟨_, rfl, p, _, 2, 2, rfl, rfl, hp, rfl, ?_⟩
      rw [set2]
      generalize hH : upd H p (.lst [.int a, .int b, .int (c + 1)]) = H1
      have h1 : H1 p = some (.lst [.int a, .int b, .int (c + 1)]) := by rw [← hH]; exact upd_same
      have e1 : (0 : Int) ≤ 15485863 * (c + 1) := by omega
      refine ⟨_, rfl, p, _, 1, _, rfl, rfl, SqL.of h1, atI_nat (j := 1) rfl, _, rfl, p, _, 2, _, rfl, rfl, SqL.of h1, atI_nat (j := 2) rfl, _, _, rfl, rfl, .inl ⟨by decide, by decide⟩, _, _, rfl, rfl, _, _, rfl, rfl, ⟨by decide, by decide, by omega⟩, ?_⟩
      refine .inl ⟨_, rfl, _, _, rfl, rfl, (by show (0 : Int) < 162259276829213363391578010288127; decide), ?_⟩
      generalize hx : (b + 15485863 * (c + 1)) ^ (3 : Int).toNat % 162259276829213363391578010288127 = x
      have x0 : 0 ≤ x := by rw [← hx]; exact Int.emod_nonneg _ (by decide)
      have x1 : x < 162259276829213363391578010288127 := by rw [← hx]; exact Int.emod_lt_of_pos _ (by decide)
      refine ⟨_, rfl, _, rfl, p, _, 2, _, rfl, rfl, SqL.of h1, atI_nat (j := 2) rfl, _, _, rfl, rfl, .inl ⟨by decide, by decide⟩, _, _, rfl, rfl, _, _, rfl, rfl, wide_pow (b := 120) (by decide) (by decide) (by omega) (by decide) (by decide), .inl ⟨_, rfl, _, _, rfl, rfl, (by show (0 : Int) < 170141183460469231731687303715884105727; decide), ?_⟩⟩
      refine ⟨_, rfl, _, _, rfl, rfl, ⟨by decide, by decide⟩, .inl ⟨_, rfl, _, rfl, _, _, rfl, rfl, m0, ?_⟩⟩
      refine k _ _ (Int.emod_nonneg _ (by omega)) (Int.emod_lt_of_pos _ m0) ?_ ⟨a, b, c + 1, h1, b0, b1, by omega, by omega⟩
      rw [← hH]
      exact Fr.at_
/-- _law_draw stands at fT -/
structure Dk (P : Program) (w : World) (K : PySem.W.Frag) (mg : Str → Option Value) (base : Heap) (fT : Addr) (fdT : FuncData) : Prop where
  ok : FnOk P w K mg base CX0 1 fT fdT ["pool", "span"] spTake
  at_ : mg "_law_draw" = some (.ref fT)
  kp : PySem.W.keepIn K (.ref fT) = true
  bi : Binds K fdT ["pool", "span"] []
theorem scRisingL : FnScope ["pool", "size", "turn"] ["pool", "size"] (defScope sRisingL) := ⟨rfl, rfl, rfl, by decide +kernel, rfl, by decide +kernel, by decide +kernel⟩
theorem ok_risingL {f fT : Addr} {fd fdT : FuncData} (F : Fun K "_law_rising" "_law_rising" sRisingL f fd) (T : Blt mg) (T5 : Blt5 mg) (L : Dk P w K mg base fT fdT) : FnOk P w K mg base CX0 2 f fd ["pool", "size"] spRisingL := by
  refine F.ok scRisingL (fun vs H Q E h => ?_) (fun cdv A outer s H vs Q E hr h => ?_)
  · obtain ⟨p, n, z, rfl, _⟩ := h
    rfl
  · obtain ⟨p, n, z, rfl, hW, hn, z0, z1, k⟩ := h
    refine ⟨_, pss_one (ps_ret (pe_callB (r := rSorted K) cr_sorted (by rfl) T5.sorted (by decide +kernel) (pa_cons (pe_lc (own := [("turn", 2)]) (g := gName 2) (tt := tYes) rfl scRisingL.nd (pi_range1 (by rfl) T.range (pa_cons (pv 1) pa_nil))
          (blkOk_by (N := ["pool", "size", "turn"]) (sc := defScope sRisingL) (by decide +kernel)) (fun _ _ _ _ _ => pg_name (i := 2) scRisingL.nd rfl (.inl rfl)) (fun _ _ _ _ _ => pts_nil)
          (fun _ _ _ _ _ => (pe_call L.ok hr (by rfl) L.at_ L.kp L.bi .nil pass0 (pa_cons (pv 0) (pa_cons (pe_op op_add (pv 1) pe_int) pa_nil))))) pa_nil))), ?_⟩
    refine ⟨_, rfl, z, rfl, by omega, by omega, fun D hD => ?_⟩
    have hDn : D ≠ p := (hW.ne hD).symm
    refine lc_range (lo := 0) (n := z.toNat) (fun i J => ∃ xs : List Int, J D = some (.lst (xs.map V.int)) ∧ xs.length = i ∧ (∀ v ∈ xs, 0 ≤ v ∧ v ≤ z) ∧ Fr p H J ∧ Well J p (n + i))
      ⟨[], upd_same, rfl, fun v hv => absurd hv List.not_mem_nil, Fr.new hD, hW.new hD⟩ ?_ ?_
    · rintro i J hi ⟨xs, hx, xl, xr, xf, xw⟩
      refine ⟨rfl, _, rfl, _, rfl, _, _, rfl, rfl, ⟨p, n + i, z + 1, rfl, xw, (by omega), (by omega), (by omega), fun y J2 y0 y1 f2 w2 => ?_⟩⟩
      have hx2 := f2 _ _ hx hDn
      refine ⟨_, hx2, by rw [List.length_map]; exact small1000 (by omega), xs ++ [y], ?_, by simp [xl], ?_, fun c o e g => ?_, (w2.upd_ne hDn.symm).mono (by omega)⟩
      · rw [upd_same, List.map_append]
        rfl
      · intro v hv
        rcases List.mem_append.mp hv with g | g
        · exact xr v g
        · rw [List.mem_singleton.mp g]
          exact ⟨y0, by omega⟩
      · rw [upd_ne (ne_of_none e hD)]
        exact f2 _ _ (xf _ _ e g) g
    · rintro J ⟨xs, hx, xl, xr, xf, xw⟩
      refine ⟨D, xs, rfl, SqL.of hx, by omega, fun ys q pm srt nq => ?_⟩
      have nqp : q ≠ p := (xw.ne nq).symm
      refine k q ys _ srt (by rw [pm.length_eq]; omega) (fun v hv => xr v (pm.mem_iff.mp hv)) ?_ nqp upd_same (xf.trans (Fr.new nq)) ((xw.new nq).mono (by omega))
      cases e : H q with
      | none => rfl
      | some o =>
        rw [xf _ _ e nqp] at nq
        cases nq
theorem scShape : FnScope ["made"] ["made"] (defScope sShape) := ⟨rfl, rfl, rfl, by decide +kernel, rfl, by decide +kernel, by decide +kernel⟩
theorem ok_shape {f R L p1 g1 p2 g2 p3 g3 : Addr} {fd d1 d2 d3 : FuncData} (F : Fun K "_law_shape" "_law_shape" sShape f fd) (Z : RuC K mg R) (T : Blt mg) (W1 : Pp P w K mg base R "week" (spRuWeek R L) p1 g1 d1) (W2 : Pp P w K mg base R "base" (spRuBase R L) p2 g2 d2) (W3 : Pp P w K mg base R "changes" (spChOf (ThR R L)) p3 g3 d3) :
    FnG P w K mg base 3 f fd ["made"] (spShape R L) := by
  refine okG F scShape (fun vs H Q E h => ?_) (fun cdv A outer s H vs Q E hgd hr h => ?_)
  · obtain ⟨x, av, bs, cs, rfl, _⟩ := h
    rfl
  · obtain ⟨x, av, bs, cs, rfl, ru, l1, l2, b1, b2, k⟩ := h
    have hr2 : Room 2 _ := hr.mono (by decide)
    have hu := hr.units
    refine ⟨_, pss_one (ps_ret (pe_callB (call_rep2 hgd hu) (by rfl) T.repr (by decide +kernel) (pa_cons (pe_lst (pa_cons (pe_prop (pv 0) Z.cl W1.of W1.ok hr2 W1.bi .nil pass0 rfl) (pa_cons (pe_prop (pv 0) Z.cl W2.of W2.ok hr2 W2.bi .nil pass0 rfl) (pa_cons (pe_prop (pv 0) Z.cl W3.of W3.ok hr2 W3.bi .nil pass0 rfl) pa_nil)))) pa_nil))), ?_⟩
    obtain ⟨dx, b, c, l, _, _, hx, _⟩ := id ru
    refine ⟨_, rfl, x, dx, _, rfl, hx, ⟨x, av, bs, cs, rfl, ru, ?_⟩⟩
    refine ⟨_, rfl, x, dx, _, rfl, hx, ⟨x, av, bs, cs, rfl, ru, fun q hq => ?_⟩⟩
    have s1 := same_new (o := .lst (bs.map V.int)) hq
    refine ⟨_, rfl, x, dx, _, rfl, s1 _ _ hx, ⟨x, cs, rfl, ⟨av, bs, ru.same s1⟩, fun H2 r ts s2 nr hr2 tp => ?_⟩⟩
    have hq2 := s2 _ _ (upd_same (H := H) (a := q) (o := .lst (bs.map V.int)))
    refine ⟨(by show 3 ≤ sizeLine; decide), fun e ne => ?_⟩
    have s3 := same_new (o := .lst [.int (bs.length : Nat), .ref q, .ref r]) ne
    refine ⟨e, shapeD bs cs, 300, 10, rfl, .lst (SqL.of upd_same) (.cons (.int _) (.cons (dp_ints (SqL.of (s3 _ _ hq2))) (.cons (dp_marks (SqL.of (s3 _ _ hr2)) (tp.same s3)) .nil))), rp_shape l1 l2 b1 b2, by decide, by decide, ?_⟩
    exact k _ ((s1.trans s2).trans s3)
end

/-! ### the law's own loop -/
def Scr (K : PySem.W.Frag) (H : Hp) (a : Addr) (xs : List V) : Prop := (∃ o, H a = some (.frz o (.lst xs))) ∨ ∀ J : Hp, SqL K J a xs
theorem Scr.seq {K : PySem.W.Frag} {H : Hp} {a : Addr} {xs : List V} (h : Scr K H a xs) : SqL K H a xs := by
  rcases h with ⟨o, h⟩ | h
  · exact .inl (.inr ⟨o, h⟩)
  · exact h H
theorem Scr.of {K : PySem.W.Frag} {H : Hp} {a : Addr} {xs : List V} (o : Only H) (h : SqL K H a xs) : Scr K H a xs := by
  rcases h with (h | ⟨u, h⟩) | h
  · rcases o a with z | ⟨u, ys, z⟩
    · rw [z] at h
      cases h
    · rw [z] at h
      cases h
  · exact .inl ⟨u, h⟩
  · exact .inr fun J => .inr h
theorem Scr.same {K : PySem.W.Frag} {H H' : Hp} {a : Addr} {xs : List V} (h : Scr K H a xs) (f : Same H H') : Scr K H' a xs := by
  rcases h with ⟨o, h⟩ | h
  · exact .inl ⟨o, f _ _ h⟩
  · exact .inr h
theorem Scr.fr {K : PySem.W.Frag} {H H' : Hp} {a p : Addr} {n : Nat} {xs : List V} (h : Scr K H a xs) (g : Well H p n) (f : Fr p H H') : Scr K H' a xs := by
  rcases h with ⟨o, h⟩ | h
  · refine .inl ⟨o, f _ _ h fun z => ?_⟩
    obtain ⟨x, y, u, e, _⟩ := g
    rw [z, e] at h
    cases h
  · exact .inr h
def spFits : Sp := fun vs H Q _ => ∃ (p : Addr) (n : Nat), vs = [.ref p] ∧ Well H p n ∧ n ≤ 10 ^ 6 ∧ ∀ H', Fr p H H' → Well H' p (n + 1000) → Q (.bl true) H'
def spLaw (K : PySem.W.Frag) : Sp := fun vs H Q _ => ∃ (a : Addr) (ns : List Int), vs = [.ref a] ∧ Scr K H a (ns.map V.int) ∧ ns.length ≤ 63 ∧ ∀ H', Q (.bl true) H'
/-- the turns of the inner loop -/
def turns : Nat := match defBody sLaw with
  | .For _ _ (_ :: .For _ (.Call _ (.Constant (.int n) _ _ :: _) _ _) _ _ _ :: _) _ _ :: _ => n.toNat
  | _ => 0
section
variable {P : Program} {w : World} {K : PySem.W.Frag} {mg : Str → Option Value} {base : Heap}
theorem scLaw : FnScope ["script", "spot", "pool", "turn"] ["script"] (defScope sLaw) := ⟨rfl, rfl, rfl, by decide +kernel, rfl, by decide +kernel, by decide +kernel⟩
theorem ok_law {f fW fF : Addr} {fd fdW fdF : FuncData} {k : Nat} (hk : 1 ≤ k) (F : Fun K "law" "law" sLaw f fd) (T : Blt mg) (W : At P w K mg base 1 "_law_pool" ["script", "spot"] (spPool K) fW fdW)
    (G : FnG P w K mg base k fF fdF ["pool"] spFits) (gF : mg "_law_right" = some (.ref fF)) (kF : PySem.W.keepIn K (.ref fF) = true) (bF : Binds K fdF ["pool"] []) : FnG P w K mg base (k + 1) f fd ["script"] (spLaw K) := by
  refine okG F scLaw (fun vs H Q E h => ?_) (fun cdv A outer s H vs Q E hgd hr h => ?_)
  · obtain ⟨a, ns, rfl, _⟩ := h
    rfl
  · obtain ⟨a, ns, rfl, hS, hl, q⟩ := h
    have hr1 : Room 1 _ := hr.mono hk
    refine ⟨_, pss_cons (ps_for PassesOwn.never rfl (pi_range1 (by rfl) T.range (pa_cons (pe_callB (call_max2 rfl) (by rfl) T.max (by decide +kernel) (pa_cons pe_int (pa_cons (pe_callB (call_min2 rfl) (by rfl) T.min (by decide +kernel)
          (pa_cons pe_int (pa_cons (pe_callB call_len_seq (by rfl) T.len PySem.boot_len (pa_cons (pv 0) pa_nil)) pa_nil))) pa_nil))) pa_nil)) (pg_name (i := 1) scLaw.nd rfl (.inl rfl))
        (pss_cons (ps_set (i := 2) scLaw.nd rfl (.inl rfl) (pe_call W.ok hr1 (by rfl) W.at_ W.kp W.bi .nil pass0 (pa_cons (pv 0) (pa_cons (pv 1) pa_nil))))
        (pss_one (ps_for PassesOwn.never rfl (pi_range1 (by rfl) T.range (pa_cons pe_int pa_nil)) (pg_name (i := 3) scLaw.nd rfl (.inl rfl))
          (pss_one (ps_if (pt_not (pt_val (pe_callG G hgd hr (by rfl) gF kF bF (pa_cons (pv 2) pa_nil)))) (pss_one (ps_ret pe_bl)) pss_nil))))))
      (pss_one (ps_ret pe_bl)), ?_⟩
    refine ⟨_, rfl, a, _, rfl, .inl hS.seq, 12, _, rfl, 1, _, rfl, ?_⟩
    generalize hm : (if (if (((ns.map V.int).length : Nat) : Int) < 12 then (((ns.map V.int).length : Nat) : Int) else 12) > 1 then (if (((ns.map V.int).length : Nat) : Int) < 12 then (((ns.map V.int).length : Nat) : Int) else 12) else 1) = m
    have m1 : 1 ≤ m ∧ m ≤ 12 := by
      rw [← hm]
      split <;> split <;> omega
    refine ⟨m, rfl, by omega, by omega, for_range (lo := 0) (n := m.toNat) (fun i σ J => ∃ y1 y2 y3 : Option V, σ = [some (.ref a), y1, y2, y3] ∧ Scr K J a (ns.map V.int)) ⟨none, none, none, rfl, hS⟩ ?_ ?_⟩
    · rintro i σ J hi ⟨y1, y2, y3, rfl, hJ⟩
      refine ⟨_, rfl, _, rfl, ⟨a, ns, _, rfl, hJ.seq, hl, by omega, by omega, fun p J1 np s1 w1 => ?_⟩⟩
      refine ⟨turns, rfl, by decide +kernel, by decide +kernel, for_range (lo := 0) (n := turns) (fun j σ J2 => ∃ y3 : Option V, σ = [some (.ref a), some (.int (0 + i)), some (.ref p), y3] ∧ Scr K J2 a (ns.map V.int) ∧ Well J2 p (j * 1000)) ⟨_, rfl, hJ.same s1, w1.mono (by omega)⟩ ?_ ?_⟩
      · rintro j σ J2 hj ⟨y3, rfl, hJ2, w2⟩
        have tb : turns ≤ 100 := by decide +kernel
        refine ⟨_, rfl, ⟨p, _, rfl, w2, by omega, fun J3 f3 w3 => ⟨_, rfl, ?_⟩⟩⟩
        exact ⟨_, rfl, hJ2.fr w2 f3, w3.mono (by omega)⟩
      · rintro σ J2 ⟨y3, rfl, hJ2, w2⟩
        exact ⟨_, _, _, rfl, hJ2⟩
    · rintro σ J ⟨y1, y2, y3, rfl, hJ⟩
      exact q J
end

theorem shaped_ints (xs : List Int) : SeqAt.shaped (dInts xs) = true := by
  have h1 : ∀ xs : List Int, PyData.canLayAll0 (xs.map PyData.int) = true := by
    intro xs
    induction xs with
    | nil => rfl
    | cons x xs ih =>
      rw [List.map_cons]
      show (PyData.canLay0 (.int x) && PyData.canLayAll0 (xs.map PyData.int)) = true
      rw [ih]
      rfl
  have h2 : ∀ xs : List Int, PyData.depthAll (xs.map PyData.int) ≤ 0 := by
    intro xs
    induction xs with
    | nil => exact Nat.zero_le _
    | cons x xs ih =>
      rw [List.map_cons]
      simp only [PyData.depthAll, PyData.depth]
      omega
  unfold SeqAt.shaped dInts
  have e1 : PyData.canLay0 (.list (xs.map PyData.int)) = true := by
    simp only [PyData.canLay0]
    exact h1 xs
  have e2 : PyData.depth (.list (xs.map PyData.int)) ≤ 64 := by
    simp only [PyData.depth]
    have := h2 xs
    omega
  rw [e1, decide_eq_true e2]
  rfl
theorem eqv_ints : ∀ xs ys : List Int, PyData.eqv (dInts xs) (dInts ys) = decide (xs = ys)
  | xs, ys => by
    have h : ∀ xs ys : List Int, PyData.eqvAll (xs.map PyData.int) (ys.map PyData.int) = decide (xs = ys) := by
      intro xs
      induction xs with
      | nil =>
        intro ys
        cases ys <;> rfl
      | cons x xs ih =>
        intro ys
        cases ys with
        | nil => rfl
        | cons y ys =>
          show (PyData.eqv (.int x) (.int y) && PyData.eqvAll (xs.map PyData.int) (ys.map PyData.int)) = _
          rw [ih, show PyData.eqv (.int x) (.int y) = (x == y) from rfl, Bool.eq_iff_iff]
          simp
    show PyData.eqvAll (xs.map PyData.int) (ys.map PyData.int) = _
    exact h xs ys

/-! ### the week of a law -/
def upWk (up : Int) (xs : List Int) : List Int := (List.range xs.length).map fun i => up + xs.getD i 0 - (i : Nat)
theorem upWk_len (up : Int) (xs : List Int) : (upWk up xs).length = xs.length := by unfold upWk; rw [List.length_map, List.length_range]
theorem upWk_get {up : Int} {xs : List Int} {i : Nat} (h : i < xs.length) : (upWk up xs)[i]? = some (up + xs[i] - (i : Nat)) := by
  unfold upWk
  rw [List.getElem?_map, List.getElem?_range h]
  show some (up + xs.getD i 0 - (i : Nat)) = some _
  rw [List.getD_eq_getElem?_getD, List.getElem?_eq_getElem h]
  rfl
theorem wk_up {up : Int} {xs : List Int} (h0 : 0 < xs.length) (t : Int) : ∃ (i : Nat) (h : i < xs.length), (i : Int) = t % xs.length ∧ wkOff (upWk up xs) t = up + xs[i] - i := by
  have a := Int.emod_nonneg t (show (xs.length : Int) ≠ 0 by omega)
  have b := Int.emod_lt_of_pos t (show (0 : Int) < xs.length by omega)
  refine ⟨(t % (xs.length : Int)).toNat, by omega, by omega, ?_⟩
  unfold wkOff
  rw [upWk_len, List.getD_eq_getElem?_getD, upWk_get (by omega)]
  rfl
theorem up_rises {up : Int} {xs : List Int} (h0 : 0 < xs.length) (asc : xs.Pairwise (· ≤ ·)) (hb : ∀ v ∈ xs, 0 ≤ v ∧ v ≤ xs.length) : Rises (upWk up xs) := by
  intro t
  obtain ⟨i, hi, e1, e2⟩ := wk_up (up := up) h0 t
  obtain ⟨j, hj, e3, e4⟩ := wk_up (up := up) h0 (t + 1)
  rw [e2, e4]
  have hn : (0 : Int) < xs.length := by omega
  have st : (t + 1) % (xs.length : Int) = if t % (xs.length : Int) + 1 = xs.length then 0 else t % (xs.length : Int) + 1 := by
    have a := Int.emod_nonneg t (show (xs.length : Int) ≠ 0 by omega)
    have b := Int.emod_lt_of_pos t hn
    rw [Int.add_emod]
    split
    · rename_i h
      by_cases h1 : (xs.length : Int) = 1
      · rw [h1] at h ⊢
        omega
      · rw [Int.emod_eq_of_lt (a := 1) (by omega) (by omega), h, Int.emod_self]
    · rename_i h
      by_cases h1 : (xs.length : Int) = 1
      · omega
      · rw [Int.emod_eq_of_lt (a := 1) (by omega) (by omega), Int.emod_eq_of_lt (by omega) (by omega)]
  have bi := hb _ (List.getElem_mem hi)
  have bj := hb _ (List.getElem_mem hj)
  rw [← e1, ← e3] at st
  split at st
  · omega
  · have ij : i < j := by omega
    have := List.pairwise_iff_getElem.mp asc i j hi hj ij
    omega
theorem wk_period {bs : List Int} (t : Int) : wkOff bs (t + (bs.length : Nat)) = wkOff bs t := by
  unfold wkOff
  rw [Int.add_emod_right]
/-- a new rule, by the promise of its __init__ -/
theorem ru_made {K : PySem.W.Frag} {R L : Addr} {H : Hp} {x dx a c : Addr} {bs : List Int} {vs : List V} {Rk : VK} {E : XK} (hv : vs = [.ref x, .ref a, .ref c]) (nx : H x = none) (ndx : H dx = none) (dn : dx ≠ x) (ha : H a = some (.lst (bs.map V.int))) (hc : H c = some (.lst [])) (l0 : 0 < bs.length) (l1 : bs.length ≤ 12) (rise : Rises bs)
    (k : ∀ H', Same H H' → (∀ av o, H av = some o → RuAt R L av H' x bs []) → Rk .non H') : spRuI0 R L K vs (upd (upd H dx (.own x)) x (.ins R dx [])) Rk E := by
  have s0 : Same H (upd (upd H dx (.own x)) x (.ins R dx [])) := fun c o e => by
    rw [upd_ne (ne_of_none e nx), upd_ne (ne_of_none e ndx)]
    exact e
  refine ⟨x, dx, a, c, bs, hv, upd_same, (by rw [upd_ne dn]; exact upd_same), dn, SqL.of (s0 _ _ ha), SqL.of (s0 _ _ hc), ne_of_none ha nx, ne_of_none hc nx, l0, l1, rise, fun H' ru f => k H' (fun c o e => f _ _ (s0 _ _ e) (ne_of_none e nx)) fun av o h => ru av o (s0 _ _ h) (ne_of_none h nx)⟩
theorem atI_wk {bs : List Int} {t : Int} (h : 0 < bs.length) : atI (bs.map V.int) (t % bs.length) = some (.int (wkOff bs t)) := by
  have h0 := Int.emod_nonneg t (show (bs.length : Int) ≠ 0 by omega)
  have h1 := Int.emod_lt_of_pos t (show (0 : Int) < bs.length by omega)
  obtain ⟨v, _, e, e2⟩ := atI_ints h0 h1
  rw [e2]
  unfold wkOff
  rw [List.getD_eq_getElem?_getD, e]
  rfl
theorem ne_self (v : V) : (!decide (v = v)) = false := by rw [decide_eq_true rfl]; rfl
section
variable {P : Program} {w : World} {K : PySem.W.Frag} {mg : Str → Option Value} {base : Heap}
theorem scRight : FnScope ["pool", "size", "up", "base_here", "handed", "made", "twin", "owed", "turn", "spot", "found", "at", "here"] ["pool"] (defScope sRight) := ⟨rfl, rfl, rfl, by decide +kernel, rfl, by decide +kernel, by decide +kernel⟩
theorem ok_right {f fT fS fH fI fC R L : Addr} {fd dT dS dH dI dC : FuncData} (F : Fun K "_law_right" "_law_right" sRight f fd) (T : Blt mg) (ne : mg "enumerate" = none) (Z : RuC K mg R) (D : Dk P w K mg base fT dT) (Rs : At P w K mg base 2 "_law_rising" ["pool", "size"] spRisingL fS dS)
    (GS : FnG P w K mg base 3 fH dH ["made"] (spShape R L)) (mS : mg "_law_shape" = some (.ref fH)) (kS : PySem.W.keepIn K (.ref fH) = true) (bS : Binds K dH ["made"] [])
    (MK : Mk K R fI) (GI : FnOk P w K mg base CX0 5 fI dI ["self", "base", "changes"] (spRuI0 R L K)) (bI : Binds K dI ["self", "base", "changes"] []) (kI : KBn K dI ["self", "base", "changes"] 1 ["changes", "base"] (gKw Value.none) (gKw V.non))
    (cO : StX.CallO K R fC) (GC : FnOk P w K mg base CX0 5 fC dC ["self", "moment"] (spRuAns R L)) (bC : Binds K dC ["self", "moment"] []) : FnG P w K mg base 7 f fd ["pool"] spFits := by
  refine okG F scRight (fun vs H Q E h => ?_) (fun cdv A outer s H vs Q E hgd hr h => ?_)
  · obtain ⟨p, n, rfl, _⟩ := h
    rfl
  · obtain ⟨p, n, rfl, hW, hn, k⟩ := h
    have hr1 : Room 1 _ := hr.mono (by decide)
    have hr2 : Room 2 _ := hr.mono (by decide)
    have hr3 : Room 3 _ := hr.mono (by decide)
    have hr5 : Room 5 _ := hr.mono (by decide)
    have hu := hr.units
    refine ⟨_, pss_cons (ps_set (i := 1) scRight.nd rfl (.inl rfl) (pe_op op_add pe_int (pe_call D.ok hr1 (by rfl) D.at_ D.kp D.bi .nil pass0 (pa_cons (pv 0) (pa_cons pe_int pa_nil)))))
      (pss_cons (ps_set (i := 2) scRight.nd rfl (.inr rfl) (pe_op op_mul (pe_op op_sub (pe_call D.ok hr1 (by rfl) D.at_ D.kp D.bi .nil pass0 (pa_cons (pv 0) (pa_cons pe_int pa_nil))) pe_int) (pe_call D.ok hr1 (by rfl) D.at_ D.kp D.bi .nil pass0 (pa_cons (pv 0) (pa_cons (pe_op op_sub (pe_op op_pow pe_int pe_int) pe_int) pa_nil)))))
      (pss_cons (ps_setLc (i := 3) (own := [("at", 11), ("here", 12)]) (g := gTup K 2 (gCons (gName 11) (gCons (gName 12) gNil))) (tt := tYes) rfl scRight.nd rfl rfl (sw_true rfl rfl rfl (by decide +kernel)) (pi_enum (by rfl) ne (pa_cons (pe_call Rs.ok hr2 (by rfl) Rs.at_ Rs.kp Rs.bi .nil pass0 (pa_cons (pv 0) (pa_cons (pv 1) pa_nil))) pa_nil))
          (blkOk_by (N := ["pool", "size", "up", "base_here", "handed", "made", "twin", "owed", "turn", "spot", "found", "at", "here"]) (sc := defScope sRight) (by decide +kernel)) (fun _ _ _ _ _ => pg_tup rfl (pgs_cons (pg_name (i := 11) scRight.nd rfl (.inl rfl)) (pgs_cons (pg_name (i := 12) scRight.nd rfl (.inl rfl)) pgs_nil))) (fun _ _ _ _ _ => pts_nil)
          (fun _ _ _ _ _ => (pe_op op_sub (pe_op op_add (pv 2) (pv 12)) (pv 11))))
      (pss_cons (ps_set (i := 4) scRight.nd rfl (.inl rfl) (pe_callTy call_list_of (by rfl) T.list (by decide +kernel) (pa_cons (pv 3) pa_nil)))
      (pss_cons (ps_par (i := 5) (j := 6) rfl scRight.nd rfl rfl (by decide) rfl rfl (pa_cons (pe_make MK GI hr (by rfl) Z.at_ bI .nil pass0 (pa_cons (pv 4) (pa_cons (pe_lst pa_nil) pa_nil))) (pa_cons (pe_makeK0 MK GI hr (by rfl) Z.at_ kI pass0 (pk_cons (pe_lst pa_nil) (pk_cons (pv 4) pk_nil))) pa_nil)) (by rfl))
      (pss_cons (ps_set (i := 7) scRight.nd rfl (.inl rfl) (pe_callB (call_rep2 hgd hu) (by rfl) T.repr (by decide +kernel) (pa_cons (pe_lst (pa_cons (pv 1) (pa_cons (pv 3) (pa_cons (pe_lst pa_nil) pa_nil)))) pa_nil)))
      (pss_cons (ps_if (PW.pt (pw_or (pt_cmpR op_ne (pe_callG GS hgd hr3 (by rfl) mS kS bS (pa_cons (pv 5) pa_nil)) (pv 7) (nomark _)) (pw_or (pt_cmpR op_ne (pe_callG GS hgd hr3 (by rfl) mS kS bS (pa_cons (pv 6) pa_nil)) (pv 7) (nomark _)) (pw_or1 (pt_cmpR (op_neD hu) (pv 4) (pv 3) (nomark _))))))
        (pss_one (ps_ret pe_bl))
        pss_nil)
      (pss_cons (ps_for PassesOwn.never rfl (pi_range1 (by rfl) T.range (pa_cons pe_int pa_nil)) (pg_name (i := 8) scRight.nd rfl (.inl rfl))
        (pss_cons (ps_set (i := 9) scRight.nd rfl (.inl rfl) (pe_op op_mul (pe_op op_sub (pe_call D.ok hr1 (by rfl) D.at_ D.kp D.bi .nil pass0 (pa_cons (pv 0) (pa_cons pe_int pa_nil))) pe_int) (pe_call D.ok hr1 (by rfl) D.at_ D.kp D.bi .nil pass0 (pa_cons (pv 0) (pa_cons (pe_ix ix_list (pe_lst (pa_cons pe_int (pa_cons (pe_op op_sub (pe_op op_pow pe_int pe_int) pe_int) pa_nil))) (pe_op op_mod (pe_callTy call_int1 (by rfl) T.int (by decide +kernel) (pa_cons (pv 8) pa_nil)) pe_int) (fun _ _ => rfl)) pa_nil)))))
        (pss_cons (ps_set (i := 10) scRight.nd rfl (.inl rfl) (pe_op op_add (pv 9) (pe_ix ix_list (pv 3) (pe_op op_mod (pe_callTy call_int1 (by rfl) T.int (by decide +kernel) (pa_cons (pv 9) pa_nil)) (pv 1)) (fun _ _ => rfl))))
        (pss_cons (ps_if (pt_cmpR op_ne (pe_callB (call_rep2 hgd hu) (by rfl) T.repr (by decide +kernel) (pa_cons (pe_lst (pa_cons (StX.pe_callO (pv 5) cO (GC.raw bC .nil) hr5 pass0 (pa_cons (pv 9) pa_nil)) (pa_cons (StX.pe_callO (pv 6) cO (GC.raw bC .nil) hr5 pass0 (pa_cons (pv 9) pa_nil)) (pa_cons (StX.pe_callO (pv 5) cO (GC.raw bC .nil) hr5 pass0 (pa_cons (pe_op op_add (pv 9) (pv 1)) pa_nil)) pa_nil)))) pa_nil)) (pe_callB (call_rep2 hgd hu) (by rfl) T.repr (by decide +kernel) (pa_cons (pe_lst (pa_cons (pv 10) (pa_cons (pv 10) (pa_cons (pe_op op_add (pv 10) (pv 1)) pa_nil)))) pa_nil)) (nomark _))
          (pss_one (ps_ret pe_bl))
          pss_nil)
        (pss_one (ps_if (pt_cmpR op_lt (StX.pe_callO (pv 5) cO (GC.raw bC .nil) hr5 pass0 (pa_cons (pe_op op_add (pv 9) pe_int) pa_nil)) (StX.pe_callO (pv 5) cO (GC.raw bC .nil) hr5 pass0 (pa_cons (pv 9) pa_nil)) (nomark _))
          (pss_one (ps_ret pe_bl))
          pss_nil))))))
      (pss_one (ps_ret pe_bl))))))))), ?_⟩
    -- the draws
    refine ⟨_, rfl, ⟨p, n, 12, rfl, hW, by omega, by decide, by decide, fun z H1 z0 z1 f1 w1 => ⟨_, _, rfl, rfl, ?_⟩⟩⟩
    refine ⟨_, rfl, ⟨p, _, 3, rfl, w1, by omega, by decide, by decide, fun u H2 u0 u1 f2 w2 => ⟨_, _, rfl, rfl, ?_⟩⟩⟩
    refine ⟨_, rfl, _, _, rfl, rfl, ⟨by decide, by decide, by decide⟩, _, _, rfl, rfl, ⟨p, _, _, rfl, w2, by omega, by decide, by decide, fun v H3 v0 v1 f3 w3 => ?_⟩⟩
    refine ⟨_, _, rfl, rfl, .inl ⟨by omega, by omega⟩, ?_⟩
    have vb : v < 10 ^ 31 := Int.lt_of_lt_of_le v1 (by decide)
    have ub : -10 ^ 31 < (u - 1) * v ∧ (u - 1) * v < 10 ^ 31 := by
      have : u - 1 = -1 ∨ u - 1 = 0 ∨ u - 1 = 1 := by omega
      rcases this with h | h | h <;> rw [h] <;> omega
    have f13 := (f1.trans f2).trans f3
    refine ⟨_, rfl, _, rfl, ⟨p, _, 1 + z, rfl, w3, by omega, by omega, by omega, fun qx xs H4 asc xl xb nq qp hq f4 w4 => ?_⟩⟩
    have f14 := f13.trans f4
    have xl2 : (xs.length : Int) = 1 + z := xl
    have xl0 : 0 < xs.length := by omega
    refine ⟨qx, _, rfl, SqL.of hq, fun B hB => lc_it (walk_enum (K := K) (a := qx) (xs := xs.map V.int)) (fun i J => J B = some (.lst (((upWk ((u - 1) * v) xs).take i).map V.int)) ∧ Same H4 J) ⟨by rw [upd_same]; rfl, same_new hB⟩ (fun i J _ h => SqL.of (h.2 _ _ hq)) ?_ ?_⟩
    · rintro i y J J' hi ⟨hJ, sJ⟩ ⟨T', x1, x2, rfl, nT, rfl, e1, e2⟩
      obtain rfl := Option.some.inj e1
      have hi' : i < xs.length := by simpa using hi
      replace e2 : (List.map _ _)[i]? = some x2 := e2
      rw [List.getElem?_map, List.getElem?_eq_getElem hi'] at e2
      obtain rfl := Option.some.inj e2
      have sT := same_new (o := .tup [.int (i : Nat), .int xs[i]]) nT
      refine ⟨T', _, rfl, .inl (.inl upd_same), rfl, _, _, rfl, _, [], rfl, rfl, rfl, ?_⟩
      refine ⟨_, rfl, _, rfl, _, _, rfl, rfl, _, rfl, _, _, rfl, rfl, _, sT _ _ hJ, ?_, ?_, fun b o e => ?_⟩
      · rw [List.length_map, List.length_take, upWk_len]
        exact small1000 (by omega)
      · rw [upd_same, List.take_add_one, upWk_get hi', List.map_append]
        rfl
      · rw [upd_ne (ne_of_none e hB)]
        exact sT _ _ (sJ _ _ e)
    · rintro J ⟨hJ, sJ⟩
      have el : (xs.map V.int).length = (upWk ((u - 1) * v) xs).length := by rw [List.length_map, upWk_len]
      rw [el, List.take_length] at hJ
      have f5 := f14.trans (Fr.of sJ)
      have w5 := w4.same sJ
      have hBp : B ≠ p := (w4.ne hB).symm
      have rise := up_rises (up := (u - 1) * v) xl0 asc (fun v hv => by have := xb v hv; omega)
      have bl : (upWk ((u - 1) * v) xs).length = xs.length := upWk_len _ xs
      have per := fun t => wk_period (bs := upWk ((u - 1) * v) xs) t
      have big : ∀ t, -10 ^ 31 - 24 < wkOff (upWk ((u - 1) * v) xs) t ∧ wkOff (upWk ((u - 1) * v) xs) t < 10 ^ 31 + 24 := fun t => by
        obtain ⟨i, hi, _, e⟩ := wk_up (up := (u - 1) * v) xl0 t
        have := xb _ (List.getElem_mem hi)
        omega
      have bigv : ∀ y ∈ upWk ((u - 1) * v) xs, -10 ^ 40 < y ∧ y < 10 ^ 40 := fun y hv => by
        obtain ⟨i, hi, e⟩ := List.getElem_of_mem hv
        rw [bl] at hi
        have e2 := upWk_get (up := (u - 1) * v) hi
        rw [List.getElem?_eq_getElem (by omega), e] at e2
        have e3 := Option.some.inj e2
        have := xb _ (List.getElem_mem hi)
        omega
      generalize upWk ((u - 1) * v) xs = bs at hJ rise bl per big bigv
      have ll : (bs.length : Int) = 1 + z := by omega
      refine ⟨_, rfl, B, _, rfl, .inl (SqL.of hJ), fun h nh => ?_⟩
      have s6 := same_new (o := .lst (bs.map V.int)) nh
      have hh6 := upd_same (H := J) (a := h) (o := .lst (bs.map V.int))
      have w6 := w5.same s6
      have f6 := f5.trans (Fr.of s6)
      have hB6 := s6 _ _ hJ
      have hp : h ≠ p := (w5.ne nh).symm
      generalize upd J h (.lst (bs.map V.int)) = H6 at s6 hh6 w6 f6 hB6
      -- made, twin
      refine ⟨_, rfl, (by show 0 ≤ sizeLine; decide), fun e1 ne1 => ?_⟩
      have s7 := same_new (o := .lst []) ne1
      have he7 := upd_same (H := H6) (a := e1) (o := .lst [])
      have w7 := w6.same s7
      have f7 := f6.trans (Fr.of s7)
      have hB7 := s7 _ _ hB6
      have hh7 := s7 _ _ hh6
      generalize upd H6 e1 (.lst []) = H7 at s7 he7 w7 f7 hB7 hh7 ⊢
      refine fun x1 dx1 nx1 nd1 dn1 => ru_made (H := H7) rfl nx1 nd1 dn1 hh7 he7 (by omega) (by omega) rise fun H8 s8 ru1 => ⟨rfl, ?_⟩
      have rp1 : RuAt R L p H8 x1 bs [] := by
        obtain ⟨a, b, c, hp', _⟩ := w7
        exact ru1 p _ hp'
      have w8 := w7.same s8
      have f8 := f7.trans (Fr.of s8)
      refine ⟨(by show 0 ≤ sizeLine; decide), fun e2 ne2 => ?_⟩
      have s9 := same_new (o := .lst []) ne2
      have he9 := upd_same (H := H8) (a := e2) (o := .lst [])
      have w9 := w8.same s9
      have f9 := f8.trans (Fr.of s9)
      have rp1' := rp1.same s9
      have hh9 := s9 _ _ (s8 _ _ hh7)
      have hB9 := s9 _ _ (s8 _ _ hB7)
      generalize upd H8 e2 (.lst []) = H9 at s9 he9 w9 f9 rp1' hh9 hB9 ⊢
      refine ⟨_, rfl, rfl, rfl, fun x2 dx2 nx2 nd2 dn2 => ru_made (H := H9) rfl nx2 nd2 dn2 hh9 he9 (by omega) (by omega) rise fun H10 s10 ru2 => ⟨rfl, _, _, rfl, ?_⟩⟩
      have rp2 : RuAt R L p H10 x2 bs [] := by
        obtain ⟨a, b, c, hp', _⟩ := w9
        exact ru2 p _ hp'
      have rq1 := rp1'.same s10
      have w10 := w9.same s10
      have f10 := f9.trans (Fr.of s10)
      have hB10 := s10 _ _ hB9
      have hh10 := s10 _ _ hh9
      -- owed
      have eD : PyData.list [.int (1 + z), dInts bs, dMarks []] = shapeD bs [] := by
        unfold shapeD
        rw [ll]
      refine ⟨_, rfl, _, rfl, (by show 0 ≤ sizeLine; decide), fun e3 ne3 => ⟨(by show 3 ≤ sizeLine; decide), fun e4 ne4 => ?_⟩⟩
      have s11 := same_new (o := .lst []) ne3
      have s12 := same_new (o := .lst [.int (1 + z), .ref B, .ref e3]) ne4
      refine ⟨e4, .list [.int (1 + z), dInts bs, dMarks []], 300, 10, rfl, .lst (SqL.of upd_same) (.cons (.int _) (.cons (dp_ints (SqL.of (s12 _ _ (s11 _ _ hB10)))) (.cons (.lst (SqL.of (s12 _ _ (upd_same (H := H10) (a := e3) (o := .lst [])))) .nil) .nil))), by rw [eD]; exact rp_shape (by omega) (by decide) bigv (fun m hm => nomatch hm), by decide, by decide, ?_⟩
      rw [eD]
      have s1012 := s11.trans s12
      have rq1' := rq1.same s1012
      have rp2' := rp2.same s1012
      have w12 := w10.same s1012
      have f12 := f10.trans (Fr.of s1012)
      have hB12 := s1012 _ _ hB10
      have hh12 := s1012 _ _ hh10
      generalize upd (upd H10 e3 (.lst [])) e4 (.lst [.int (1 + z), .ref B, .ref e3]) = H12 at rq1' rp2' w12 f12 hB12 hh12 ⊢
      refine ⟨_, rfl, ⟨x1, p, bs, [], rfl, rq1', by omega, by decide, bigv, (fun m hm => nomatch hm), fun H13 s13 => ?_⟩⟩
      refine ⟨_, rfl, rfl, _, rfl, ?_⟩
      rw [ne_self]
      refine ⟨_, rfl, ⟨x2, p, bs, [], rfl, rp2'.same s13, by omega, by decide, bigv, (fun m hm => nomatch hm), fun H14 s14 => ?_⟩⟩
      refine ⟨_, rfl, rfl, _, rfl, ?_⟩
      rw [ne_self]
      have s1214 := s13.trans s14
      refine ⟨_, rfl, _, rfl, dInts bs, dInts bs, dp_ints (SqL.of (s1214 _ _ hh12)), dp_ints (SqL.of (s1214 _ _ hB12)), shaped_ints _, shaped_ints _, _, rfl, ?_⟩
      rw [eqv_ints, decide_eq_true rfl]
      have l0 : 0 < bs.length := by omega
      refine ⟨6, rfl, by decide, by decide, for_range (lo := 0) (n := 6) (fun i σ J => ∃ y8 y9 y10 : Option V, σ = [some (.ref p), some (.int (1 + z)), some (.int ((u - 1) * v)), some (.ref B), some (.ref h), some (.ref x1), some (.ref x2), some (.str (shapeD bs []).shown), y8, y9, y10, none, none] ∧
        RuAt R L p J x1 bs [] ∧ RuAt R L p J x2 bs [] ∧ J B = some (.lst (bs.map V.int)) ∧ Well J p (n + 50 + i * 5) ∧ Fr p H J) ⟨none, none, none, rfl, rq1'.same s1214, rp2'.same s1214, s1214 _ _ hB12, (w12.same s1214).mono (by omega), f12.trans (Fr.of s1214)⟩ ?_ ?_⟩
      · rintro i σ I hi ⟨y8, y9, y10, rfl, r1, r2, hB', wI, fI⟩
        refine ⟨_, rfl, ⟨p, _, 3, rfl, wI, by omega, by decide, by decide, fun u2 I1 v0 v1 g1 k1 => ⟨_, _, rfl, rfl, ?_⟩⟩⟩
        refine ⟨_, rfl, _, _, rfl, rfl, ⟨by decide, by decide, by decide⟩, _, _, rfl, rfl, (by show 2 ≤ sizeLine; decide), fun e ne => ?_⟩
        have hs : ∃ sz : Int, 0 < sz ∧ sz < 10 ^ 31 ∧ atI [V.int 30, V.int (10 ^ (31 : Int).toNat - 20)] ((0 + (i : Int)) % 2) = some (.int sz) := by
          have : (0 + (i : Int)) % 2 = 0 ∨ (0 + (i : Int)) % 2 = 1 := by omega
          rcases this with h | h <;> rw [h]
          · exact ⟨30, by decide, by decide, atI_nat (j := 0) rfl⟩
          · exact ⟨10 ^ (31 : Int).toNat - 20, by decide, by decide, atI_nat (j := 1) rfl⟩
        obtain ⟨sz, sz0, sz1, at2⟩ := hs
        refine ⟨_, rfl, .inl ⟨_, rfl, _, _, rfl, rfl, (by show (0 : Int) < 2; decide), e, _, _, _, rfl, rfl, SqL.of upd_same, at2, ⟨p, _, sz, rfl, k1.new ne, by omega, sz0, Int.lt_of_lt_of_le sz1 (by decide), fun y I2 q0 q1 g2 k2 => ⟨_, _, rfl, rfl, .inl ⟨by omega, by omega⟩, ?_⟩⟩⟩⟩
        have sb : -10 ^ 31 < (u2 - 1) * y ∧ (u2 - 1) * y < 10 ^ 31 := by
          have : u2 - 1 = -1 ∨ u2 - 1 = 0 ∨ u2 - 1 = 1 := by omega
          rcases this with h | h | h <;> rw [h] <;> omega
        have g02 := (g1.trans (Fr.new ne)).trans g2
        have r1' := r1.fr g02
        have r2' := r2.fr g02
        have hB2 := g02 _ _ hB' hBp
        have fI2 := fI.trans g02
        refine ⟨_, rfl, _, rfl, _, rfl, .inl ⟨_, rfl, _, rfl, _, _, rfl, rfl, (by omega), B, _, _, _, rfl, rfl, SqL.of hB2, (by rw [← ll]; exact atI_wk l0), _, _, rfl, rfl, ?_⟩⟩
        obtain ⟨da, b1, c1, l1, _, _, hx1, _⟩ := id r1'
        obtain ⟨db, b2, c2, l2, _, _, hx2, _⟩ := id r2'
        have e3 : (u2 - 1) * y + (1 + z) + offAt bs [] ((u2 - 1) * y + (1 + z)) = (u2 - 1) * y + wkOff bs ((u2 - 1) * y) + (1 + z) := by
          rw [offAt_nil, ← ll, per]
          omega
        have bg := big ((u2 - 1) * y)
        have rpL : Rp (.list [.int ((u2 - 1) * y + wkOff bs ((u2 - 1) * y)), .int ((u2 - 1) * y + wkOff bs ((u2 - 1) * y)), .int ((u2 - 1) * y + wkOff bs ((u2 - 1) * y) + (1 + z))]) 10 3 :=
          (Rp.list (.cons (Rp.int (by omega) (by omega)) (.cons (Rp.int (by omega) (by omega)) (.cons (Rp.int (by omega) (by omega)) .nil)))).mono (by decide) (by decide)
        refine ⟨_, rfl, x1, rfl, _, rfl, .inr ⟨da, _, hx1⟩, ⟨x1, p, _, bs, [], rfl, r1', l0, .nil, ?_⟩⟩
        refine ⟨_, rfl, x2, rfl, _, rfl, .inr ⟨db, _, hx2⟩, ⟨x2, p, _, bs, [], rfl, r2', l0, .nil, ?_⟩⟩
        refine ⟨_, rfl, x1, rfl, _, rfl, _, rfl, _, _, rfl, rfl, .inr ⟨da, _, hx1⟩, ⟨x1, p, _, bs, [], rfl, r1', l0, .nil, ?_⟩⟩
        refine ⟨(by show 3 ≤ sizeLine; decide), fun e5 ne5 => ?_⟩
        refine ⟨e5, .list [.int ((u2 - 1) * y + wkOff bs ((u2 - 1) * y)), .int ((u2 - 1) * y + wkOff bs ((u2 - 1) * y)), .int ((u2 - 1) * y + wkOff bs ((u2 - 1) * y) + (1 + z))], 10, 3, rfl, .lst (SqL.of upd_same) (.cons (.int _) (.cons (.int _) (.cons (by rw [← e3]; exact .int _) .nil))), rpL, by decide, by decide, ?_⟩
        have s5 := same_new (o := .lst [.int ((u2 - 1) * y + offAt bs [] ((u2 - 1) * y)), .int ((u2 - 1) * y + offAt bs [] ((u2 - 1) * y)), .int ((u2 - 1) * y + (1 + z) + offAt bs [] ((u2 - 1) * y + (1 + z)))]) ne5
        refine ⟨_, rfl, _, rfl, _, rfl, _, rfl, _, _, rfl, rfl, (by show 3 ≤ sizeLine; decide), fun e6 ne6 => ?_⟩
        refine ⟨e6, .list [.int ((u2 - 1) * y + wkOff bs ((u2 - 1) * y)), .int ((u2 - 1) * y + wkOff bs ((u2 - 1) * y)), .int ((u2 - 1) * y + wkOff bs ((u2 - 1) * y) + (1 + z))], 10, 3, rfl, .lst (SqL.of upd_same) (.cons (.int _) (.cons (.int _) (.cons (.int _) .nil))), rpL, by decide, by decide, ?_⟩
        have s56 := s5.trans (same_new (o := .lst [.int ((u2 - 1) * y + wkOff bs ((u2 - 1) * y)), .int ((u2 - 1) * y + wkOff bs ((u2 - 1) * y)), .int ((u2 - 1) * y + wkOff bs ((u2 - 1) * y) + (1 + z))]) ne6)
        refine ⟨rfl, _, rfl, ?_⟩
        rw [ne_self]
        refine ⟨_, rfl, x1, rfl, _, rfl, _, _, rfl, rfl, .inr ⟨da, _, s56 _ _ hx1⟩, ⟨x1, p, _, bs, [], rfl, r1'.same s56, l0, .nil, ?_⟩⟩
        refine ⟨_, rfl, x1, rfl, _, rfl, .inr ⟨da, _, s56 _ _ hx1⟩, ⟨x1, p, _, bs, [], rfl, r1'.same s56, l0, .nil, _, _, rfl, rfl, _, rfl, ite2 (fun g => ?_) (fun _ => ?_)⟩⟩
        · have g2 : (u2 - 1) * y + 1 + wkOff bs ((u2 - 1) * y + 1) < (u2 - 1) * y + wkOff bs ((u2 - 1) * y) := of_decide_eq_true g
          have := rise ((u2 - 1) * y)
          omega
        · exact ⟨_, _, _, rfl, r1'.same s56, r2'.same s56, s56 _ _ hB2, (k2.same s56).mono (by omega), fI2.trans (Fr.of s56)⟩
      · rintro σ I ⟨y8, y9, y10, rfl, r1, r2, hB', wI, fI⟩
        exact k I fI (wI.mono (by omega))
end

section
theorem all_mk {l : PySem.W.OpenLaw} {w : World} {K : PySem.W.Frag} {h : Heap} {mg : Str → Option Value} {fa LL RR f0 f1 f2 f3 f4 f5 f6 f7 f8 f9 f10 f11 f12 f13 f14 f15 f16 f17 f18 p18 f19 p19 f20 p20 f21 f22 f23 : Addr} (X : K.In h) (G : h.Ns mainGlobals mg) (hfa : mg "law" = some (.ref fa))
    {oc0 kV0 dc0 pm0 cd0 ct0 : Value} {od0 an0 : Option Addr} {sl0 : Array (Option Value)}
    {oc1 kV1 dc1 pm1 cd1 ct1 : Value} {od1 an1 : Option Addr} {sl1 : Array (Option Value)}
    {oc2 kV2 dc2 pm2 cd2 ct2 : Value} {od2 an2 : Option Addr} {sl2 : Array (Option Value)}
    {oc3 kV3 dc3 pm3 cd3 ct3 : Value} {od3 an3 : Option Addr} {sl3 : Array (Option Value)}
    {oc4 kV4 dc4 pm4 cd4 ct4 : Value} {od4 an4 : Option Addr} {sl4 : Array (Option Value)}
    {oc5 kV5 dc5 pm5 cd5 ct5 : Value} {od5 an5 : Option Addr} {sl5 : Array (Option Value)}
    {oc6 kV6 dc6 pm6 cd6 ct6 ocT6 : Value} {od6 an6 odT6 : Option Addr} {sl6 slT6 : Array (Option Value)} {dT6 : Addr} {tk6 : Tok} {nT6 : Nat}
    {oc7 kV7 dc7 pm7 cd7 ct7 : Value} {od7 an7 : Option Addr} {sl7 : Array (Option Value)}
    {oc8 kV8 dc8 pm8 cd8 ct8 : Value} {od8 an8 : Option Addr} {sl8 : Array (Option Value)}
    {oc9 kV9 dc9 pm9 cd9 ct9 : Value} {od9 an9 : Option Addr} {sl9 : Array (Option Value)}
    {oc10 kV10 dc10 pm10 cd10 ct10 : Value} {od10 an10 : Option Addr} {sl10 : Array (Option Value)}
    {oc11 kV11 dc11 pm11 cd11 ct11 : Value} {od11 an11 : Option Addr} {sl11 : Array (Option Value)}
    {oc12 kV12 dc12 pm12 cd12 ct12 : Value} {od12 an12 : Option Addr} {sl12 : Array (Option Value)}
    {oc13 kV13 dc13 pm13 cd13 ct13 : Value} {od13 an13 : Option Addr} {sl13 : Array (Option Value)}
    {oc14 kV14 dc14 pm14 cd14 ct14 : Value} {od14 an14 : Option Addr} {sl14 : Array (Option Value)}
    {oc15 kV15 dc15 pm15 cd15 ct15 : Value} {od15 an15 : Option Addr} {sl15 : Array (Option Value)}
    {oc16 kV16 dc16 pm16 cd16 ct16 : Value} {od16 an16 : Option Addr} {sl16 : Array (Option Value)}
    {oc17 kV17 dc17 pm17 cd17 ct17 : Value} {od17 an17 : Option Addr} {sl17 : Array (Option Value)}
    {rs18 : List Value}
    {oc18 kV18 dc18 pm18 cd18 ct18 : Value} {od18 an18 : Option Addr} {sl18 : Array (Option Value)}
    {rs19 : List Value}
    {oc19 kV19 dc19 pm19 cd19 ct19 : Value} {od19 an19 : Option Addr} {sl19 : Array (Option Value)}
    {rs20 : List Value}
    {oc20 kV20 dc20 pm20 cd20 ct20 : Value} {od20 an20 : Option Addr} {sl20 : Array (Option Value)}
    {oc21 kV21 dc21 pm21 cd21 ct21 : Value} {od21 an21 : Option Addr} {sl21 : Array (Option Value)}
    {oc22 kV22 dc22 pm22 cd22 ct22 : Value} {od22 an22 : Option Addr} {sl22 : Array (Option Value)}
    {oc23 kV23 dc23 pm23 cd23 ct23 : Value} {od23 an23 : Option Addr} {sl23 : Array (Option Value)}
    {t_GREATEST_WEEK : Tok}
    (aLL : PySem.W.nsIn K mainGlobals "Lane" = some (some (.ref LL)))
    (aRR : PySem.W.nsIn K mainGlobals "Rule" = some (some (.ref RR)))
    (a0 : PySem.W.nsIn K mainGlobals "check_week" = some (some (.ref f0)))
    (l0 : K.lookup f0 = some ⟨oc0, od0, .func (PySem.W.fnOf "check_week" "check_week" (defArgs sChkWeek) (defBody sChkWeek) (defScope sChkWeek) .none kV0 dc0 pm0 an0 cd0 ct0), sl0⟩)
    (c0 : PySem.W.codeIn K cd0 "check_week" = true)
    (k0 : PySem.W.keepIn K (.ref f0) = true)
    (a1 : PySem.W.nsIn K mainGlobals "is_behind" = some (some (.ref f1)))
    (l1 : K.lookup f1 = some ⟨oc1, od1, .func (PySem.W.fnOf "is_behind" "is_behind" (defArgs sBehind) (defBody sBehind) (defScope sBehind) .none kV1 dc1 pm1 an1 cd1 ct1), sl1⟩)
    (c1 : PySem.W.codeIn K cd1 "is_behind" = true)
    (k1 : PySem.W.keepIn K (.ref f1) = true)
    (a2 : PySem.W.nsIn K mainGlobals "many_upto" = some (some (.ref f2)))
    (l2 : K.lookup f2 = some ⟨oc2, od2, .func (PySem.W.fnOf "many_upto" "many_upto" (defArgs sUpto) (defBody sUpto) (defScope sUpto) .none kV2 dc2 pm2 an2 cd2 ct2), sl2⟩)
    (c2 : PySem.W.codeIn K cd2 "many_upto" = true)
    (k2 : PySem.W.keepIn K (.ref f2) = true)
    (a3 : PySem.W.nsIn K mainGlobals "telling_changes" = some (some (.ref f3)))
    (l3 : K.lookup f3 = some ⟨oc3, od3, .func (PySem.W.fnOf "telling_changes" "telling_changes" (defArgs sTelling) (defBody sTelling) (defScope sTelling) .none kV3 dc3 pm3 an3 cd3 ct3), sl3⟩)
    (c3 : PySem.W.codeIn K cd3 "telling_changes" = true)
    (k3 : PySem.W.keepIn K (.ref f3) = true)
    (a4 : PySem.W.nsIn K mainGlobals "lanes_of" = some (some (.ref f4)))
    (l4 : K.lookup f4 = some ⟨oc4, od4, .func (PySem.W.fnOf "lanes_of" "lanes_of" (defArgs sLanes) (defBody sLanes) (defScope sLanes) .none kV4 dc4 pm4 an4 cd4 ct4), sl4⟩)
    (c4 : PySem.W.codeIn K cd4 "lanes_of" = true)
    (k4 : PySem.W.keepIn K (.ref f4) = true)
    (a5 : PySem.W.nsIn K mainGlobals "changed_moments" = some (some (.ref f5)))
    (l5 : K.lookup f5 = some ⟨oc5, od5, .func (PySem.W.fnOf "changed_moments" "changed_moments" (defArgs sChanged) (defBody sChanged) (defScope sChanged) .none kV5 dc5 pm5 an5 cd5 ct5), sl5⟩)
    (c5 : PySem.W.codeIn K cd5 "changed_moments" = true)
    (k5 : PySem.W.keepIn K (.ref f5) = true)
    (a6 : PySem.W.nsIn K mainGlobals "beside" = some (some (.ref f6)))
    (l6 : K.lookup f6 = some ⟨oc6, od6, .func (PySem.W.fnOf "beside" "beside" (defArgs sBeside) (defBody sBeside) (defScope sBeside) (.ref dT6) kV6 dc6 pm6 an6 cd6 ct6), sl6⟩)
    (lT6 : K.lookup dT6 = some ⟨ocT6, odT6, .seq #[.int 0 tk6] nT6, slT6⟩)
    (c6 : PySem.W.codeIn K cd6 "beside" = true)
    (k6 : PySem.W.keepIn K (.ref f6) = true)
    (a7 : PySem.W.nsIn K mainGlobals "check_ascending" = some (some (.ref f7)))
    (l7 : K.lookup f7 = some ⟨oc7, od7, .func (PySem.W.fnOf "check_ascending" "check_ascending" (defArgs sAscend) (defBody sAscend) (defScope sAscend) .none kV7 dc7 pm7 an7 cd7 ct7), sl7⟩)
    (c7 : PySem.W.codeIn K cd7 "check_ascending" = true)
    (k7 : PySem.W.keepIn K (.ref f7) = true)
    (a8 : PySem.W.nsIn K mainGlobals "check_rising" = some (some (.ref f8)))
    (l8 : K.lookup f8 = some ⟨oc8, od8, .func (PySem.W.fnOf "check_rising" "check_rising" (defArgs sRising) (defBody sRising) (defScope sRising) .none kV8 dc8 pm8 an8 cd8 ct8), sl8⟩)
    (c8 : PySem.W.codeIn K cd8 "check_rising" = true)
    (k8 : PySem.W.keepIn K (.ref f8) = true)
    (a9 : PySem.W.nsIn K mainGlobals "_law_pool" = some (some (.ref f9)))
    (l9 : K.lookup f9 = some ⟨oc9, od9, .func (PySem.W.fnOf "_law_pool" "_law_pool" (defArgs sPool) (defBody sPool) (defScope sPool) .none kV9 dc9 pm9 an9 cd9 ct9), sl9⟩)
    (c9 : PySem.W.codeIn K cd9 "_law_pool" = true)
    (k9 : PySem.W.keepIn K (.ref f9) = true)
    (a10 : PySem.W.nsIn K mainGlobals "_law_draw" = some (some (.ref f10)))
    (l10 : K.lookup f10 = some ⟨oc10, od10, .func (PySem.W.fnOf "_law_draw" "_law_draw" (defArgs sDraw) (defBody sDraw) (defScope sDraw) .none kV10 dc10 pm10 an10 cd10 ct10), sl10⟩)
    (c10 : PySem.W.codeIn K cd10 "_law_draw" = true)
    (k10 : PySem.W.keepIn K (.ref f10) = true)
    (a11 : PySem.W.nsIn K mainGlobals "_law_rising" = some (some (.ref f11)))
    (l11 : K.lookup f11 = some ⟨oc11, od11, .func (PySem.W.fnOf "_law_rising" "_law_rising" (defArgs sRisingL) (defBody sRisingL) (defScope sRisingL) .none kV11 dc11 pm11 an11 cd11 ct11), sl11⟩)
    (c11 : PySem.W.codeIn K cd11 "_law_rising" = true)
    (k11 : PySem.W.keepIn K (.ref f11) = true)
    (a12 : PySem.W.nsIn K mainGlobals "_law_shape" = some (some (.ref f12)))
    (l12 : K.lookup f12 = some ⟨oc12, od12, .func (PySem.W.fnOf "_law_shape" "_law_shape" (defArgs sShape) (defBody sShape) (defScope sShape) .none kV12 dc12 pm12 an12 cd12 ct12), sl12⟩)
    (c12 : PySem.W.codeIn K cd12 "_law_shape" = true)
    (k12 : PySem.W.keepIn K (.ref f12) = true)
    (a13 : PySem.W.nsIn K mainGlobals "_law_right" = some (some (.ref f13)))
    (l13 : K.lookup f13 = some ⟨oc13, od13, .func (PySem.W.fnOf "_law_right" "_law_right" (defArgs sRight) (defBody sRight) (defScope sRight) .none kV13 dc13 pm13 an13 cd13 ct13), sl13⟩)
    (c13 : PySem.W.codeIn K cd13 "_law_right" = true)
    (k13 : PySem.W.keepIn K (.ref f13) = true)
    (a14 : PySem.W.nsIn K mainGlobals "law" = some (some (.ref f14)))
    (l14 : K.lookup f14 = some ⟨oc14, od14, .func (PySem.W.fnOf "law" "law" (defArgs sLaw) (defBody sLaw) (defScope sLaw) .none kV14 dc14 pm14 an14 cd14 ct14), sl14⟩)
    (c14 : PySem.W.codeIn K cd14 "law" = true)
    (k14 : PySem.W.keepIn K (.ref f14) = true)
    (a15 : PySem.W.findIn K (.ref LL) "__init__" = some (some (.ref f15)))
    (i15 : PySem.W.isFn K (.ref f15) = true)
    (j15 : PySem.W.fnIn K f15 = true)
    (l15 : K.lookup f15 = some ⟨oc15, od15, .func (PySem.W.fnOf "__init__" "Lane.__init__" (defArgs sLaneI) (defBody sLaneI) (defScope sLaneI) .none kV15 dc15 pm15 an15 cd15 ct15), sl15⟩)
    (c15 : PySem.W.codeIn K cd15 "Lane.__init__" = true)
    (k15 : PySem.W.keepIn K (.ref f15) = true)
    (a16 : PySem.W.findIn K (.ref LL) "offset" = some (some (.ref f16)))
    (i16 : PySem.W.isFn K (.ref f16) = true)
    (j16 : PySem.W.fnIn K f16 = true)
    (l16 : K.lookup f16 = some ⟨oc16, od16, .func (PySem.W.fnOf "offset" "Lane.offset" (defArgs sLaneOff) (defBody sLaneOff) (defScope sLaneOff) .none kV16 dc16 pm16 an16 cd16 ct16), sl16⟩)
    (c16 : PySem.W.codeIn K cd16 "Lane.offset" = true)
    (k16 : PySem.W.keepIn K (.ref f16) = true)
    (a17 : PySem.W.findIn K (.ref RR) "__init__" = some (some (.ref f17)))
    (i17 : PySem.W.isFn K (.ref f17) = true)
    (j17 : PySem.W.fnIn K f17 = true)
    (l17 : K.lookup f17 = some ⟨oc17, od17, .func (PySem.W.fnOf "__init__" "Rule.__init__" (defArgs sRuI) (defBody sRuI) (defScope sRuI) .none kV17 dc17 pm17 an17 cd17 ct17), sl17⟩)
    (c17 : PySem.W.codeIn K cd17 "Rule.__init__" = true)
    (k17 : PySem.W.keepIn K (.ref f17) = true)
    (a18 : PySem.W.findIn K (.ref RR) "week" = some (some (.ref p18)))
    (g18 : PySem.W.specialIn K (.ref p18) "__get__" = some (some (.builtin "property.__get__")))
    (t18 : PySem.W.takesIn K (.ref p18) = some true)
    (r18 : PySem.W.recIn K p18 "property" = some (.ref f18 :: rs18))
    (l18 : K.lookup f18 = some ⟨oc18, od18, .func (PySem.W.fnOf "week" "Rule.week" (defArgs sRuWeek) (defBody sRuWeek) (defScope sRuWeek) .none kV18 dc18 pm18 an18 cd18 ct18), sl18⟩)
    (c18 : PySem.W.codeIn K cd18 "Rule.week" = true)
    (k18 : PySem.W.keepIn K (.ref f18) = true)
    (a19 : PySem.W.findIn K (.ref RR) "base" = some (some (.ref p19)))
    (g19 : PySem.W.specialIn K (.ref p19) "__get__" = some (some (.builtin "property.__get__")))
    (t19 : PySem.W.takesIn K (.ref p19) = some true)
    (r19 : PySem.W.recIn K p19 "property" = some (.ref f19 :: rs19))
    (l19 : K.lookup f19 = some ⟨oc19, od19, .func (PySem.W.fnOf "base" "Rule.base" (defArgs sRuBase) (defBody sRuBase) (defScope sRuBase) .none kV19 dc19 pm19 an19 cd19 ct19), sl19⟩)
    (c19 : PySem.W.codeIn K cd19 "Rule.base" = true)
    (k19 : PySem.W.keepIn K (.ref f19) = true)
    (a20 : PySem.W.findIn K (.ref RR) "changes" = some (some (.ref p20)))
    (g20 : PySem.W.specialIn K (.ref p20) "__get__" = some (some (.builtin "property.__get__")))
    (t20 : PySem.W.takesIn K (.ref p20) = some true)
    (r20 : PySem.W.recIn K p20 "property" = some (.ref f20 :: rs20))
    (l20 : K.lookup f20 = some ⟨oc20, od20, .func (PySem.W.fnOf "changes" "Rule.changes" (defArgs sRuChanges) (defBody sRuChanges) (defScope sRuChanges) .none kV20 dc20 pm20 an20 cd20 ct20), sl20⟩)
    (c20 : PySem.W.codeIn K cd20 "Rule.changes" = true)
    (k20 : PySem.W.keepIn K (.ref f20) = true)
    (a21 : PySem.W.findIn K (.ref RR) "offset" = some (some (.ref f21)))
    (i21 : PySem.W.isFn K (.ref f21) = true)
    (j21 : PySem.W.fnIn K f21 = true)
    (l21 : K.lookup f21 = some ⟨oc21, od21, .func (PySem.W.fnOf "offset" "Rule.offset" (defArgs sRuOff) (defBody sRuOff) (defScope sRuOff) .none kV21 dc21 pm21 an21 cd21 ct21), sl21⟩)
    (c21 : PySem.W.codeIn K cd21 "Rule.offset" = true)
    (k21 : PySem.W.keepIn K (.ref f21) = true)
    (a22 : PySem.W.findIn K (.ref RR) "answer" = some (some (.ref f22)))
    (i22 : PySem.W.isFn K (.ref f22) = true)
    (j22 : PySem.W.fnIn K f22 = true)
    (l22 : K.lookup f22 = some ⟨oc22, od22, .func (PySem.W.fnOf "answer" "Rule.answer" (defArgs sRuAns) (defBody sRuAns) (defScope sRuAns) .none kV22 dc22 pm22 an22 cd22 ct22), sl22⟩)
    (c22 : PySem.W.codeIn K cd22 "Rule.answer" = true)
    (k22 : PySem.W.keepIn K (.ref f22) = true)
    (a23 : PySem.W.findIn K (.ref RR) "__call__" = some (some (.ref f23)))
    (i23 : PySem.W.isFn K (.ref f23) = true)
    (j23 : PySem.W.fnIn K f23 = true)
    (l23 : K.lookup f23 = some ⟨oc23, od23, .func (PySem.W.fnOf "__call__" "Rule.__call__" (defArgs sRuCall) (defBody sRuCall) (defScope sRuCall) .none kV23 dc23 pm23 an23 cd23 ct23), sl23⟩)
    (c23 : PySem.W.codeIn K cd23 "Rule.__call__" = true)
    (k23 : PySem.W.keepIn K (.ref f23) = true)
    (z_int : PySem.W.nsIn K mainGlobals "int" = some none)
    (z_len : PySem.W.nsIn K mainGlobals "len" = some none)
    (z_abs : PySem.W.nsIn K mainGlobals "abs" = some none)
    (z_max : PySem.W.nsIn K mainGlobals "max" = some none)
    (z_min : PySem.W.nsIn K mainGlobals "min" = some none)
    (z_range : PySem.W.nsIn K mainGlobals "range" = some none)
    (z_repr : PySem.W.nsIn K mainGlobals "repr" = some none)
    (z_list : PySem.W.nsIn K mainGlobals "list" = some none)
    (z_enumerate : PySem.W.nsIn K mainGlobals "enumerate" = some none)
    (z_sorted : PySem.W.nsIn K mainGlobals "sorted" = some none)
    (q_GREATEST_WEEK : PySem.W.nsIn K mainGlobals "GREATEST_WEEK" = some (some (.int 12 t_GREATEST_WEEK)))
    (pgLL : PySem.W.plainGet K LL Str.empty = true)
    (hdLL : PySem.W.hasDictIn K LL = true)
    (poLL : PySem.W.plainOver K LL = true)
    (mkLL : PySem.W.makesIn K LL = true)
    (kcLL : PySem.W.keepIn K (.ref LL) = true)
    (saLL : PySem.W.findIn K (.ref LL) "__setattr__" = some (some (.builtin "object.__setattr__")))
    (nLLrest : PySem.W.findIn K (.ref LL) "rest" = some none)
    (nLLstep : PySem.W.findIn K (.ref LL) "step" = some none)
    (nLLmarks : PySem.W.findIn K (.ref LL) "marks" = some none)
    (nLLoffsets : PySem.W.findIn K (.ref LL) "offsets" = some none)
    (nLLgoals : PySem.W.findIn K (.ref LL) "goals" = some none)
    (pgRR : PySem.W.plainGet K RR Str.empty = true)
    (hdRR : PySem.W.hasDictIn K RR = true)
    (poRR : PySem.W.plainOver K RR = true)
    (mkRR : PySem.W.makesIn K RR = true)
    (kcRR : PySem.W.keepIn K (.ref RR) = true)
    (saRR : PySem.W.findIn K (.ref RR) "__setattr__" = some (some (.builtin "object.__setattr__")))
    (nRR_base : PySem.W.findIn K (.ref RR) "_base" = some none)
    (nRR_changes : PySem.W.findIn K (.ref RR) "_changes" = some none)
    (nRR_lanes : PySem.W.findIn K (.ref RR) "_lanes" = some none) :
    ∃ fd : FuncData, (∀ (s : Shared) (v : Value), BindsTo s fd ⟨[v], []⟩ [("script", v)]) ∧ ∀ base : Heap, K.In base → base.Ns mainGlobals mg → FnG l.prog w K mg base 8 fa fd ["script"] (spLaw K) := by
  have e := hfa.symm.trans (PySem.W.mg_of X G a14)
  cases e
  have F_sChkWeek := fun_mk (st := sChkWeek) l0 c0 k0
  have b_sChkWeek := F_sChkWeek.binds (ps := ["number"]) fun _ _ _ _ _ _ us hl => match us, hl with | [_], _ => rfl
  have m_sChkWeek := PySem.W.mg_of X G a0
  have k_sChkWeek := k0
  have F_sBehind := fun_mk (st := sBehind) l1 c1 k1
  have b_sBehind := F_sBehind.binds (ps := ["changes", "index"]) fun _ _ _ _ _ _ us hl => match us, hl with | [_, _], _ => rfl
  have m_sBehind := PySem.W.mg_of X G a1
  have k_sBehind := k1
  have F_sUpto := fun_mk (st := sUpto) l2 c2 k2
  have b_sUpto := F_sUpto.binds (ps := ["numbers", "limit"]) fun _ _ _ _ _ _ us hl => match us, hl with | [_, _], _ => rfl
  have m_sUpto := PySem.W.mg_of X G a2
  have k_sUpto := k2
  have F_sTelling := fun_mk (st := sTelling) l3 c3 k3
  have b_sTelling := F_sTelling.binds (ps := ["base", "changes"]) fun _ _ _ _ _ _ us hl => match us, hl with | [_, _], _ => rfl
  have m_sTelling := PySem.W.mg_of X G a3
  have k_sTelling := k3
  have F_sLanes := fun_mk (st := sLanes) l4 c4 k4
  have b_sLanes := F_sLanes.binds (ps := ["base", "changes"]) fun _ _ _ _ _ _ us hl => match us, hl with | [_, _], _ => rfl
  have m_sLanes := PySem.W.mg_of X G a4
  have k_sLanes := k4
  have F_sChanged := fun_mk (st := sChanged) l5 c5 k5
  have m_sChanged := PySem.W.mg_of X G a5
  have k_sChanged := k5
  have F_sBeside : FunD K "beside" "beside" (defArgs sBeside) (defBody sBeside) (defScope sBeside) [.int 0] [] f6 _ := ⟨⟨_, _, _, _, _, _, _, _, _, _, rfl, l6, c6, .inr ⟨by decide, dT6, _, [.int 0 tk6], nT6, rfl, lT6, rfl, .cons ⟨_, rfl⟩ .nil⟩, .inl rfl⟩, k6⟩
  have m_sBeside := PySem.W.mg_of X G a6
  have k_sBeside := k6
  have F_sAscend := fun_mk (st := sAscend) l7 c7 k7
  have b_sAscend := F_sAscend.binds (ps := ["changes"]) fun _ _ _ _ _ _ us hl => match us, hl with | [_], _ => rfl
  have m_sAscend := PySem.W.mg_of X G a7
  have k_sAscend := k7
  have F_sRising := fun_mk (st := sRising) l8 c8 k8
  have b_sRising := F_sRising.binds (ps := ["rule"]) fun _ _ _ _ _ _ us hl => match us, hl with | [_], _ => rfl
  have m_sRising := PySem.W.mg_of X G a8
  have k_sRising := k8
  have F_sPool := fun_mk (st := sPool) l9 c9 k9
  have b_sPool := F_sPool.binds (ps := ["script", "spot"]) fun _ _ _ _ _ _ us hl => match us, hl with | [_, _], _ => rfl
  have m_sPool := PySem.W.mg_of X G a9
  have k_sPool := k9
  have F_sDraw := fun_mk (st := sDraw) l10 c10 k10
  have b_sDraw := F_sDraw.binds (ps := ["pool", "span"]) fun _ _ _ _ _ _ us hl => match us, hl with | [_, _], _ => rfl
  have m_sDraw := PySem.W.mg_of X G a10
  have k_sDraw := k10
  have F_sRisingL := fun_mk (st := sRisingL) l11 c11 k11
  have b_sRisingL := F_sRisingL.binds (ps := ["pool", "size"]) fun _ _ _ _ _ _ us hl => match us, hl with | [_, _], _ => rfl
  have m_sRisingL := PySem.W.mg_of X G a11
  have k_sRisingL := k11
  have F_sShape := fun_mk (st := sShape) l12 c12 k12
  have b_sShape := F_sShape.binds (ps := ["made"]) fun _ _ _ _ _ _ us hl => match us, hl with | [_], _ => rfl
  have m_sShape := PySem.W.mg_of X G a12
  have k_sShape := k12
  have F_sRight := fun_mk (st := sRight) l13 c13 k13
  have b_sRight := F_sRight.binds (ps := ["pool"]) fun _ _ _ _ _ _ us hl => match us, hl with | [_], _ => rfl
  have m_sRight := PySem.W.mg_of X G a13
  have k_sRight := k13
  have F_sLaw := fun_mk (st := sLaw) l14 c14 k14
  have b_sLaw := F_sLaw.binds (ps := ["script"]) fun _ _ _ _ _ _ us hl => match us, hl with | [_], _ => rfl
  have m_sLaw := PySem.W.mg_of X G a14
  have k_sLaw := k14
  have o_sLaneI : Own K LL "__init__" f15 := ⟨a15, i15, j15⟩
  have F_sLaneI := fun_mk (st := sLaneI) l15 c15 k15
  have b_sLaneI := F_sLaneI.binds (ps := ["self", "rest", "step", "offset", "changes"]) fun _ _ _ _ _ _ us hl => match us, hl with | [_, _, _, _, _], _ => rfl
  have h_sLaneI : Meth K LL "__init__" f15 := ⟨a15, i15, k15⟩
  have MKLL : Mk K LL f15 := ⟨mkLL, a15, i15, kcLL⟩
  have o_sLaneOff : Own K LL "offset" f16 := ⟨a16, i16, j16⟩
  have F_sLaneOff := fun_mk (st := sLaneOff) l16 c16 k16
  have b_sLaneOff := F_sLaneOff.binds (ps := ["self", "moment"]) fun _ _ _ _ _ _ us hl => match us, hl with | [_, _], _ => rfl
  have h_sLaneOff : Meth K LL "offset" f16 := ⟨a16, i16, k16⟩
  have o_sRuI : Own K RR "__init__" f17 := ⟨a17, i17, j17⟩
  have F_sRuI := fun_mk (st := sRuI) l17 c17 k17
  have b_sRuI := F_sRuI.binds (ps := ["self", "base", "changes"]) fun _ _ _ _ _ _ us hl => match us, hl with | [_, _, _], _ => rfl
  have h_sRuI : Meth K RR "__init__" f17 := ⟨a17, i17, k17⟩
  have MKRR : Mk K RR f17 := ⟨mkRR, a17, i17, kcRR⟩
  have F_sRuWeek := fun_mk (st := sRuWeek) l18 c18 k18
  have b_sRuWeek := F_sRuWeek.binds (ps := ["self"]) fun _ _ _ _ _ _ us hl => match us, hl with | [_], _ => rfl
  have P_sRuWeek : PropOf K RR "week" p18 f18 := ⟨a18, g18, t18, _, r18⟩
  have F_sRuBase := fun_mk (st := sRuBase) l19 c19 k19
  have b_sRuBase := F_sRuBase.binds (ps := ["self"]) fun _ _ _ _ _ _ us hl => match us, hl with | [_], _ => rfl
  have P_sRuBase : PropOf K RR "base" p19 f19 := ⟨a19, g19, t19, _, r19⟩
  have F_sRuChanges := fun_mk (st := sRuChanges) l20 c20 k20
  have b_sRuChanges := F_sRuChanges.binds (ps := ["self"]) fun _ _ _ _ _ _ us hl => match us, hl with | [_], _ => rfl
  have P_sRuChanges : PropOf K RR "changes" p20 f20 := ⟨a20, g20, t20, _, r20⟩
  have o_sRuOff : Own K RR "offset" f21 := ⟨a21, i21, j21⟩
  have F_sRuOff := fun_mk (st := sRuOff) l21 c21 k21
  have b_sRuOff := F_sRuOff.binds (ps := ["self", "moment"]) fun _ _ _ _ _ _ us hl => match us, hl with | [_, _], _ => rfl
  have h_sRuOff : Meth K RR "offset" f21 := ⟨a21, i21, k21⟩
  have o_sRuAns : Own K RR "answer" f22 := ⟨a22, i22, j22⟩
  have F_sRuAns := fun_mk (st := sRuAns) l22 c22 k22
  have b_sRuAns := F_sRuAns.binds (ps := ["self", "moment"]) fun _ _ _ _ _ _ us hl => match us, hl with | [_, _], _ => rfl
  have h_sRuAns : Meth K RR "answer" f22 := ⟨a22, i22, k22⟩
  have o_sRuCall : Own K RR "__call__" f23 := ⟨a23, i23, j23⟩
  have F_sRuCall := fun_mk (st := sRuCall) l23 c23 k23
  have b_sRuCall := F_sRuCall.binds (ps := ["self", "moment"]) fun _ _ _ _ _ _ us hl => match us, hl with | [_, _], _ => rfl
  have h_sRuCall : Meth K RR "__call__" f23 := ⟨a23, i23, k23⟩
  have clLL : Cls K LL := ⟨pgLL, hdLL, poLL, saLL⟩
  have mgLL := PySem.W.mg_of X G aLL
  have clRR : Cls K RR := ⟨pgRR, hdRR, poRR, saRR⟩
  have mgRR := PySem.W.mg_of X G aRR
  have n_int : mg "int" = none := PySem.W.mg_none_of X G z_int
  have n_len : mg "len" = none := PySem.W.mg_none_of X G z_len
  have n_abs : mg "abs" = none := PySem.W.mg_none_of X G z_abs
  have n_max : mg "max" = none := PySem.W.mg_none_of X G z_max
  have n_min : mg "min" = none := PySem.W.mg_none_of X G z_min
  have n_range : mg "range" = none := PySem.W.mg_none_of X G z_range
  have n_repr : mg "repr" = none := PySem.W.mg_none_of X G z_repr
  have n_list : mg "list" = none := PySem.W.mg_none_of X G z_list
  have n_enumerate : mg "enumerate" = none := PySem.W.mg_none_of X G z_enumerate
  have n_sorted : mg "sorted" = none := PySem.W.mg_none_of X G z_sorted
  have v_GREATEST_WEEK := PySem.W.mg_of X G q_GREATEST_WEEK
  refine ⟨PySem.W.fnOf "law" "law" (defArgs sLaw) (defBody sLaw) (defScope sLaw) .none kV14 dc14 pm14 an14 cd14 ct14, fun s v => .of_eq rfl, fun base _ _ => ?_⟩
  have T : Blt mg := ⟨n_int, n_len, n_abs, n_max, n_min, n_range, n_repr, n_list⟩
  have QW : ConW mg := ⟨⟨_, v_GREATEST_WEEK⟩⟩
  have ZL : LaC K mg LL := ⟨clLL, nLLrest, nLLstep, nLLmarks, nLLoffsets, nLLgoals, mgLL⟩
  have ZR : RuC K mg RR := ⟨clRR, nRR_base, nRR_changes, nRR_lanes, mgRR⟩
  have T5 : Blt5 mg := ⟨n_sorted⟩
  have CWk : At l.prog w K mg base 1 "check_week" ["number"] spChkW _ _ := ⟨ok_chkW F_sChkWeek QW, m_sChkWeek, k_sChkWeek, b_sChkWeek⟩
  have IBh : At l.prog w K mg base 1 "is_behind" ["changes", "index"] (spBehind K) _ _ := ⟨ok_behind F_sBehind, m_sBehind, k_sBehind, b_sBehind⟩
  have Up : At l.prog w K mg base 1 "many_upto" ["numbers", "limit"] spUpto _ _ := ⟨ok_upto F_sUpto T, m_sUpto, k_sUpto, b_sUpto⟩
  have GLI : FnOk l.prog w K mg base CX0 1 _ _ ["self", "rest", "step", "offset", "changes"] (spLaneI LL K) := ok_laneI F_sLaneI ZL
  have GLO : FnOk l.prog w K mg base CX0 2 _ _ ["self", "moment"] (spLaneOff LL) := ok_laneOff F_sLaneOff ZL Up
  have Te0 : At l.prog w K mg base 1 "telling_changes" ["base", "changes"] (spTelling0 K) _ _ := ⟨ok_telling0 F_sTelling T, m_sTelling, k_sTelling, b_sTelling⟩
  have La0 : At l.prog w K mg base 3 "lanes_of" ["base", "changes"] (spLanes0 LL K) _ _ := ⟨ok_lanes0 F_sLanes T n_enumerate ZL MKLL GLI b_sLaneI, m_sLanes, k_sLanes, b_sLanes⟩
  have V1 : Pp l.prog w K mg base RR "week" (spRuWeek RR LL) _ _ _ := ⟨P_sRuWeek, ok_ruWeek F_sRuWeek ZR T, b_sRuWeek⟩
  have V2 : Pp l.prog w K mg base RR "base" (spRuBase RR LL) _ _ _ := ⟨P_sRuBase, ok_ruBase F_sRuBase ZR T, b_sRuBase⟩
  have V3 : Pp l.prog w K mg base RR "changes" (spChOf (ThR RR LL)) _ _ _ := ⟨P_sRuChanges, ok_ruChanges F_sRuChanges ZR T, b_sRuChanges⟩
  have ChM : AtR l.prog w K mg base 3 "changed_moments" (spMoms (ThR RR LL)) _ := ⟨ok_moms F_sChanged ZR.cl thR T5 V3, m_sChanged, k_sChanged⟩
  have GRO : FnOk l.prog w K mg base CX0 3 _ _ ["self", "moment"] (spRuOff RR LL) := ok_ruOff F_sRuOff ZR T ZL h_sLaneOff GLO b_sLaneOff
  have GRA : FnOk l.prog w K mg base CX0 4 _ _ ["self", "moment"] (spRuAns RR LL) := ok_ruAns F_sRuAns ZR h_sRuOff GRO b_sRuOff
  have GRC : FnOk l.prog w K mg base CX0 5 _ _ ["self", "moment"] (spRuAns RR LL) := ok_ruCall F_sRuCall ZR h_sRuAns GRA b_sRuAns
  have FB := ok_beside (P := l.prog) (w := w) (mg := mg) (base := base) F_sBeside T T5
  obtain ⟨dd, rB, bB⟩ := F_sBeside.binds1 (ps := ["cuts", "week", "centre"]) 2 0 (by decide) (by decide) (fun T kV doc pm an cdv ct us its l1 l2 => match us, its, l1, l2 with | [a, b], [d], _, _ => ⟨_, rfl, rfl⟩)
  have Ac0 : At l.prog w K mg base 2 "check_ascending" ["changes"] (spAscend0 K) _ _ := ⟨ok_ascend0 F_sAscend T IBh, m_sAscend, k_sAscend, b_sAscend⟩
  have Ri0 : At l.prog w K mg base 4 "check_rising" ["rule"] (spRising0 RR LL) _ _ := ⟨ok_rising0 F_sRising ZR ChM FB m_sBeside k_sBeside bB rB V1 h_sRuOff GRO b_sRuOff, m_sRising, k_sRising, b_sRising⟩
  have GRI : FnOk l.prog w K mg base CX0 5 _ _ ["self", "base", "changes"] (spRuI0 RR LL K) := ok_ruI0 F_sRuI ZR T CWk Ac0 Te0 La0 Ri0
  have Dr : Dk l.prog w K mg base _ _ := ⟨ok_draw F_sDraw T, m_sDraw, k_sDraw, b_sDraw⟩
  have Po : At l.prog w K mg base 1 "_law_pool" ["script", "spot"] (spPool K) _ _ := ⟨ok_pool F_sPool T, m_sPool, k_sPool, b_sPool⟩
  have Rs : At l.prog w K mg base 2 "_law_rising" ["pool", "size"] spRisingL _ _ := ⟨ok_risingL F_sRisingL T T5 Dr, m_sRisingL, k_sRisingL, b_sRisingL⟩
  have GS : FnG l.prog w K mg base 3 _ _ ["made"] (spShape RR LL) := ok_shape F_sShape ZR T V1 V2 V3
  have GF : FnG l.prog w K mg base 7 _ _ ["pool"] spFits := ok_right F_sRight T n_enumerate ZR Dr Rs GS m_sShape k_sShape b_sShape MKRR GRI b_sRuI (kb_ru F_sRuI) ⟨o_sRuCall.at_, o_sRuCall.fn, o_sRuCall.fi⟩ GRC b_sRuCall
  exact ok_law (by decide) F_sLaw T Po GF m_sRight k_sRight b_sRight
end
end DK
open PySem PySem.W PyProof.Rows
set_option maxRecDepth 100000 in
set_option maxHeartbeats 0 in
theorem PySem.Challenge.cw_dueclocks_k20_rules_without_changes_holds : PySem.Challenge.rw_dueclocks_k20_rules_without_changes.Holds := by
  w_on; o_law; k_head; (case hw => w_witness2)
  k_fill
  refine DK.walkG (l := PySem.Challenge.rw_dueclocks_k20_rules_without_changes) (n := 63) (k := 8) (x := "script") (sp := DK.spLaw) rfl (by decide) rfl ⟨rfl, by decide, by decide⟩ (fun w h Y => PySem.W.kIn_of Y) ?F (fun J H a ns hl hO hS => ⟨a, ns, rfl, DK.Scr.of hO hS, hl, fun _ => rfl⟩)
  case F =>
    intro w mg fa h KX G hmg
    refine' DK.all_mk KX G hmg ?aLL ?aRR ?a0 ?l0 ?c0 ?k0 ?a1 ?l1 ?c1 ?k1 ?a2 ?l2 ?c2 ?k2 ?a3 ?l3 ?c3 ?k3 ?a4 ?l4 ?c4 ?k4 ?a5 ?l5 ?c5 ?k5 ?a6 ?l6 ?lT6 ?c6 ?k6 ?a7 ?l7 ?c7 ?k7 ?a8 ?l8 ?c8 ?k8 ?a9 ?l9 ?c9 ?k9 ?a10 ?l10 ?c10 ?k10 ?a11 ?l11 ?c11 ?k11 ?a12 ?l12 ?c12 ?k12 ?a13 ?l13 ?c13 ?k13 ?a14 ?l14 ?c14 ?k14 ?a15 ?i15 ?j15 ?l15 ?c15 ?k15 ?a16 ?i16 ?j16 ?l16 ?c16 ?k16 ?a17 ?i17 ?j17 ?l17 ?c17 ?k17 ?a18 ?g18 ?t18 ?r18 ?l18 ?c18 ?k18 ?a19 ?g19 ?t19 ?r19 ?l19 ?c19 ?k19 ?a20 ?g20 ?t20 ?r20 ?l20 ?c20 ?k20 ?a21 ?i21 ?j21 ?l21 ?c21 ?k21 ?a22 ?i22 ?j22 ?l22 ?c22 ?k22 ?a23 ?i23 ?j23 ?l23 ?c23 ?k23 ?z_int ?z_len ?z_abs ?z_max ?z_min ?z_range ?z_repr ?z_list ?z_enumerate ?z_sorted ?q_GREATEST_WEEK ?pgLL ?hdLL ?poLL ?mkLL ?kcLL ?saLL ?nLLrest ?nLLstep ?nLLmarks ?nLLoffsets ?nLLgoals ?pgRR ?hdRR ?poRR ?mkRR ?kcRR ?saRR ?nRR_base ?nRR_changes ?nRR_lanes
    (case aLL => k_is)
    (case aRR => k_is)
    (case a0 => k_is)
    (case l0 => k_is)
    (case c0 => k_is)
    (case k0 => k_is)
    (case a1 => k_is)
    (case l1 => k_is)
    (case c1 => k_is)
    (case k1 => k_is)
    (case a2 => k_is)
    (case l2 => k_is)
    (case c2 => k_is)
    (case k2 => k_is)
    (case a3 => k_is)
    (case l3 => k_is)
    (case c3 => k_is)
    (case k3 => k_is)
    (case a4 => k_is)
    (case l4 => k_is)
    (case c4 => k_is)
    (case k4 => k_is)
    (case a5 => k_is)
    (case l5 => k_is)
    (case c5 => k_is)
    (case k5 => k_is)
    (case a6 => k_is)
    (case l6 => k_is)
    (case lT6 => k_is)
    (case c6 => k_is)
    (case k6 => k_is)
    (case a7 => k_is)
    (case l7 => k_is)
    (case c7 => k_is)
    (case k7 => k_is)
    (case a8 => k_is)
    (case l8 => k_is)
    (case c8 => k_is)
    (case k8 => k_is)
    (case a9 => k_is)
    (case l9 => k_is)
    (case c9 => k_is)
    (case k9 => k_is)
    (case a10 => k_is)
    (case l10 => k_is)
    (case c10 => k_is)
    (case k10 => k_is)
    (case a11 => k_is)
    (case l11 => k_is)
    (case c11 => k_is)
    (case k11 => k_is)
    (case a12 => k_is)
    (case l12 => k_is)
    (case c12 => k_is)
    (case k12 => k_is)
    (case a13 => k_is)
    (case l13 => k_is)
    (case c13 => k_is)
    (case k13 => k_is)
    (case a14 => k_is)
    (case l14 => k_is)
    (case c14 => k_is)
    (case k14 => k_is)
    (case a15 => k_is)
    (case i15 => k_is)
    (case j15 => k_is)
    (case l15 => k_is)
    (case c15 => k_is)
    (case k15 => k_is)
    (case a16 => k_is)
    (case i16 => k_is)
    (case j16 => k_is)
    (case l16 => k_is)
    (case c16 => k_is)
    (case k16 => k_is)
    (case a17 => k_is)
    (case i17 => k_is)
    (case j17 => k_is)
    (case l17 => k_is)
    (case c17 => k_is)
    (case k17 => k_is)
    (case a18 => k_is)
    (case g18 => k_is)
    (case t18 => k_is)
    (case r18 => k_is)
    (case l18 => k_is)
    (case c18 => k_is)
    (case k18 => k_is)
    (case a19 => k_is)
    (case g19 => k_is)
    (case t19 => k_is)
    (case r19 => k_is)
    (case l19 => k_is)
    (case c19 => k_is)
    (case k19 => k_is)
    (case a20 => k_is)
    (case g20 => k_is)
    (case t20 => k_is)
    (case r20 => k_is)
    (case l20 => k_is)
    (case c20 => k_is)
    (case k20 => k_is)
    (case a21 => k_is)
    (case i21 => k_is)
    (case j21 => k_is)
    (case l21 => k_is)
    (case c21 => k_is)
    (case k21 => k_is)
    (case a22 => k_is)
    (case i22 => k_is)
    (case j22 => k_is)
    (case l22 => k_is)
    (case c22 => k_is)
    (case k22 => k_is)
    (case a23 => k_is)
    (case i23 => k_is)
    (case j23 => k_is)
    (case l23 => k_is)
    (case c23 => k_is)
    (case k23 => k_is)
    (case z_int => k_is)
    (case z_len => k_is)
    (case z_abs => k_is)
    (case z_max => k_is)
    (case z_min => k_is)
    (case z_range => k_is)
    (case z_repr => k_is)
    (case z_list => k_is)
    (case z_enumerate => k_is)
    (case z_sorted => k_is)
    (case q_GREATEST_WEEK => k_is)
    (case pgLL => k_is)
    (case hdLL => k_is)
    (case poLL => k_is)
    (case mkLL => k_is)
    (case kcLL => k_is)
    (case saLL => k_is)
    (case nLLrest => k_is)
    (case nLLstep => k_is)
    (case nLLmarks => k_is)
    (case nLLoffsets => k_is)
    (case nLLgoals => k_is)
    (case pgRR => k_is)
    (case hdRR => k_is)
    (case poRR => k_is)
    (case mkRR => k_is)
    (case kcRR => k_is)
    (case saRR => k_is)
    (case nRR_base => k_is)
    (case nRR_changes => k_is)
    (case nRR_lanes => k_is)

